/- path.Parent, path.Base. Conditions: texts within the reach. -/
import Derived.Test.YtikkfmmdgicigaaDoorPaGood
import Derived.Test.YtikkfmmdgicigaaDoorPaLast
import Derived.Test.YtikkfmmdgicigaaDoorPaTx
namespace Go.Proofs.YtikkfmmdgicigaaDoor
open Go.RowKit

namespace Pt
def parB (l : List UInt8) : Bool := !decide (lastS l < 0) && good l
def parL (l : List UInt8) : List UInt8 := if parB l then l.take (lastS l).toNat else []
def baseL (l : List UInt8) : List UInt8 := if good l then l.drop (lastS l + 1).toNat else []
end Pt

theorem str_txV {s : ByteArray} {l : List UInt8} (h : s.data.toList = l) : Value.string s = txV l := by rw [← h, txV_data]

set_option maxRecDepth 100000 in
set_option maxHeartbeats 1000000 in
theorem parent_any (s : ByteArray) (hs : s.size ≤ 140737488351232) {w : World} (hU : U8 w) :
    Calls Tryd.prog 34 #[.string s] w fun e w' => e = .returned (.tuple #[txV (Pt.parL s.data.toList), .bool (Pt.parB s.data.toList)]) ∧ Quiet w w' := by
  have HL := Lib.hid (last_any s (by omega))
  have HG := Lib.hid (good_any s hs hU)
  rcases Pt.lastS_range s.data.toList with hneg | ⟨i, hi, hil, _⟩
  · have HB : Hid (Pt.parB s.data.toList = false) := by unfold Hid Pt.parB; rw [hneg]; rfl
    have HP : Hid (Pt.parL s.data.toList = []) := by unfold Hid Pt.parL; rw [HB.out]; rfl
    rw [hneg] at HL
    clear hneg hU HG
    go_enter Tryd.func34, Tryd.ntmps34
    go_wp2_with fail
    refine (HL.out _).mono ?_
    rintro e w1 ⟨rfl, rfl⟩
    go_wp2_with fail
    go_ret2
    exact ⟨by rw [HB.out, HP.out]; rfl, Only.refl _ _⟩
  · have hilt : i < s.size := by rw [Lib.size_eq]; exact hil
    have hneg : ¬ ((i : Int) < 0) := by omega
    have HB : Hid (Pt.parB s.data.toList = Pt.good s.data.toList) := by unfold Hid Pt.parB; rw [hi, decide_eq_false (by omega)]; rfl
    have HP : Hid (Pt.good s.data.toList = true → Value.string (s.extract 0 i) = txV (Pt.parL s.data.toList)) := fun h => str_txV (by
      rw [Lib.extract_data]; unfold Pt.parL; rw [HB.out, h, if_pos rfl, hi]; simp)
    have HPF : Hid (Pt.good s.data.toList = false → Pt.parL s.data.toList = []) := fun h => by unfold Pt.parL; rw [HB.out, h]; rfl
    rw [HB.out]
    rw [hi] at HL
    have c1 : (0 : Int) ≤ (i : Int) := by omega
    have c2 : (i : Int) ≤ (s.size : Int) := by omega
    clear hi hil hU HB
    generalize Pt.good s.data.toList = G at *
    cases G with
    | true =>
      have HP2 := Lib.hid (HP.out rfl)
      clear HP HPF
      go_enter Tryd.func34, Tryd.ntmps34
      go_wp2_with fail
      refine (HL.out _).mono ?_
      rintro e w1 ⟨rfl, rfl⟩
      go_wp2_with fail
      refine HG.out.mono ?_
      rintro e w2 ⟨rfl, hq⟩
      have HQ := Lib.hid hq
      clear hq
      go_wp2_with fail
      go_ret2
      exact ⟨by rw [← HP2.out]; rfl, HQ.out⟩
    | false =>
      have HP2 := Lib.hid (HPF.out rfl)
      clear HP HPF
      go_enter Tryd.func34, Tryd.ntmps34
      go_wp2_with fail
      refine (HL.out _).mono ?_
      rintro e w1 ⟨rfl, rfl⟩
      go_wp2_with fail
      refine HG.out.mono ?_
      rintro e w2 ⟨rfl, hq⟩
      have HQ := Lib.hid hq
      clear hq
      go_wp2_with fail
      go_ret2
      exact ⟨by rw [HP2.out]; rfl, HQ.out⟩

set_option maxRecDepth 100000 in
set_option maxHeartbeats 1000000 in
theorem base_any (s : ByteArray) (hs : s.size ≤ 140737488351232) {w : World} (hU : U8 w) :
    Calls Tryd.prog 35 #[.string s] w fun e w' => e = .returned (txV (Pt.baseL s.data.toList)) ∧ Quiet w w' := by
  have HL := Lib.hid (last_any s (by omega))
  have HG := Lib.hid (good_any s hs hU)
  obtain ⟨j, hj, hjs⟩ : ∃ j : Nat, Pt.lastS s.data.toList + 1 = (j : Int) ∧ j ≤ s.size := by
    rcases Pt.lastS_range s.data.toList with h | ⟨i, hi, hil, _⟩
    · exact ⟨0, by omega, Nat.zero_le _⟩
    · exact ⟨i + 1, by omega, by rw [Lib.size_eq]; exact hil⟩
  have HP : Hid (Pt.good s.data.toList = true → Value.string (s.extract j s.size) = txV (Pt.baseL s.data.toList)) := fun h => str_txV (by
    rw [Lib.extract_data]; unfold Pt.baseL; rw [if_pos h, hj, List.take_of_length_le (by rw [List.length_drop, ← Lib.size_eq]; exact Nat.le_refl _)]; simp)
  have HPF : Hid (Pt.good s.data.toList = false → Pt.baseL s.data.toList = []) := fun h => by unfold Pt.baseL; rw [h]; rfl
  generalize Pt.lastS s.data.toList = L at *
  obtain rfl : L = (j : Int) - 1 := by omega
  have c0 : (j : Int) - 1 + 1 = (j : Int) := by omega
  have c1 : (0 : Int) ≤ (j : Int) := by omega
  have c2 : (j : Int) ≤ (s.size : Int) := by omega
  clear hU hj
  generalize Pt.good s.data.toList = G at *
  cases G with
  | true =>
    have HP2 := Lib.hid (HP.out rfl)
    clear HP HPF
    go_enter Tryd.func35, Tryd.ntmps35
    go_wp2_with fail
    refine HG.out.mono ?_
    rintro e w2 ⟨rfl, hq⟩
    have HQ := Lib.hid hq
    clear hq
    go_wp2_with fail
    refine (HL.out _).mono ?_
    rintro e w1 ⟨rfl, rfl⟩
    go_wp2_with fail
    go_ret
    exact ⟨by rw [← HP2.out]; rfl, HQ.out⟩
  | false =>
    have HP2 := Lib.hid (HPF.out rfl)
    clear HP HPF
    go_enter Tryd.func35, Tryd.ntmps35
    go_wp2_with fail
    refine HG.out.mono ?_
    rintro e w2 ⟨rfl, hq⟩
    have HQ := Lib.hid hq
    clear hq
    go_wp2_with fail
    go_ret
    exact ⟨by rw [HP2.out]; rfl, HQ.out⟩

end Go.Proofs.YtikkfmmdgicigaaDoor
