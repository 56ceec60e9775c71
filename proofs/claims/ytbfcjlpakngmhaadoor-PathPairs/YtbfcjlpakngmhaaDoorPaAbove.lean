/- path.Above. Conditions: texts within the reach. -/
import Derived.Test.YtbfcjlpakngmhaaDoorPaGood
import Derived.Test.YtbfcjlpakngmhaaDoorPaNestL
namespace Go.Proofs.YtbfcjlpakngmhaaDoor
open Go.RowKit

theorem append_data (a b : ByteArray) : (a ++ b).data.toList = a.data.toList ++ b.data.toList := by simp

set_option maxRecDepth 100000 in
set_option maxHeartbeats 1000000 in
theorem above_any (a b : ByteArray) (ha : a.size ≤ 140737488351232) (hb : b.size ≤ 140737488351232) {w : World} (hU : U8 w) :
    Calls Tryd.prog 23 #[.string a, .string b] w fun e w' => e = .returned (.bool (Pt.above a.data.toList b.data.toList)) ∧ Quiet w w' := by
  have HA := Lib.hid (good_any a ha hU)
  have HB : Hid (∀ W, U8 W → Calls Tryd.prog 13 #[.string b] W fun e w' => e = .returned (.bool (Pt.good b.data.toList)) ∧ Quiet W w') := fun W h => good_any b hb h
  have HP : Hid (∀ W, Calls Tryd.prog 41 #[.string b, .string (a ++ ⟨#[47]⟩)] W fun e w' => e = .returned (.bool (Lib.hasPrefix b.data.toList (a.data.toList ++ [47]))) ∧ w' = W) := fun W => by
    have := sHasPrefix_any b (a ++ ⟨#[47]⟩) W
    rw [append_data] at this
    exact this
  have HR : Hid (Pt.above a.data.toList b.data.toList = (Pt.good a.data.toList && (Pt.good b.data.toList && Lib.hasPrefix b.data.toList (a.data.toList ++ [47])))) := rfl
  rw [HR.out]
  clear HR
  generalize hgs : Pt.good a.data.toList = X at *
  have HU := Lib.hid hU
  have HSA : Hid (X = true → a.size ≤ 400) := fun h => by have := Pt.good_len (hgs.trans h); rwa [← Lib.size_eq] at this
  clear hgs
  generalize Pt.good b.data.toList = Y at *
  generalize Lib.hasPrefix b.data.toList (a.data.toList ++ [47]) = Z at *
  clear hU ha hb
  cases X with
  | false =>
    go_enter Tryd.func23, Tryd.ntmps23
    go_wp2_with (go_at_call 13; refine HA.out.mono ?_; rintro e w1 ⟨rfl, hq⟩; have HQ := Lib.hid hq; clear hq)
    go_ret
    exact ⟨rfl, HQ.out⟩
  | true =>
    have hsa := HSA.out rfl
    cases Y with
    | false =>
      go_enter Tryd.func23, Tryd.ntmps23
      go_wp2_with fail
      refine HA.out.mono ?_
      rintro e w1 ⟨rfl, hq⟩
      have HU1 := Lib.hid (HU.out.quiet hq)
      have HQ := Lib.hid hq
      clear hq
      go_wp2_with fail
      refine (HB.out _ HU1.out).mono ?_
      rintro e w2 ⟨rfl, hq⟩
      have HQ2 := Lib.hid (HQ.out.trans hq)
      clear hq
      go_wp2_with fail
      go_ret
      exact ⟨rfl, HQ2.out⟩
    | true =>
      go_enter Tryd.func23, Tryd.ntmps23
      go_wp2_with fail
      refine HA.out.mono ?_
      rintro e w1 ⟨rfl, hq⟩
      have HU1 := Lib.hid (HU.out.quiet hq)
      have HQ := Lib.hid hq
      clear hq
      go_wp2_with fail
      refine (HB.out _ HU1.out).mono ?_
      rintro e w2 ⟨rfl, hq⟩
      have HQ2 := Lib.hid (HQ.out.trans hq)
      clear hq
      go_wp2_with fail
      refine (HP.out _).mono ?_
      rintro e w3 ⟨rfl, rfl⟩
      go_wp2_with fail
      go_ret
      exact ⟨rfl, HQ2.out⟩

end Go.Proofs.YtbfcjlpakngmhaaDoor
