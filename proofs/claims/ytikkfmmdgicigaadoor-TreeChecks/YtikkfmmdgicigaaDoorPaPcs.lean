/- path.pieces: an iterator over the pieces of a text. Conditions: texts within the reach. -/
import Derived.Test.YtikkfmmdgicigaaDoorPaCut
import Derived.RangeFuncNested
import Derived.RangeFuncBound
import Derived.RangeFuncCalls
import Derived.RangeFuncLeaves
import Derived.RangeFuncBox
import Derived.Shelf.Abstract
import Derived.Shelf.RegionOpen
import Derived.OwnWalkIn
import Derived.TacticsInMore
import Derived.LoopNIn
import Derived.LoopIn
namespace Go.Proofs.YtikkfmmdgicigaaDoor
open Go.RowKit
attribute [local go_sem] Oper.semAt_some

/-- A text no longer than M. -/
abbrev PcM (M : Nat) := { s : ByteArray // s.size ≤ M }
/-- A text within the reach. -/
abbrev Pc := PcM 140737488351232
/-- Their bytes. -/
def pcL {M : Nat} (ps : List (PcM M)) : List (List UInt8) := ps.map fun p => p.1.data.toList
theorem pcL_append {M : Nat} (a b : List (PcM M)) : pcL (a ++ b) = pcL a ++ pcL b := by simp [pcL]
theorem pcL_snoc {M : Nat} (a : List (PcM M)) (x : PcM M) : pcL (a ++ [x]) = pcL a ++ [x.1.data.toList] := by simp [pcL]
theorem pcL_length {M : Nat} (a : List (PcM M)) : (pcL a).length = a.length := by simp [pcL]

/-- For measures: how long a text is; one of a true. -/
def strN : Value → Nat | .string s => s.size | _ => 0
def boolN : Value → Nat | .bool true => 1 | _ => 0

theorem pieces_any (s : ByteArray) (w : World) :
    Calls Tryd.prog 62 #[.string s] w fun e w' => e = .returned (.func (.func 80) #[] #[.pointer (some ⟨w.heap.size, 0, none⟩)]) ∧ w.alloc (.cells #[.string s] 9) = w' := by
  have hmf : ∀ (fn : Fn) (first cap : Array Value) (w : World), (Instr.makeFunc fn first cap).run Tryd.prog w = .ok (.func fn first cap) w := fun _ _ _ _ => rfl
  go_enter Tryd.func62, Tryd.ntmps62
  go_wp2
  go_ret
  exact ⟨rfl, rfl⟩

theorem Cuts.size {s a b : ByteArray} {f : Bool} (h : Cuts s a b f) : a.size ≤ s.size ∧ b.size ≤ s.size ∧ (f = true → b.size < s.size) := by
  rcases h with ⟨_, rfl, rfl, rfl⟩ | ⟨_, h, _⟩
  · exact ⟨Nat.le_refl _, Nat.zero_le _, fun h => by cases h⟩
  · have := congrArg List.length h
    rw [List.length_append, List.length_cons, ← Lib.size_eq, ← Lib.size_eq, ← Lib.size_eq] at this
    exact ⟨by omega, by omega, fun _ => by omega⟩

theorem Cuts.pcs {s a b : ByteArray} {f : Bool} (h : Cuts s a b f) : Pt.pcs s.data.toList = a.data.toList :: (if f then Pt.pcs b.data.toList else []) := by
  rcases h with ⟨h, rfl, rfl, rfl⟩ | ⟨rfl, h, h2⟩
  · exact Pt.pcs_no h
  · rw [h, Pt.pcs_cut _ h2]; rfl

set_option maxRecDepth 100000 in
set_option maxHeartbeats 1000000 in
/-- What pieces hands back gives the text's pieces, one by one. -/
theorem pcs_stops (n : Nat) {M : Nat} (s : ByteArray) (hs : s.size ≤ M) (hM : M ≤ 140737488351232) (B : Nat) (w : World) (hB : B < w.heap.size) (hb : w.cell? ⟨B, 0, none⟩ = some (.string s)) :
    SeqStopsK Fence.wide n Tryd.prog 80 #[.pointer (some ⟨B, 0, none⟩)] (fun x : PcM M => #[.string x.1]) (fun _ _ => True) (fun xs => pcL xs = Pt.pcs s.data.toList)
      (fun pre => pcL pre <+: Pt.pcs s.data.toList) (s.size + 1) w := fun l J Jx W hW hJ hJx hY h0 => by
  have hc : W.cell? ⟨B, 0, none⟩ = some (.string s) := (hW.cell (p := ⟨B, 0, none⟩) hB).trans hb
  have HJ := Lib.hid hJ
  clear hJ hJx
  refine callsIn_of_wp Tryd.func80 rfl trivial ?_ rfl
  simp only [Tryd.ntmps80, List.size_toArray, List.length_cons, List.length_nil, Nat.reduceAdd, Nat.reduceSub, Array.replicate_succ, Array.replicate_zero, List.push_toArray, List.append_toArray, List.nil_append, List.cons_append]
  gi_wp2
  gi_loopw [3, 4] (fun rv mv wr => ∃ (pre : List (PcM M)) (r : ByteArray) (m : Bool), rv = .string r ∧ mv = .bool m ∧ r.size ≤ M ∧ J pre wr ∧ Hid (pcL pre ++ (if m then Pt.pcs r.data.toList else []) = Pt.pcs s.data.toList))
    (fun rv mv _ => strN rv + boolN mv)
  case atStart => exact ⟨[], s, true, rfl, rfl, hs, h0, rfl⟩
  case round =>
    obtain ⟨pre, r, m, rfl, rfl, hr, hJs, hp⟩ := hrel
    cases m with
    | false =>
      gi_wp2
      go_end0
      exact ⟨⟨_, rfl⟩, .inl ⟨pre, by simpa using hp.out, hJs⟩⟩
    | true =>
      obtain ⟨a, b, f, hcut, hC⟩ := cut_is r (by omega)
      have HC := Lib.hid hC
      have HCUT := Lib.hid hcut
      have hsz := hcut.size
      clear hC hcut
      have hP := hp.out
      replace hP : pcL pre ++ Pt.pcs r.data.toList = Pt.pcs s.data.toList := hP
      rw [HCUT.out.pcs] at hP
      have hlen : pre.length < s.size + 1 := by
        have h1 := congrArg List.length hP
        rw [List.length_append, List.length_cons, pcL_length] at h1
        have h2 := Pt.len_tot (Pt.pcs s.data.toList)
        rw [Pt.pcs_tot, ← Lib.size_eq] at h2
        omega
      have HP := Lib.hid hP
      clear hP hp
      gi_wp2_with fail
      refine ⟨trivial, fun h => (by cases h), ?_⟩
      refine (callsIn_wide.2 (HC.out _)).mono ?_
      rintro e w2 ⟨rfl, q, hw2⟩
      have hJ2 : J pre w2 := HJ.out pre wr w2 none hJs ((hw2 ▸ Quiet.drewN wr q : Quiet wr w2).grown (fun _ _ x => x.elim)) (fun r e => by cases e)
      clear hw2 hJs
      obtain ⟨fn, tmps, assign, body, hy, hR⟩ := hY pre ⟨a, by omega⟩ w2 hJ2 hlen
      dsimp only at hy
      gi_wp2
      refine ⟨fun h => (by cases h), hR.mono ?_⟩
      rintro e W3 (⟨rfl, hJ3, _⟩ | ⟨rfl, hJx3⟩)
      · gi_wp2
        go_roundw
        case rel =>
          refine ⟨pre ++ [⟨a, by omega⟩], b, f, rfl, rfl, by omega, hJ3, ?_⟩
          unfold Hid
          rw [pcL_snoc, List.append_assoc]
          exact HP.out
        case measure =>
          simp only [strN, boolN]
          cases f with
          | true => have := hsz.2.2 rfl; simp; omega
          | false =>
            have : b.size ≤ r.size := hsz.2.1
            simp; omega
      · gi_wp2
        refine bodyPost_ret (results_none rfl _ _ _) rfl ?_
        refine ⟨⟨_, rfl⟩, .inr ⟨pre ++ [⟨a, by omega⟩], ?_, hJx3⟩⟩
        rw [pcL_snoc]
        exact ⟨_, by rw [List.append_assoc]; exact HP.out⟩

end Go.Proofs.YtikkfmmdgicigaaDoor
