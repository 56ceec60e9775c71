/- path.Text, path.goodPart. Conditions: texts within the reach. -/
import Derived.Test.YtikkfmmdgicigaaDoorPaCut
import Derived.Shelf.Unicode.ValidAny
import Derived.Deep.RegionHeld3
namespace Go.Proofs.YtikkfmmdgicigaaDoor
open Go.RowKit

/-- The tables of unicode/utf8 hold what their texts lay. -/
def U8 (w : World) : Prop := Lib.Utf8Tabs 1 2 w

theorem cell_keep {S : Nat → Prop} {w w' : World} {a : Addr} {v : Value} (h : Only S w w') (hs : ¬ S a.block) (hc : w.cell? a = some v) : w'.cell? a = some v := by
  have hlt : a.block < w.heap.size := by
    rcases Nat.lt_or_ge a.block w.heap.size with h1 | h1
    · exact h1
    · unfold World.cell? at hc
      rw [Array.getElem?_eq_none h1] at hc
      cases hc
  exact (World.cell?_of_block (w := w) (h.block a.block hlt hs)).trans hc

theorem U8.keep {S : Nat → Prop} {w w' : World} (h : U8 w) (hq : Only S w w') (h0 : ¬ S 1) (h1 : ¬ S 2) : U8 w' :=
  ⟨fun c hc => cell_keep hq h0 (h.1 c hc), fun i hi => ⟨cell_keep hq h1 (h.2 i hi).1, cell_keep hq h1 (h.2 i hi).2⟩⟩
theorem U8.quiet {w w' : World} (h : U8 w) (hq : Quiet w w') : U8 w' := h.keep hq (fun x => x) (fun x => x)

theorem valid_any (s : ByteArray) (hs : s.size ≤ 9223372036854775807) {w : World} (hU : U8 w) :
    Calls Tryd.prog 105 #[.string s] w fun e w' => e = .returned (.bool (Lib.validD s.data.toList)) ∧ Quiet w w' :=
  (Any.utf8_ValidString Tryd.lays196 s w hs hU).mono fun _ _ ⟨h, hb⟩ => ⟨h, (Only.of_below hb).mono fun k hk h => by omega⟩

theorem toList_nil {s : ByteArray} : (s.toList == []) = (s.data.toList == []) := by rw [Lib.toList_data]

set_option maxRecDepth 100000 in
set_option maxHeartbeats 1000000 in
theorem text_any (s : ByteArray) (hs : s.size ≤ 9223372036854775807) (m : Int) {w : World} (hU : U8 w) :
    Calls Tryd.prog 87 #[.string s, .int .i64 m] w fun e w' => e = .returned (.bool (Pt.txt s.data.toList m)) ∧ Quiet w w' := by
  have HV := Lib.hid (valid_any s hs hU)
  have HI : Hid (∀ W, Calls Tryd.prog 106 #[.string s, .int .u8 0] W fun e w' => e = .returned (.int .i64 (Lib.indexByte s.data.toList 0)) ∧ w' = W) := fun W => sIndexByte_any s W
  clear hU
  by_cases c1 : (s.data.toList == []) = true
  · have c1' : (s.toList == []) = true := by rw [toList_nil, c1]
    have HR : Hid (Pt.txt s.data.toList m = false) := by unfold Hid Pt.txt; rw [c1]; rfl
    clear c1
    go_enter Tryd.func87, Tryd.ntmps87
    go_wp2
    go_ret
    exact ⟨by rw [HR.out]; rfl, Only.refl _ _⟩
  · have c1' : (s.toList == []) = false := by rw [toList_nil]; simpa using c1
    by_cases c2 : (s.size : Int) ≤ m
    · have HT : Hid (Pt.txt s.data.toList m = (Lib.validD s.data.toList && decide (Lib.indexByte s.data.toList 0 < 0))) := by
        have e : ((s.data.toList.length : Nat) : Int) ≤ m := by rw [← Lib.size_eq]; exact c2
        unfold Hid Pt.txt
        rw [Bool.not_eq_true] at c1
        rw [c1, decide_eq_true e, Bool.not_false, Bool.true_and, Bool.true_and]
      clear c1
      generalize Lib.validD s.data.toList = V at *
      generalize Lib.indexByte s.data.toList 0 = I at *
      cases V with
      | false =>
        go_enter Tryd.func87, Tryd.ntmps87
        go_wp2_with (go_at_call 105; refine HV.out.mono ?_; rintro e w1 ⟨rfl, hq⟩; have HQ := Lib.hid hq; clear hq)
        go_ret
        exact ⟨by rw [HT.out]; rfl, HQ.out⟩
      | true =>
        by_cases c3 : I < 0
        · go_enter Tryd.func87, Tryd.ntmps87
          go_wp2_with (first
            | (go_at_call 105; refine HV.out.mono ?_; rintro e w1 ⟨rfl, hq⟩; have HQ := Lib.hid hq; clear hq)
            | (go_at_call 106; refine (HI.out _).mono ?_; rintro e w2 ⟨rfl, rfl⟩))
          go_ret
          exact ⟨by rw [HT.out]; simp [c3], HQ.out⟩
        · go_enter Tryd.func87, Tryd.ntmps87
          go_wp2_with (first
            | (go_at_call 105; refine HV.out.mono ?_; rintro e w1 ⟨rfl, hq⟩; have HQ := Lib.hid hq; clear hq)
            | (go_at_call 106; refine (HI.out _).mono ?_; rintro e w2 ⟨rfl, rfl⟩))
          go_ret
          exact ⟨by rw [HT.out]; simp, HQ.out⟩
    · have HR : Hid (Pt.txt s.data.toList m = false) := by
        have e : ¬ ((s.data.toList.length : Nat) : Int) ≤ m := by rw [← Lib.size_eq]; exact c2
        unfold Hid Pt.txt
        rw [decide_eq_false e, Bool.false_and, Bool.and_false]
      clear c1
      go_enter Tryd.func87, Tryd.ntmps87
      go_wp2
      go_ret
      exact ⟨by rw [HR.out]; rfl, Only.refl _ _⟩

set_option maxRecDepth 100000 in
set_option maxHeartbeats 1000000 in
theorem goodPart_any (s : ByteArray) (hs : s.size ≤ 9223372036854775807) {w : World} (hU : U8 w) :
    Calls Tryd.prog 103 #[.string s] w fun e w' => e = .returned (.bool (Pt.part s.data.toList)) ∧ Quiet w w' := by
  have HX := Lib.hid (text_any s hs 120 hU)
  have HC : Hid (∀ W, Calls Tryd.prog 114 #[.string s, .string ⟨#[47]⟩] W fun e w' => e = .returned (.bool (decide (0 ≤ Lib.indexByte s.data.toList 47))) ∧ w' = W) := fun W => sContains_any s W
  have hge : decide (0 ≤ Lib.indexByte s.data.toList 47) = !decide (Lib.indexByte s.data.toList 47 < 0) := by
    rw [← decide_not]; congr 1; simp
  rw [hge] at HC
  have HT : Hid (Pt.part s.data.toList = (Pt.txt s.data.toList 120 && (decide (Lib.indexByte s.data.toList 47 < 0) && (!(s.toList == [46]) && !(s.toList == [46, 46]))))) := by
    unfold Hid; rw [Lib.toList_data]; rfl
  rw [HT.out]
  clear hU hge HT
  generalize Pt.txt s.data.toList 120 = X at *
  generalize decide (Lib.indexByte s.data.toList 47 < 0) = Y at *
  cases X with
  | false =>
    go_enter Tryd.func103, Tryd.ntmps103
    go_wp2_with (go_at_call 87; refine HX.out.mono ?_; rintro e w1 ⟨rfl, hq⟩; have HQ := Lib.hid hq; clear hq)
    go_ret
    exact ⟨rfl, HQ.out⟩
  | true =>
    cases Y with
    | false =>
      go_enter Tryd.func103, Tryd.ntmps103
      go_wp2_with (first
        | (go_at_call 87; refine HX.out.mono ?_; rintro e w1 ⟨rfl, hq⟩; have HQ := Lib.hid hq; clear hq)
        | (go_at_call 114; refine (HC.out _).mono ?_; rintro e w2 ⟨rfl, rfl⟩))
      go_ret
      exact ⟨rfl, HQ.out⟩
    | true =>
      cases d1 : (s.toList == [46]) with
      | true =>
        go_enter Tryd.func103, Tryd.ntmps103
        go_wp2_with (first
          | (go_at_call 87; refine HX.out.mono ?_; rintro e w1 ⟨rfl, hq⟩; have HQ := Lib.hid hq; clear hq)
          | (go_at_call 114; refine (HC.out _).mono ?_; rintro e w2 ⟨rfl, rfl⟩))
        go_ret
        exact ⟨rfl, HQ.out⟩
      | false =>
        cases d2 : (s.toList == [46, 46]) with
        | true =>
          go_enter Tryd.func103, Tryd.ntmps103
          go_wp2_with (first
            | (go_at_call 87; refine HX.out.mono ?_; rintro e w1 ⟨rfl, hq⟩; have HQ := Lib.hid hq; clear hq)
            | (go_at_call 114; refine (HC.out _).mono ?_; rintro e w2 ⟨rfl, rfl⟩))
          go_ret
          exact ⟨rfl, HQ.out⟩
        | false =>
          go_enter Tryd.func103, Tryd.ntmps103
          go_wp2_with (first
            | (go_at_call 87; refine HX.out.mono ?_; rintro e w1 ⟨rfl, hq⟩; have HQ := Lib.hid hq; clear hq)
            | (go_at_call 114; refine (HC.out _).mono ?_; rintro e w2 ⟨rfl, rfl⟩))
          go_ret
          exact ⟨rfl, HQ.out⟩

end Go.Proofs.YtikkfmmdgicigaaDoor
