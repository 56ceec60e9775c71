/- slices.Collect of a text's pieces; path.Split, path.Depth. Conditions: texts within the reach. -/
import Derived.Test.YtbfcjlpakngmhaaDoorPaGood
import Derived.Test.YtbfcjlpakngmhaaDoorPaTx
import Derived.Maps.AppendAt
namespace Go.Proofs.YtbfcjlpakngmhaaDoor
open Go.RowKit
attribute [local go_sem] Oper.semAt_some

theorem info_str : (Tryd.prog.info? 9).map (fun i => (i.zero, i.size, i.bytes)) = some (some (.string ⟨#[]⟩), 1, 16) := by kernel_rfl

set_option maxRecDepth 100000 in
set_option maxHeartbeats 2000000 in
theorem appendSeq_any (s : ByteArray) (hs : s.size ≤ 20000) (B : Nat) (w : World) (hB : B < w.heap.size) (hb : w.cell? ⟨B, 0, none⟩ = some (.string s)) :
    Calls Tryd.prog 50 #[.slice none 0 0, .func (.func 49) #[] #[.pointer (some ⟨B, 0, none⟩)]] w fun e w' => ∃ v, e = .returned v ∧ w'.ownsRow w.heap.size 9 1 v (Pt.pcs s.data.toList).length ((Pt.pcs s.data.toList).map txV) ∧ Quiet w w' := by
  refine (callsIn_wide (n := 4)).1 ?_
  refine callsIn_of_wp_marks Tryd.func50 rfl trivial ?_ rfl
  simp only [Tryd.ntmps50, List.size_toArray, List.length_cons, List.length_nil, Nat.reduceAdd, Nat.reduceSub, Array.replicate_succ, Array.replicate_zero, List.push_toArray, List.append_toArray, List.nil_append, List.cons_append]
  have hw3 : ∃ w3, w3 = w.alloc (.cells #[.slice none 0 0] 25) := ⟨_, rfl⟩
  obtain ⟨w3, hw3⟩ := hw3
  have hs3 : w3.heap.size = w.heap.size + 1 := by rw [hw3]; simp
  have hr2 : Boxed w3 w.heap.size 25 (.slice none 0 0) := by rw [hw3]; exact Boxed.new w _ _
  have hr3 : w3.cell? ⟨B, 0, none⟩ = some (.string s) := by rw [hw3]; exact cell_keep (Only.alloc (w := w) (.cells #[.slice none 0 0] 25)) (fun x => x) hb
  have hq3 : Quiet w w3 := by rw [hw3]; exact Only.alloc _
  gi_wp2
  rw [← hw3]
  clear hw3
  have hown : ∀ {A C : World} {row : Option Nat}, Below w.heap.size w A → A.grownBy C row → (∀ r, row = some r → w3.heap.size ≤ r ∧ ∃ o : Obj, A.heap[r]? = some o ∧ o.isCells = false) → Below w.heap.size w C := fun h hg hr => h.grown hg h.size (fun k e => by have := (hr k e).1; omega)
  refine wpIn_rangeFunc_ownG (Kp := fun _ _ => True) rfl (by omega) (gf := 49) (lb := #[.pointer (some ⟨B, 0, none⟩)]) rfl trivial (enters_of Tryd.func49 (by kernel_rfl) rfl)
    (pcs_stops _ (M := s.size) s (Nat.le_refl _) (by omega) B w3 (by omega) hr3) (fun _ _ => trivial) (fun _ _ _ _ _ _ _ _ => trivial) (Below.refl _ _) (fun _ => rfl)
    (fun pre W => ∃ v, Boxed W w.heap.size 25 v ∧ W.ownsRow w.heap.size 9 1 v pre.length ((pcL pre).map txV) ∧ Below w.heap.size w W)
    (fun _ _ _ => False)
    (fun pre A C row hi hg hr => by
      obtain ⟨v, h1, h2, h3⟩ := hi
      refine ⟨v, h1.kept hg (fun e => by have := (hr _ e.symm).1; omega), h2.kept hg ?_, hown h3 hg hr⟩
      rcases h2.2 with ⟨rfl, _⟩ | ⟨g, cap, cur, rfl, _, hgb, _⟩
      · exact .inl rfl
      · refine .inr fun e' => ?_
        obtain ⟨_, o, ho, hc⟩ := hr g (by simpa [Value.ownBlock] using e'.symm)
        rw [hgb] at ho; cases ho; cases hc)
    (fun _ _ _ _ _ hi _ _ => hi)
    ⟨.slice none 0 0, hr2, World.ownsRow_nil _ _ _ _, hq3.below (Nat.le_refl _) (fun _ _ x => x)⟩
    (fun x => { tmps := #[.slice none 0 0, .func (.func 49) #[] #[.pointer (some ⟨B, 0, none⟩)], .pointer (some ⟨w.heap.size, 0, none⟩), undef, .slice none 0 0, .string x.1, .func (.func 49) #[] #[.pointer (some ⟨B, 0, none⟩)], .string x.1, undef, undef, undef, undef, undef], defers := [] }) ?assign ?body ?done ?stop
  case assign =>
    intro l x W K hK
    gi_wp2
    exact hK
  case body =>
    rintro l pre x W ⟨v, hb0, how, hBl⟩ hN
    obtain ⟨i0, hi, hz0, hz1, hz2⟩ := info_parts info_str
    have hc0 := hb0.cell
    have hsz := hBl.size
    gi_wp2_with (gi_at_builtin; refine wpListIn_append_own _ rfl _ _ 25 rfl w.heap.size 9 i0 (.string ⟨#[]⟩) 1 16 Tryd.underlying25 hi hz0 hz1 hz2 rfl (by decide) v pre.length _ rfl (how.alloc _) ⟨W.heap.size, 0, none⟩ 1 1 [.string x.1] rfl rfl (cell_one_new _ _ _) (by simp [Value.oneCell']) (by unfold maxLen; omega) (by omega) (by simp; omega) ?_; intro v' w1 hown' hgrow _; obtain ⟨g', cap', rfl⟩ := ownsRow_succ hown'; obtain ⟨hv1, hv2, hr4, hk2, hb2⟩ := hb0.appended (by decide) how hsz (Nat.le_refl _) hown' hgrow; have hc1 := hv1.cell; have hf1 := hv1.frozen; have HH := Lib.hid (And.intro hv2 (And.intro hr4 (And.intro hk2 hb2))); clear hv1 hv2 hr4 hk2 hb2 hown' hgrow)
    have hF := HH.out.2.2.1.from w3.heap.size
    have hrow := HH.out.2.1
    rw [show (pcL pre).map txV ++ [Value.string x.1] = (pcL (pre ++ [x])).map txV by rw [pcL_snoc, List.map_append, List.map_singleton, txV_data]] at hrow
    have hpl : (pre ++ [x]).length = pre.length + 1 := by simp
    first
      | exact ⟨hF, trivial, _, HH.out.1, by rw [hpl]; exact hrow, hBl.trans HH.out.2.2.2⟩
      | (rw [hs3] at hF; exact ⟨hF, trivial, _, HH.out.1, by rw [hpl]; exact hrow, hBl.trans HH.out.2.2.2⟩)
  case done =>
    rintro D xs W hD hS ⟨v, hb0, how, hBl⟩ hK
    have hc0 := hb0.cell
    have hL : xs.length = (Pt.pcs s.data.toList).length := by rw [← hS, pcL_length]
    rw [hL, hS] at how
    have HH := Lib.hid (And.intro how hBl)
    clear how hBl hb0
    gi_wp2
    refine ⟨by simp, .inl ⟨_, _, rfl, run_takeDeferred hK, ?_⟩⟩
    refine ⟨v, by simp [results, Tryd.f50, go_sem], v, rfl, ownsRow_putObj HH.out.1 _ hK rfl, quiet_below (HH.out.2.trans (belowK_b (w := w) (Nat.le_refl _) W D _ _ (by omega) hK rfl rfl))⟩
  case stop =>
    rintro D c pre W _ _ h _
    exact h.elim

theorem collect_any (s : ByteArray) (hs : s.size ≤ 20000) (B : Nat) (w : World) (hB : B < w.heap.size) (hb : w.cell? ⟨B, 0, none⟩ = some (.string s)) :
    Calls Tryd.prog 35 #[.func (.func 49) #[] #[.pointer (some ⟨B, 0, none⟩)]] w fun e w' => ∃ v, e = .returned v ∧ w'.ownsRow w.heap.size 9 1 v (Pt.pcs s.data.toList).length ((Pt.pcs s.data.toList).map txV) ∧ Quiet w w' := by
  have H := Lib.hid (appendSeq_any s hs B w hB hb)
  clear hb
  go_enter Tryd.func35, Tryd.ntmps35
  go_wp2_with (go_at_call 50; refine H.out.mono ?_; rintro e w1 ⟨v, rfl, how, hq⟩; have HH := Lib.hid (And.intro how hq); clear how hq)
  go_ret
  exact ⟨v, rfl, HH.out.1, HH.out.2⟩


set_option maxHeartbeats 1000000 in
theorem split_any (s : ByteArray) (hs : s.size ≤ 140737488351232) {w : World} (hU : U8 w) :
    Calls Tryd.prog 16 #[.string s] w fun e w' => ∃ v, e = .returned v ∧ TextsAt w' (fun k => k < w'.heap.size) v (Pt.split s.data.toList) ∧ Quiet w w' := by
  have HG := Lib.hid (good_any s hs hU)
  have HP := Lib.hid (pieces_any s)
  have HC : Hid (Pt.good s.data.toList = true → ∀ W : World, Calls Tryd.prog 35 #[.func (.func 49) #[] #[.pointer (some ⟨W.heap.size, 0, none⟩)]] (W.alloc (.cells #[.string s] 9)) fun e w' =>
      ∃ v, e = .returned v ∧ w'.ownsRow (W.alloc (.cells #[.string s] 9)).heap.size 9 1 v (Pt.pcs s.data.toList).length ((Pt.pcs s.data.toList).map txV) ∧ Quiet (W.alloc (.cells #[.string s] 9)) w') := fun hg W =>
    collect_any s (by have := Pt.good_len hg; rw [← Lib.size_eq] at this; omega) W.heap.size _ (by simp) (Boxed.new W 9 (.string s)).cell
  have HS : Hid (Pt.split s.data.toList = if Pt.good s.data.toList then Pt.pcs s.data.toList else []) := rfl
  rw [HS.out]
  clear HS hU
  generalize Pt.pcs s.data.toList = P at *
  cases hg : Pt.good s.data.toList with
  | true =>
    rw [hg] at HG HC
    have HC2 := Lib.hid (HC.out rfl)
    clear HC hg
    go_enter Tryd.func16, Tryd.ntmps16
    go_wp2_with fail
    refine HG.out.mono ?_
    rintro e w1 ⟨rfl, hq⟩
    have HQ := Lib.hid hq
    clear hq
    go_wp2_with fail
    refine (HP.out _).mono ?_
    rintro e w2 ⟨rfl, rfl⟩
    go_wp2_with fail
    refine (HC2.out _).mono ?_
    rintro e w3 ⟨v, rfl, how, hq⟩
    have HH := Lib.hid (And.intro how ((HQ.out.trans (Only.alloc _)).trans hq))
    clear how hq
    go_wp2_with fail
    go_ret
    exact ⟨v, rfl, TextsAt.of_row HH.out.1, HH.out.2⟩
  | false =>
    rw [hg] at HG
    clear HC HP hg
    go_enter Tryd.func16, Tryd.ntmps16
    go_wp2_with fail
    refine HG.out.mono ?_
    rintro e w1 ⟨rfl, hq⟩
    have HQ := Lib.hid hq
    clear hq
    go_wp2_with fail
    go_ret
    exact ⟨_, rfl, .inl ⟨rfl, rfl⟩, HQ.out⟩

theorem depth_any (s : ByteArray) (hs : s.size ≤ 140737488351232) {w : World} (hU : U8 w) :
    Calls Tryd.prog 18 #[.string s] w fun e w' => e = .returned (.int .i64 ((Pt.split s.data.toList).length : Nat)) ∧ Quiet w w' := by
  have H := Lib.hid (split_any s hs hU)
  generalize Pt.split s.data.toList = P at *
  clear hU
  go_enter Tryd.func18, Tryd.ntmps18
  go_wp2_with fail
  refine H.out.mono ?_
  rintro e w1 ⟨v, rfl, ht, hq⟩
  obtain ⟨a, c, rfl, _⟩ := ht.shape
  have HQ := Lib.hid hq
  clear hq ht
  go_wp2_with fail
  go_ret
  exact ⟨rfl, HQ.out⟩

end Go.Proofs.YtbfcjlpakngmhaaDoor
