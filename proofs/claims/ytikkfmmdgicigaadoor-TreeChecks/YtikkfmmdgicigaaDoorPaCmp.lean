/- path.Compare. Conditions: texts within the reach. -/
import Derived.Test.YtikkfmmdgicigaaDoorPaGood
import Derived.Test.YtikkfmmdgicigaaDoorPaCmpL
namespace Go.Proofs.YtikkfmmdgicigaaDoor
open Go.RowKit
attribute [local go_sem] Oper.semAt_some

set_option maxRecDepth 100000 in
set_option maxHeartbeats 2000000 in
theorem compare_any (a b : ByteArray) (ha : a.size ≤ 140737488351232) (hb : b.size ≤ 140737488351232) (w : World) :
    Calls Tryd.prog 51 #[.string a, .string b] w fun e w' => e = .returned (.int .i64 (Pt.cmp a.data.toList b.data.toList)) ∧ Quiet w w' := by
  have HG := Lib.hid (pieces_any a)
  refine (callsIn_wide (n := 4)).1 ?_
  refine callsIn_of_wp_marks Tryd.func51 rfl trivial ?_ rfl
  simp only [Tryd.ntmps51, List.size_toArray, List.length_cons, List.length_nil, Nat.reduceAdd, Nat.reduceSub, Array.replicate_succ, Array.replicate_zero, List.push_toArray, List.append_toArray, List.nil_append, List.cons_append]
  gi_wp2_with fail
  refine ⟨trivial, (callsIn_wide.2 (HG.out _)).mono ?_⟩
  rintro e w3 ⟨rfl, hw3⟩
  simp only [World.size_alloc] at hw3 ⊢
  have hs3 : w3.heap.size = w.heap.size + 4 := by rw [← hw3]; simp
  have hr0 : Boxed w3 w.heap.size 3 (.int .i64 0) := by rw [← hw3]; exact (((Boxed.new w _ _).alloc _).alloc _).alloc _
  have hr1 : Boxed w3 (w.heap.size + 1) 9 (.string b) := by
    rw [← hw3]; have := Boxed.new (w.alloc (.cells #[.int .i64 0] 3)) 9 (.string b); rw [World.size_alloc] at this; exact (this.alloc _).alloc _
  have hr2 : Boxed w3 (w.heap.size + 1 + 1) 4 (.bool true) := by
    rw [← hw3]; have := Boxed.new ((w.alloc (.cells #[.int .i64 0] 3)).alloc (.cells #[.string b] 9)) 4 (.bool true); rw [World.size_alloc, World.size_alloc] at this; exact this.alloc _
  have hr3 : w3.cell? ⟨w.heap.size + 1 + 1 + 1, 0, none⟩ = some (.string a) := by
    rw [← hw3]
    have := (Boxed.new (((w.alloc (.cells #[.int .i64 0] 3)).alloc (.cells #[.string b] 9)).alloc (.cells #[.bool true] 4)) 9 (.string a)).cell
    rwa [World.size_alloc, World.size_alloc, World.size_alloc] at this
  have hq3 : Quiet w w3 := by rw [← hw3]; exact (((Only.alloc _).trans (Only.alloc _)).trans (Only.alloc _)).trans (Only.alloc _)
  clear hw3 HG
  gi_wp2
  have hkeep : ∀ {A C : World} {row : Option Nat} {k : Nat}, (∀ r, row = some r → w3.heap.size ≤ r ∧ ∃ o : Obj, A.heap[r]? = some o ∧ o.isCells = false) → k < w3.heap.size → some k ≠ row := fun hr hk e => by have := (hr _ e.symm).1; omega
  have hown : ∀ {A C : World} {row : Option Nat}, Below w.heap.size w A → A.grownBy C row → (∀ r, row = some r → w3.heap.size ≤ r ∧ ∃ o : Obj, A.heap[r]? = some o ∧ o.isCells = false) → Below w.heap.size w C := fun h hg hr => h.grown hg h.size (fun k e => by have := (hr k e).1; omega)
  refine wpIn_rangeFunc_ownG (Kp := fun _ _ => True) rfl (by omega) (gf := 80) (lb := #[.pointer (some ⟨w.heap.size + 1 + 1 + 1, 0, none⟩)]) rfl trivial (enters_of Tryd.func80 (by kernel_rfl) rfl)
    (pcs_stops _ a ha (Nat.le_refl _) (w.heap.size + 1 + 1 + 1) w3 (by omega) hr3) (fun _ _ => trivial) (fun _ _ _ _ _ _ _ _ => trivial) (Below.refl _ _) (fun _ => rfl)
    (fun pre W => ∃ (r : ByteArray) (m : Bool), Hid (Pt.pcs b.data.toList = pcL pre ++ (if m then Pt.pcs r.data.toList else [])) ∧ r.size ≤ 140737488351232 ∧ Boxed W w.heap.size 3 (.int .i64 0) ∧ Boxed W (w.heap.size + 1) 9 (.string r) ∧ Boxed W (w.heap.size + 1 + 1) 4 (.bool m) ∧ Below w.heap.size w W)
    (fun c pre W => ∃ v, c = .ret ∧ Hid (∀ t, Pt.cmpP (pcL pre ++ t) (Pt.pcs b.data.toList) = v) ∧ Boxed W w.heap.size 3 (.int .i64 v) ∧ Below w.heap.size w W)
    (fun pre A C row hi hg hr => by
      obtain ⟨r, m, h1, h2, h3, h4, h5, h6⟩ := hi
      exact ⟨r, m, h1, h2, h3.kept hg (hkeep (C := C) hr (by omega)), h4.kept hg (hkeep (C := C) hr (by omega)), h5.kept hg (hkeep (C := C) hr (by omega)), hown h6 hg hr⟩)
    (fun c pre A C row hi hg hr => by
      obtain ⟨v, h1, h2, h3, h4⟩ := hi
      exact ⟨v, h1, h2, h3.kept hg (hkeep (C := C) hr (by omega)), hown h4 hg hr⟩)
    ⟨b, true, rfl, hb, hr0, hr1, hr2, hq3.below (Nat.le_refl _) (fun _ _ x => x)⟩
    (fun x => { tmps := #[.string a, .string b, undef, undef, .pointer (some ⟨w.heap.size, 0, none⟩), .pointer (some ⟨w.heap.size + 1, 0, none⟩), .pointer (some ⟨w.heap.size + 1 + 1, 0, none⟩), .string x.1, undef, undef, .string b, .string a, .func (.func 80) #[] #[.pointer (some ⟨w.heap.size + 1 + 1 + 1, 0, none⟩)], .string x.1, undef, undef, undef, undef, undef, undef, undef, undef, undef, undef, undef, undef, undef, undef, undef], defers := [] }) ?assign ?body ?done ?stop
  case assign =>
    intro l x W K hK
    gi_wp2
    exact hK
  case body =>
    rintro l pre x W ⟨r, m, hp, hr, hb0, hb1, hb2, hB⟩ _
    have hc0 := hb0.cell
    have hf0 := hb0.frozen
    have hc1 := hb1.cell
    have hc2 := hb2.cell
    cases m with
    | false =>
      have HALL := Lib.hid (And.intro hb0 hB)
      clear hb0 hb1 hb2 hB
      gi_wp2
      refine ⟨(KeepsOthers.setCell _ _ _).from _, 1, rfl, fun t => ?_, HALL.out.1.set _, HALL.out.2.setCell (p := ⟨w.heap.size, 0, none⟩) (Nat.le_refl _) _⟩
      rw [show Pt.pcs b.data.toList = _ from hp.out, pcL_snoc, List.append_assoc, Pt.cmpP_pre]
      rfl
    | true =>
      obtain ⟨o, r2, m2, hcut, hC⟩ := cut_is r (by omega)
      have hP : Pt.pcs b.data.toList = pcL pre ++ o.data.toList :: (if m2 then Pt.pcs r2.data.toList else []) := by
        have := hp.out
        rwa [if_pos rfl, hcut.pcs] at this
      have HP := Lib.hid hP
      have hr2s := hcut.size.2.1
      have HC := Lib.hid hC
      have HCM := Lib.hid (fun W => sCompare_any x.1 o W)
      have HEQ := Lib.hid (fun h => Pt.cb_eq (a := x.1.data.toList) (b := o.data.toList) h)
      have HNE : Hid (∀ t, Pt.cmpP ((pcL (pre ++ [x])) ++ t) (Pt.pcs b.data.toList) = if Lib.compareBytes x.1.data.toList o.data.toList = 0 then Pt.cmpP t (if m2 then Pt.pcs r2.data.toList else []) else Lib.compareBytes x.1.data.toList o.data.toList) := fun t => by
        rw [hP, pcL_snoc, List.append_assoc, Pt.cmpP_pre]; rfl
      clear hp hP hcut hC
      have HB := Lib.hid (And.intro hb0 (And.intro hb1 (And.intro hb2 hB)))
      clear hb0 hb1 hb2 hB
      gi_wp2_with fail
      refine ⟨trivial, (CallsIn.inRound l (callsIn_wide.2 (HC.out _))).mono ?_⟩
      rintro e W2 ⟨rfl, q, hw2⟩
      have hQ : Quiet W W2 := hw2 ▸ Quiet.drewN W q
      clear hw2
      have g0 := hQ.keep HB.out.1 (fun x => x)
      have g1 : Boxed W2 (w.heap.size + 1) 9 (.string r) := hQ.keep HB.out.2.1 (fun x => x)
      have g2 : Boxed W2 (w.heap.size + 1 + 1) 4 (.bool true) := hQ.keep HB.out.2.2.1 (fun x => x)
      have g4 : Below w.heap.size w W2 := HB.out.2.2.2.trans (hQ.below HB.out.2.2.2.size (fun _ _ x => x))
      obtain ⟨W3, hw3⟩ : ∃ W3, W2.setCell ⟨w.heap.size + 1, 0, none⟩ (.string r2) = W3 := ⟨_, rfl⟩
      have k0 : Boxed W3 w.heap.size 3 (.int .i64 0) := by rw [← hw3]; exact Boxed.other g0 (by omega) _
      have k1 : Boxed W3 (w.heap.size + 1) 9 (.string r2) := by rw [← hw3]; exact g1.set _
      have k2 : Boxed W3 (w.heap.size + 1 + 1) 4 (.bool true) := by rw [← hw3]; exact Boxed.other g2 (by omega) _
      have k4 : Below w.heap.size w W3 := by rw [← hw3]; exact g4.setCell (p := ⟨w.heap.size + 1, 0, none⟩) (by simp) _
      have k5 : KeepsFrom w3.heap.size W W3 := by rw [← hw3]; exact (keepsFrom_only (B := w3.heap.size) hQ (fun _ x => x.elim)).trans ((KeepsOthers.setCell _ _ _).from _)
      obtain ⟨W4, hw4⟩ : ∃ W4, W3.setCell ⟨w.heap.size + 1 + 1, 0, none⟩ (.bool m2) = W4 := ⟨_, rfl⟩
      have j0 : Boxed W4 w.heap.size 3 (.int .i64 0) := by rw [← hw4]; exact Boxed.other k0 (by omega) _
      have j1 : Boxed W4 (w.heap.size + 1) 9 (.string r2) := by rw [← hw4]; exact Boxed.other k1 (by omega) _
      have j2 : Boxed W4 (w.heap.size + 1 + 1) 4 (.bool m2) := by rw [← hw4]; exact k2.set _
      have j4 : Below w.heap.size w W4 := by rw [← hw4]; exact k4.setCell (p := ⟨w.heap.size + 1 + 1, 0, none⟩) (by simp; omega) _
      have j5 : KeepsFrom w3.heap.size W W4 := by rw [← hw4]; exact k5.trans ((KeepsOthers.setCell _ _ _).from _)
      have c1 := g1.cell
      have f1 := g1.frozen
      have c2 := k2.cell
      have f2 := k2.frozen
      have c0 := j0.cell
      have f0 := j0.frozen
      have HJ := Lib.hid (And.intro j0 (And.intro j1 (And.intro j2 (And.intro j4 j5))))
      clear g0 g1 g2 g4 k0 k1 k2 k4 k5 j0 j1 j2 j4 j5 hQ hc0 hf0 hc1 hc2 HB HC
      generalize Lib.compareBytes x.1.data.toList o.data.toList = C at *
      by_cases hz : C = 0
      · have HX := Lib.hid (HEQ.out hz)
        subst hz
        gi_wp2_with (refine ⟨trivial, (CallsIn.inRound l (callsIn_wide.2 (HCM.out _))).mono ?_⟩; rintro e W5 ⟨rfl, rfl⟩)
        refine ⟨HJ.out.2.2.2.2, trivial, r2, m2, ?_, by omega, HJ.out.1, HJ.out.2.1, HJ.out.2.2.1, HJ.out.2.2.2.1⟩
        unfold Hid
        rw [HP.out, pcL_snoc, List.append_assoc, HX.out]
        rfl
      · gi_wp2_with (refine ⟨trivial, (CallsIn.inRound l (callsIn_wide.2 (HCM.out _))).mono ?_⟩; rintro e W5 ⟨rfl, rfl⟩)
        refine ⟨HJ.out.2.2.2.2.trans ((KeepsOthers.setCell _ _ _).from _), C, rfl, fun t => ?_, HJ.out.1.set _, HJ.out.2.2.2.1.setCell (p := ⟨w.heap.size, 0, none⟩) (Nat.le_refl _) _⟩
        rw [HNE.out t, if_neg hz]
  case done =>
    rintro D xs W hD hS ⟨r, m, hp, hr, hb0, hb1, hb2, hB⟩ hK
    have hG : Pt.cmp a.data.toList b.data.toList = if m then -1 else 0 := by
      unfold Pt.cmp
      rw [← hS, show Pt.pcs b.data.toList = _ from hp.out]
      have := Pt.cmpP_pre (pcL xs) [] (if m then Pt.pcs r.data.toList else [])
      rw [List.append_nil] at this
      rw [this]
      cases m with
      | true => exact Pt.cmpP_nil (Pt.pcs_ne _)
      | false => rfl
    have hc0 := hb0.cell
    have hf0 := hb0.frozen
    have hc2 := hb2.cell
    cases m with
    | true =>
      have HG := Lib.hid hG
      clear hG
      gi_wp2
      have hK' := (KeepsOthers.setCell W ⟨w.heap.size, 0, none⟩ (.int .i64 (-1))).same D _ hK rfl
      refine ⟨by simp, .inl ⟨_, _, rfl, run_takeDeferred hK', ?_⟩⟩
      have hc5 := cell_kept (hb0.set (.int .i64 (-1))).cell (grownBy_putObj' _ D (.deferred none)) (fun r e => by cases e; exact ⟨_, hK', rfl⟩)
      refine ⟨.int .i64 (-1), ?_, by rw [HG.out]; rfl, quiet_below ((hB.setCell (p := ⟨w.heap.size, 0, none⟩) (Nat.le_refl _) _).trans (belowK_b (w := w) (Nat.le_refl _) _ D _ _ (by omega) hK' rfl rfl))⟩
      simp [results, Tryd.f51, go_sem, hc5]
    | false =>
      have HG := Lib.hid hG
      clear hG
      gi_wp2
      have hK' := (KeepsOthers.setCell W ⟨w.heap.size, 0, none⟩ (.int .i64 0)).same D _ hK rfl
      refine ⟨by simp, .inl ⟨_, _, rfl, run_takeDeferred hK', ?_⟩⟩
      have hc5 := cell_kept (hb0.set (.int .i64 0)).cell (grownBy_putObj' _ D (.deferred none)) (fun r e => by cases e; exact ⟨_, hK', rfl⟩)
      refine ⟨.int .i64 0, ?_, by rw [HG.out]; rfl, quiet_below ((hB.setCell (p := ⟨w.heap.size, 0, none⟩) (Nat.le_refl _) _).trans (belowK_b (w := w) (Nat.le_refl _) _ D _ _ (by omega) hK' rfl rfl))⟩
      simp [results, Tryd.f51, go_sem, hc5]
  case stop =>
    rintro D c pre W hD hpre ⟨v, rfl, hv, hb0, hB⟩ hK
    have hG : Pt.cmp a.data.toList b.data.toList = v := by
      obtain ⟨t, ht⟩ := hpre
      unfold Pt.cmp
      rw [← ht]
      exact hv.out t
    gi_wp2
    refine ⟨by simp, .inl ⟨_, _, rfl, run_takeDeferred hK, ?_⟩⟩
    have hc5 := cell_kept hb0.cell (grownBy_putObj' _ D (.deferred none)) (fun r e => by cases e; exact ⟨_, hK, rfl⟩)
    refine ⟨.int .i64 v, ?_, by rw [hG], quiet_below (hB.trans (belowK_b (w := w) (Nat.le_refl _) W D _ _ (by omega) hK rfl rfl))⟩
    simp [results, Tryd.f51, go_sem, hc5]

end Go.Proofs.YtikkfmmdgicigaaDoor
