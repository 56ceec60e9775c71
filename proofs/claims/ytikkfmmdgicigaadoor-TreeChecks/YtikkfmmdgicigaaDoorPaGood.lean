/- path.looker, path.Good. Conditions: texts within the reach. -/
import Derived.Test.YtikkfmmdgicigaaDoorPaText
import Derived.Test.YtikkfmmdgicigaaDoorPaPcs
import Derived.Laws.EntriesVeiled
namespace Go.Proofs.YtikkfmmdgicigaaDoor
open Go.RowKit
attribute [local go_sem] Oper.semAt_some

theorem U8.ne {w : World} {B : Nat} {v : Value} {t : TypeId} {f : Nat × Nat} (h : U8 w) (hb : w.heap[B]? = some (.cells #[v] t f)) : B ≠ 1 ∧ B ≠ 2 := by
  constructor
  · rintro rfl
    have := h.1 1 (by omega)
    rw [cell_of hb] at this
    simp at this
  · rintro rfl
    have := (h.2 0 (by omega)).2
    rw [cell_of hb] at this
    simp at this

theorem looker_any (w : World) :
    Calls Tryd.prog 83 #[] w fun e w' => e = .returned (.func (.func 102) #[] #[.pointer (some ⟨w.heap.size, 0, none⟩)]) ∧ w.alloc (.cells #[.int .i64 (-1)] 3) = w' := by
  have hmf : ∀ (fn : Fn) (first cap : Array Value) (w : World), (Instr.makeFunc fn first cap).run Tryd.prog w = .ok (.func fn first cap) w := fun _ _ _ _ => rfl
  go_enter Tryd.func83, Tryd.ntmps83
  go_wp2
  go_ret
  exact ⟨rfl, rfl⟩

theorem only_set (w : World) (B : Nat) (v : Value) : Only (fun k => k = B) w (w.setCell ⟨B, 0, none⟩ v) := Only.setCell ⟨B, 0, none⟩ v

set_option maxRecDepth 100000 in
set_option maxHeartbeats 1000000 in
theorem looker1_any (s : ByteArray) (hs : s.size ≤ 140737488351232) {w : World} (hU : U8 w) {B : Nat} {z : Int} (hz : -1 ≤ z) (hz2 : z ≤ 400) (hb : Boxed w B 3 (.int .i64 z)) :
    Calls Tryd.prog 102 #[.string s, .pointer (some ⟨B, 0, none⟩)] w fun e w' =>
      e = .returned (.bool (decide (z + 1 + s.size ≤ 400) && Pt.part s.data.toList)) ∧ Boxed w' B 3 (.int .i64 (z + 1 + s.size)) ∧ Only (fun k => k = B) w w' := by
  have hc := hb.cell
  have hf := hb.frozen
  have hne := hU.ne hb
  obtain ⟨w1, hw1⟩ : ∃ w1, w.setCell ⟨B, 0, none⟩ (.int .i64 (z + 1 + s.size)) = w1 := ⟨_, rfl⟩
  have hb1 : Boxed w1 B 3 (.int .i64 (z + 1 + s.size)) := by rw [← hw1]; exact hb.set _
  have hO : Only (fun k => k = B) w w1 := by rw [← hw1]; exact only_set w B _
  have HP := Lib.hid (goodPart_any s (by omega) (hU.keep hO (fun x => hne.1 x.symm) (fun x => hne.2 x.symm)))
  have hc1 := hb1.cell
  have HB := Lib.hid hb1
  have HO := Lib.hid hO
  clear hb1 hO hU hne hb
  have e1 : z + (1 + (s.size : Int)) = z + 1 + s.size := by omega
  by_cases h4 : z + 1 + (s.size : Int) ≤ 400
  · go_enter Tryd.func102, Tryd.ntmps102
    go_wp2_with (go_at_call 103; refine HP.out.mono ?_; rintro e w2 ⟨rfl, hq⟩; have HQ := Lib.hid hq; clear hq)
    go_ret
    exact ⟨by rw [decide_eq_true h4]; rfl, HQ.out.keep HB.out (fun x => x), HO.out.andThen HQ.out (fun _ _ x => x.elim)⟩
  · go_enter Tryd.func102, Tryd.ntmps102
    go_wp2
    go_ret
    exact ⟨by rw [decide_eq_false (by omega)]; rfl, HB.out, HO.out⟩

/-- Whether these may stand in a path, one behind the other. -/
def fits (ps : List Pc) : Prop := Pt.tot (pcL ps) ≤ 401 ∧ ∀ p ∈ pcL ps, Pt.part p = true

theorem fits_snoc {pre : List Pc} (x : Pc) (h : fits pre) : fits (pre ++ [x]) ↔ (decide ((Pt.tot (pcL pre) : Int) - 1 + 1 + x.1.size ≤ 400) && Pt.part x.1.data.toList) = true := by
  unfold fits at h ⊢
  rw [pcL_snoc, Pt.tot_append, Bool.and_eq_true, decide_eq_true_eq]
  simp only [Pt.tot, List.mem_append, List.mem_singleton]
  rw [← Lib.size_eq]
  constructor
  · rintro ⟨h1, h2⟩
    exact ⟨by omega, h2 _ (.inr rfl)⟩
  · rintro ⟨h1, h2⟩
    refine ⟨by omega, ?_⟩
    rintro p (hp | rfl)
    · exact h.2 p hp
    · exact h2

theorem good_fits {xs : List Pc} {l : List UInt8} (hS : pcL xs = Pt.pcs l) (h : fits xs) : Pt.good l = true := by
  obtain ⟨h1, h2⟩ := h
  rw [hS] at h1 h2
  rw [Pt.pcs_tot] at h1
  exact Pt.good_iff.2 ⟨by omega, h2⟩

theorem fits_good {pre : List Pc} {l : List UInt8} (hS : pcL pre <+: Pt.pcs l) (h : Pt.good l = true) : fits pre := by
  obtain ⟨h1, h2⟩ := Pt.good_iff.1 h
  obtain ⟨t, ht⟩ := hS
  have h3 := Pt.pcs_tot l
  rw [← ht, Pt.tot_append] at h3
  exact ⟨by omega, fun p hp => h2 p (by rw [← ht]; simp [hp])⟩

theorem U8.below {w w' : World} (h : U8 w) (hb : Below w.heap.size w w') : U8 w' := Utf8Tabs_below h hb
theorem keepsFrom_only {S : Nat → Prop} {B : Nat} {w w' : World} (h : Only S w w') (hs : ∀ k, S k → k < B) : KeepsFrom B w w' :=
  ⟨h.size, fun k _ hB hk _ => h.keep hk (fun x => by have := hs k x; omega)⟩
theorem quiet_below {w w' : World} (h : Below w.heap.size w w') : Quiet w w' := (Only.of_below h).mono fun k hk h => by omega

set_option maxRecDepth 100000 in
set_option maxHeartbeats 2000000 in
theorem good_any (s : ByteArray) (hs : s.size ≤ 140737488351232) {w : World} (hU : U8 w) :
    Calls Tryd.prog 65 #[.string s] w fun e w' => e = .returned (.bool (Pt.good s.data.toList)) ∧ Quiet w w' := by
  have HL := Lib.hid looker_any
  have HG := Lib.hid (pieces_any s)
  refine (callsIn_wide (n := 4)).1 ?_
  refine callsIn_of_wp_marks Tryd.func65 rfl trivial ?_ rfl
  simp only [Tryd.ntmps65, List.size_toArray, List.length_cons, List.length_nil, Nat.reduceAdd, Nat.reduceSub, Array.replicate_succ, Array.replicate_zero, List.push_toArray, List.append_toArray, List.nil_append, List.cons_append]
  gi_wp2_with fail
  refine ⟨trivial, (callsIn_wide.2 (HL.out _)).mono ?_⟩
  rintro e w1 ⟨rfl, hw1⟩
  have hs1 : w1.heap.size = w.heap.size + 2 := by rw [← hw1]; simp
  have hb0 : Boxed w1 w.heap.size 4 (.bool false) := by rw [← hw1]; exact (Boxed.new w 4 (.bool false)).alloc _
  have hb1 : Boxed w1 (w.heap.size + 1) 3 (.int .i64 (-1)) := by rw [← hw1]; have := Boxed.new (w.alloc (.cells #[.bool false] 4)) 3 (.int .i64 (-1)); rwa [World.size_alloc] at this
  have hq1 : Quiet w w1 := by rw [← hw1]; exact (Only.alloc _).trans (Only.alloc _)
  simp only [World.size_alloc]
  have HS1 := Lib.hid hs1
  clear hw1 hs1
  gi_wp2_with fail
  have hs1 := HS1.out
  refine ⟨trivial, (callsIn_wide.2 (HG.out _)).mono ?_⟩
  rintro e w3 ⟨rfl, hw3⟩
  simp only [World.size_alloc, hs1] at hw3 ⊢
  have hs3 : w3.heap.size = w.heap.size + 4 := by rw [← hw3]; simp [hs1]
  have hr0 : Boxed w3 w.heap.size 4 (.bool false) := by rw [← hw3]; exact (hb0.alloc _).alloc _
  have hr1 : Boxed w3 (w.heap.size + 1) 3 (.int .i64 (-1)) := by rw [← hw3]; exact (hb1.alloc _).alloc _
  have hr2 : Boxed w3 (w.heap.size + 2) 72 (.func (.func 102) #[] #[.pointer (some ⟨w.heap.size + 1, 0, none⟩)]) := by
    rw [← hw3, ← hs1]; exact (Boxed.new w1 _ _).alloc _
  have hr3 : w3.cell? ⟨w.heap.size + 3, 0, none⟩ = some (.string s) := by
    rw [← hw3]
    have := (Boxed.new (w1.alloc (.cells #[.func (.func 102) #[] #[.pointer (some ⟨w.heap.size + 1, 0, none⟩)]] 72)) 9 (.string s)).cell
    rwa [World.size_alloc, hs1] at this
  have hq3 : Quiet w w3 := by rw [← hw3]; exact (hq1.trans (Only.alloc _)).trans (Only.alloc _)
  clear hw3 hb0 hb1 hq1 HL HG
  gi_wp2
  have hkeep : ∀ {A C : World} {row : Option Nat} {k : Nat}, (∀ r, row = some r → w3.heap.size ≤ r ∧ ∃ o : Obj, A.heap[r]? = some o ∧ o.isCells = false) → k < w3.heap.size → some k ≠ row := fun hr hk e => by have := (hr _ e.symm).1; omega
  have hown : ∀ {A C : World} {row : Option Nat}, Below w.heap.size w A → A.grownBy C row → (∀ r, row = some r → w3.heap.size ≤ r ∧ ∃ o : Obj, A.heap[r]? = some o ∧ o.isCells = false) → Below w.heap.size w C := fun h hg hr => h.grown hg h.size (fun k e => by have := (hr k e).1; omega)
  refine wpIn_rangeFunc_ownG (Kp := fun _ _ => True) rfl (by omega) (gf := 80) (lb := #[.pointer (some ⟨w.heap.size + 2 + 1, 0, none⟩)]) rfl trivial (enters_of Tryd.func80 (by kernel_rfl) rfl)
    (pcs_stops _ s hs (Nat.le_refl _) (w.heap.size + 2 + 1) w3 (by omega) hr3) (fun _ _ => trivial) (fun _ _ _ _ _ _ _ _ => trivial) (Below.refl _ _) (fun _ => rfl)
    (fun pre W => fits pre ∧ Boxed W w.heap.size 4 (.bool false) ∧ Boxed W (w.heap.size + 1) 3 (.int .i64 ((Pt.tot (pcL pre) : Int) - 1)) ∧ Boxed W (w.heap.size + 2) 72 (.func (.func 102) #[] #[.pointer (some ⟨w.heap.size + 1, 0, none⟩)]) ∧ Below w.heap.size w W)
    (fun c pre W => c = .ret ∧ ¬ fits pre ∧ Boxed W w.heap.size 4 (.bool false) ∧ Below w.heap.size w W)
    (fun pre A C row hi hg hr => ⟨hi.1, hi.2.1.kept hg (hkeep (C := C) hr (by omega)), hi.2.2.1.kept hg (hkeep (C := C) hr (by omega)), hi.2.2.2.1.kept hg (hkeep (C := C) hr (by omega)), hown hi.2.2.2.2 hg hr⟩)
    (fun c pre A C row hi hg hr => ⟨hi.1, hi.2.1, hi.2.2.1.kept hg (hkeep (C := C) hr (by omega)), hown hi.2.2.2 hg hr⟩)
    ⟨⟨by simp [pcL, Pt.tot], by simp [pcL]⟩, hr0, by simpa [pcL, Pt.tot] using hr1, hr2, hq3.below (Nat.le_refl _) (fun _ _ x => x)⟩
    (fun x => { tmps := #[.string s, undef, .pointer (some ⟨w.heap.size, 0, none⟩), .pointer (some ⟨w.heap.size + 2, 0, none⟩), .string x.1, .func (.func 102) #[] #[.pointer (some ⟨w.heap.size + 1, 0, none⟩)], .string s, .func (.func 80) #[] #[.pointer (some ⟨w.heap.size + 2 + 1, 0, none⟩)], .string x.1, undef, undef, undef, undef], defers := [] }) ?assign ?body ?done ?stop
  case assign =>
    intro l x W K hK
    gi_wp2
    exact hK
  case body =>
    rintro l pre x W ⟨hfit, hb0, hb1, hb2, hB⟩ _
    have HLK := Lib.hid (looker1_any x.1 x.2 (hU.below hB) (z := (Pt.tot (pcL pre) : Int) - 1) (by omega) (by have := hfit.1; omega) hb1)
    have HF := Lib.hid (fits_snoc x hfit)
    have hc2 := hb2.cell
    have H0 := Lib.hid hb0
    have H2 := Lib.hid hb2
    have HB := Lib.hid hB
    clear hfit hb0 hb1 hb2 hB
    gi_wp2_with fail
    refine ⟨trivial, (CallsIn.inRound l (callsIn_wide.2 HLK.out)).mono ?_⟩
    rintro e W2 ⟨rfl, hbz, hO⟩
    have hKF : KeepsFrom w3.heap.size W W2 := keepsFrom_only hO (fun k hk => by omega)
    have h0 : Boxed W2 w.heap.size 4 (.bool false) := hO.keep H0.out (by omega)
    have h2 := hO.keep H2.out (show ¬ w.heap.size + 2 = w.heap.size + 1 by omega)
    have hB2 : Below w.heap.size w W2 := HB.out.trans (hO.below (HB.out.size) (fun k hk e => by omega))
    have HALL := Lib.hid (And.intro hKF (And.intro hbz (And.intro h2 hB2)))
    have hc0 := h0.cell
    have hf0 := h0.frozen
    have H0' := Lib.hid h0
    clear hKF hbz h2 hB2 h0 hO H0 H2 HB HLK
    generalize (decide ((Pt.tot (pcL pre) : Int) - 1 + 1 + x.1.size ≤ 400) && Pt.part x.1.data.toList) = r at *
    cases r with
    | true =>
      gi_wp2
      refine ⟨HALL.out.1, trivial, HF.out.2 (by simp), H0'.out, ?_, HALL.out.2.2.1, HALL.out.2.2.2⟩
      have := HALL.out.2.1
      rw [pcL_snoc, Pt.tot_append]
      simp only [Pt.tot]
      rw [← Lib.size_eq]
      rwa [show ((Pt.tot (pcL pre) + (x.1.size + 1 + 0) : Nat) : Int) - 1 = (Pt.tot (pcL pre) : Int) - 1 + 1 + x.1.size by omega]
    | false =>
      gi_wp2
      refine ⟨HALL.out.1.trans ((KeepsOthers.setCell _ _ _).from _), rfl, fun h => (by have := HF.out.1 h; simp at this), H0'.out.set _, HALL.out.2.2.2.setCell (p := ⟨w.heap.size, 0, none⟩) (Nat.le_refl _) _⟩
  case done =>
    rintro D xs W hD hS ⟨hfit, hb0, _, _, hB⟩ hK
    have hG : Pt.good s.data.toList = true := good_fits hS hfit
    have hc0 := hb0.cell
    have hf0 := hb0.frozen
    gi_wp2
    have hK' := (KeepsOthers.setCell W ⟨w.heap.size, 0, none⟩ (.bool true)).same D _ hK rfl
    refine ⟨by simp, .inl ⟨_, _, rfl, run_takeDeferred hK', ?_⟩⟩
    have hc5 := cell_kept (hb0.set (.bool true)).cell (grownBy_putObj' _ D (.deferred none)) (fun r e => by cases e; exact ⟨_, hK', rfl⟩)
    refine ⟨.bool true, ?_, by rw [hG], quiet_below ((hB.setCell (p := ⟨w.heap.size, 0, none⟩) (Nat.le_refl _) _).trans (belowK_b (w := w) (Nat.le_refl _) _ D _ _ (by omega) hK' rfl rfl))⟩
    simp [results, Tryd.f65, go_sem, hc5]
  case stop =>
    rintro D c pre W hD hpre ⟨rfl, hnf, hb0, hB⟩ hK
    have hG : Pt.good s.data.toList = false := by
      rw [← Bool.not_eq_true]
      exact fun hg => hnf (fits_good hpre hg)
    gi_wp2
    refine ⟨by simp, .inl ⟨_, _, rfl, run_takeDeferred hK, ?_⟩⟩
    have hc5 := cell_kept hb0.cell (grownBy_putObj' _ D (.deferred none)) (fun r e => by cases e; exact ⟨_, hK, rfl⟩)
    refine ⟨.bool false, ?_, by rw [hG], quiet_below (hB.trans (belowK_b (w := w) (Nat.le_refl _) W D _ _ (by omega) hK rfl rfl))⟩
    simp [results, Tryd.f65, go_sem, hc5]

end Go.Proofs.YtikkfmmdgicigaaDoor
