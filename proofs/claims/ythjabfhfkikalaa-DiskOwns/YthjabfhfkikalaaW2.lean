/- The meter's step, whole; arm, restart. Conditions: the counts are far from an int's end. -/
import Derived.Test.YthjabfhfkikalaaW1
namespace Go.Proofs.Ythjabfhfkikalaa
open Go.RowKit

section
variable {w : World} {b : Nat} {s : Dm.St} {fv : Value} {m1 m2 : Nat} {cv : Value}
theorem DB.c0 (h : DB w b s fv m1 m2 cv) : w.cell? ⟨b, 0, none⟩ = some (.int .i64 s.steps) := by rw [cell_of h]; rfl
theorem DB.c1 (h : DB w b s fv m1 m2 cv) : w.cell? ⟨b, 1, none⟩ = some (.bool s.down) := by rw [cell_of h]; rfl
theorem DB.c2 (h : DB w b s fv m1 m2 cv) : w.cell? ⟨b, 2, none⟩ = some (.bool s.armed) := by rw [cell_of h]; rfl
theorem DB.c3 (h : DB w b s fv m1 m2 cv) : w.cell? ⟨b, 3, none⟩ = some (.int .i64 s.left) := by rw [cell_of h]; rfl
theorem DB.c4 (h : DB w b s fv m1 m2 cv) : w.cell? ⟨b, 4, none⟩ = some fv := by rw [cell_of h]; rfl
theorem DB.c5 (h : DB w b s fv m1 m2 cv) : w.cell? ⟨b, 5, none⟩ = some (.int .i64 s.size) := by rw [cell_of h]; rfl
theorem DB.c6 (h : DB w b s fv m1 m2 cv) : w.cell? ⟨b, 6, none⟩ = some (.map (some m1)) := by rw [cell_of h]; rfl
theorem DB.c7 (h : DB w b s fv m1 m2 cv) : w.cell? ⟨b, 7, none⟩ = some (.map (some m2)) := by rw [cell_of h]; rfl
theorem DB.c8 (h : DB w b s fv m1 m2 cv) : w.cell? ⟨b, 8, none⟩ = some cv := by rw [cell_of h]; rfl
theorem DB.fr (h : DB w b s fv m1 m2 cv) (o : Nat) : w.frozen? ⟨b, o, none⟩ = false := frozen_of h o
theorem DB.lt (h : DB w b s fv m1 m2 cv) : b < w.heap.size := lt_of_heap h
end

theorem only_b {w : World} (b o : Nat) (v : Value) (own : Option Nat) : Only (fun k => k = b ∨ some k = own) w (w.setCell ⟨b, o, none⟩ v) :=
  (Only.setCell _ _).mono fun _ _ h => .inl h

theorem size_setCell (w : World) (a : Addr) (v : Value) : (w.setCell a v).heap.size = w.heap.size := by simp [World.setCell]

theorem step_any (b : Nat) (s : Dm.St) (fv : Value) (own : Option Nat) (m1 m2 : Nat) (cv : Value) (w : World)
    (hb : DB w b s fv m1 m2 cv) (hf : FailsAt w fv s.fails own) (hne : own ≠ some b) (hst : s.steps < 2 ^ 62) (hlf : s.left < 2 ^ 63) :
    Calls Try.prog 50 #[.pointer (some ⟨b, 0, none⟩)] w (StepPost b s own m1 m2 cv w) := by
  have hst' : (s.steps : Int) < 2 ^ 62 := by omega
  have hlf' : (s.left : Int) < 2 ^ 63 := by omega
  by_cases hd : s.armed = true ∧ s.left = 0
  · obtain ⟨ha, hl⟩ := hd
    refine (step_down b w (by rw [hb.c2, ha]) (by rw [hb.c3, hl]; rfl) (hb.fr 1) hb.c1).mono ?_
    rintro e w' ⟨rfl, rfl⟩
    have e1 : s.step = (1, { s with down := true }) := by simp [Dm.St.step, ha, hl]
    rw [StepPost, e1]
    refine ⟨rfl, fv, own, heap_setCell_self hb 1 _, hf.kept fun g hg => heap_setCell_ne _ _ (fun h => hne (by rw [hg, h])), .inl rfl, only_b _ _ _ _, size_setCell _ _ _⟩
  · have e0 : (s.armed && s.left == 0) = false := by
      cases ha : s.armed <;> simp_all
    rcases hf with ⟨hl, ho, a, c, rfl⟩ | ⟨g, off, cap, c, ho, rfl, h3, h4, h5, h6, h7⟩
    · cases ha : s.armed
      · refine (step_nofails b s.steps w a c hb.c0 (hb.fr 0) (by rw [hb.c2, ha]) hb.c4 hst').mono ?_
        rintro e w' ⟨rfl, rfl⟩
        have e1 : s.step = (0, { s with steps := s.steps + 1 }) := by simp [Dm.St.step, ha, hl]
        rw [StepPost, e1]
        exact ⟨rfl, _, none, heap_setCell_self hb 0 _, .inl ⟨hl, rfl, a, c, rfl⟩, .inr rfl, only_b _ _ _ _, size_setCell _ _ _⟩
      · have hl0 : s.left ≠ 0 := fun h => hd ⟨ha, h⟩
        refine (step_nofails_armed b s.steps s.left w a c hb.c0 (hb.fr 0) (by rw [hb.c2, ha]) hb.c3 (hb.fr 3) (by simp; omega) (by omega) hlf' hb.c4 hst').mono ?_
        rintro e w' ⟨rfl, rfl⟩
        have e1 : s.step = (0, { s with steps := s.steps + 1, left := s.left - 1 }) := by simp [Dm.St.step, ha, hl, hl0]
        have e2 : ((s.left : Int) - 1) = ((s.left - 1 : Nat) : Int) := by omega
        rw [StepPost, e1, e2]
        exact ⟨rfl, _, none, by have := heap_setCell_self (heap_setCell_self hb 0 (.int .i64 (s.steps + 1))) 3 (.int .i64 ((s.left - 1 : Nat) : Int)); simpa [DB, diskCells, ha] using this, .inl ⟨hl, rfl, a, c, rfl⟩, .inr rfl, (only_b _ _ _ _).trans (only_b _ _ _ _), by simp⟩
    · have hgb : g ≠ b := fun h => hne (by rw [ho, h])
      cases hfl : s.fails with
      | nil =>
        simp only [hfl, List.length_nil] at hb
        cases ha : s.armed
        · refine (step_nofails b s.steps w _ cap hb.c0 (hb.fr 0) (by rw [hb.c2, ha]) hb.c4 hst').mono ?_
          rintro e w' ⟨rfl, rfl⟩
          have e1 : s.step = (0, { s with steps := s.steps + 1 }) := by simp [Dm.St.step, ha, hfl]
          rw [StepPost, e1]
          exact ⟨rfl, _, none, heap_setCell_self hb 0 _, .inl ⟨hfl, rfl, _, cap, rfl⟩, .inr rfl, only_b _ _ _ _, size_setCell _ _ _⟩
        · have hl0 : s.left ≠ 0 := fun h => hd ⟨ha, h⟩
          refine (step_nofails_armed b s.steps s.left w _ cap hb.c0 (hb.fr 0) (by rw [hb.c2, ha]) hb.c3 (hb.fr 3) (by simp; omega) (by omega) hlf' hb.c4 hst').mono ?_
          rintro e w' ⟨rfl, rfl⟩
          have e1 : s.step = (0, { s with steps := s.steps + 1, left := s.left - 1 }) := by simp [Dm.St.step, ha, hfl, hl0]
          have e2 : ((s.left : Int) - 1) = ((s.left - 1 : Nat) : Int) := by omega
          rw [StepPost, e1, e2]
          exact ⟨rfl, _, none, by have := heap_setCell_self (heap_setCell_self hb 0 (.int .i64 (s.steps + 1))) 3 (.int .i64 ((s.left - 1 : Nat) : Int)); simpa [DB, diskCells, ha] using this, .inl ⟨hfl, rfl, _, cap, rfl⟩, .inr rfl, (only_b _ _ _ _).trans (only_b _ _ _ _), by simp⟩
      | cons x r =>
        have hx0 := h7 0 x (by simp [hfl])
        obtain ⟨hx, hxb⟩ := hx0
        have hlen : 0 < s.fails.length := by simp [hfl]
        have hg : w.cell? ⟨g, off, none⟩ = some (.int .i64 (x : Nat)) := by rw [cell_of h5]; simpa using hx
        cases x with
        | zero =>
          have hsl := run_tail1 g off s.fails.length cap hlen h3
          have key : ∀ w', w'.heap[g]? = w.heap[g]? → FailsAt w' (.slice (some ⟨g, if cap = 1 then off else off + 1, none⟩) (s.fails.length - 1) (cap - 1)) r own := by
            intro w' hw'
            refine .inr ⟨g, (if cap = 1 then off else off + 1), cap - 1, c, ho, by simp [hfl], by simp [hfl] at h3; omega, by omega, by rw [hw']; exact h5, by split <;> omega, fun i y hy => ?_⟩
            have hi := h7 (i + 1) y (by simpa [hfl] using hy)
            have hlt : i < r.length := (List.getElem?_eq_some_iff.1 hy).1
            have hc1 : cap ≠ 1 := by simp [hfl] at h3; omega
            rw [if_neg hc1, show off + 1 + i = off + (i + 1) by omega]
            exact hi
          cases ha : s.armed
          · refine (step_fails0 b g off s.fails.length cap s.steps w hgb hlen _ _ _ hsl hb.c0 (hb.fr 0) (hb.fr 4) (by rw [hb.c2, ha]) hb.c4 hg hst').mono ?_
            rintro e w' ⟨rfl, rfl⟩
            have e1 : s.step = (2, { s with steps := s.steps + 1, fails := r }) := by simp [Dm.St.step, ha, hfl]
            rw [StepPost, e1]
            exact ⟨rfl, _, own, by have := heap_setCell_self (heap_setCell_self hb 0 (.int .i64 (s.steps + 1))) 4 (.slice (some ⟨g, if cap = 1 then off else off + 1, none⟩) (s.fails.length - 1) (cap - 1)); simpa [DB, diskCells, ha] using this,
              key _ (by rw [heap_setCell_ne _ _ hgb, heap_setCell_ne _ _ hgb]), .inl rfl, (only_b _ _ _ _).trans (only_b _ _ _ _), by simp⟩
          · have hl0 : s.left ≠ 0 := fun h => hd ⟨ha, h⟩
            refine (step_fails0_armed b g off s.fails.length cap s.steps s.left w hgb hlen _ _ _ hsl hb.c0 (hb.fr 0) (hb.fr 4) (by rw [hb.c2, ha]) hb.c3 (hb.fr 3) (by simp; omega) (by omega) hlf' hb.c4 hg hst').mono ?_
            rintro e w' ⟨rfl, rfl⟩
            have e1 : s.step = (2, { s with steps := s.steps + 1, left := s.left - 1, fails := r }) := by simp [Dm.St.step, ha, hfl, hl0]
            have e2 : ((s.left : Int) - 1) = ((s.left - 1 : Nat) : Int) := by omega
            rw [StepPost, e1, e2]
            exact ⟨rfl, _, own, by have := heap_setCell_self (heap_setCell_self (heap_setCell_self hb 0 (.int .i64 (s.steps + 1))) 3 (.int .i64 ((s.left - 1 : Nat) : Int))) 4 (.slice (some ⟨g, if cap = 1 then off else off + 1, none⟩) (s.fails.length - 1) (cap - 1)); simpa [DB, diskCells, ha] using this,
              key _ (by rw [heap_setCell_ne _ _ hgb, heap_setCell_ne _ _ hgb, heap_setCell_ne _ _ hgb]), .inl rfl, ((only_b _ _ _ _).trans (only_b _ _ _ _)).trans (only_b _ _ _ _), by simp⟩
        | succ n =>
          have e3 : (((n + 1 : Nat) : Int) - 1) = (n : Int) := by omega
          have key : ∀ w1 : World, w1.heap[g]? = w.heap[g]? → FailsAt (w1.setCell ⟨g, off, none⟩ (.int .i64 (n : Int))) (.slice (some ⟨g, off, none⟩) s.fails.length cap) (n :: r) own := by
            intro w1 hw'
            have h5' : w1.heap[g]? = some (.cells c 3 (0, 0)) := by rw [hw']; exact h5
            refine .inr ⟨g, off, cap, _, ho, by simp [hfl], by simp [hfl] at h3 ⊢; omega, h4, heap_setCell_self h5' off _, by simpa using h6, fun i y hy => ?_⟩
            have hoff : off < c.size := by omega
            cases i with
            | zero =>
              simp at hy
              subst hy
              exact ⟨by simp [hoff], by omega⟩
            | succ i =>
              have hi := h7 (i + 1) y (by simpa [hfl] using hy)
              refine ⟨?_, hi.2⟩
              rw [Array.getElem?_setIfInBounds_ne (by omega)]
              exact hi.1
          have og : ∀ w1 : World, Only (fun k => k = b ∨ some k = own) w1 (w1.setCell ⟨g, off, none⟩ (.int .i64 (n : Int))) := fun w1 =>
            (Only.setCell _ _).mono fun k _ h => .inr (by rw [h, ho])
          cases ha : s.armed
          · refine (step_dec b g off s.fails.length cap s.steps (n + 1) w hgb hlen hb.c0 (hb.fr 0) (frozen_of h5 _) (by rw [hb.c2, ha]) hb.c4 hg hst' (by simp; omega) (by omega) (by omega)).mono ?_
            rintro e w' ⟨rfl, rfl⟩
            have e1 : s.step = (0, { s with steps := s.steps + 1, fails := n :: r }) := by simp [Dm.St.step, ha, hfl]
            rw [StepPost, e1, e3]
            exact ⟨rfl, _, own, by rw [DB, heap_setCell_ne _ _ (Ne.symm hgb)]; have := heap_setCell_self hb 0 (.int .i64 (s.steps + 1)); simpa [DB, diskCells, ha] using this,
              key _ (heap_setCell_ne _ _ hgb), .inl rfl, (only_b _ _ _ _).trans (og _), by simp⟩
          · have hl0 : s.left ≠ 0 := fun h => hd ⟨ha, h⟩
            refine (step_dec_armed b g off s.fails.length cap s.steps s.left (n + 1) w hgb hlen hb.c0 (hb.fr 0) (frozen_of h5 _) (by rw [hb.c2, ha]) hb.c3 (hb.fr 3) (by simp; omega) (by omega) hlf' hb.c4 hg hst' (by simp; omega) (by omega) (by omega)).mono ?_
            rintro e w' ⟨rfl, rfl⟩
            have e1 : s.step = (0, { s with steps := s.steps + 1, left := s.left - 1, fails := n :: r }) := by simp [Dm.St.step, ha, hfl, hl0]
            have e2 : ((s.left : Int) - 1) = ((s.left - 1 : Nat) : Int) := by omega
            rw [StepPost, e1, e2, e3]
            exact ⟨rfl, _, own, by rw [DB, heap_setCell_ne _ _ (Ne.symm hgb)]; have := heap_setCell_self (heap_setCell_self hb 0 (.int .i64 (s.steps + 1))) 3 (.int .i64 ((s.left - 1 : Nat) : Int)); simpa [DB, diskCells, ha] using this,
              key _ (by rw [heap_setCell_ne _ _ hgb, heap_setCell_ne _ _ hgb]), .inl rfl, ((only_b _ _ _ _).trans (only_b _ _ _ _)).trans (og _), by simp⟩

end Go.Proofs.Ythjabfhfkikalaa
