/- The document's own round: a quarter round in the list itself. Conditions: none. -/
import Derived.Test.YtjeccooodkogkaaCXor
namespace Go.Proofs.Ytjeccooodkogkaa
open Go.RowKit

def addStep (a b : Nat) (ws : List Int) : List Int := ws.set a (Ch.low (ws.getD a 0 + ws.getD b 0))
def xorStep (d a : Nat) (n : Int) (ws : List Int) : List Int := ws.set d (Ch.rot (Ch.xo (ws.getD d 0) (ws.getD a 0)) n)

theorem getD_self {ws : List Int} {i : Nat} {v : Int} (h : i < ws.length) : (ws.set i v).getD i 0 = v := by simp [h]
theorem getD_ne {ws : List Int} {i j : Nat} {v : Int} (h : i ≠ j) : (ws.set i v).getD j 0 = ws.getD j 0 := by simp [h]

theorem steps_quart {ws : List Int} (hl : ws.length = 16) {i j k l : Nat} (hf : Four i j k l) :
    xorStep j k 7 (addStep k l (xorStep l i 8 (addStep i j (xorStep j k 12 (addStep k l (xorStep l i 16 (addStep i j ws))))))) = Ch.quart i j k l ws := by
  obtain ⟨hi, hj, hk, hl', ij, ik, il, jk, jl, kl⟩ := hf
  have ji := Ne.symm ij; have ki := Ne.symm ik; have li := Ne.symm il; have kj := Ne.symm jk; have lj := Ne.symm jl; have lk := Ne.symm kl
  unfold addStep xorStep
  simp only [getD_self, getD_ne, List.length_set, hl, hi, hj, hk, hl', ij, ik, il, jk, jl, kl, ji, ki, li, kj, lj, lk, ne_eq, not_false_eq_true]
  unfold Ch.quart Ch.put Ch.quarter Ch.pick
  apply List.ext_getElem?
  intro t
  simp only [List.getElem?_set, List.length_set, hl]
  by_cases e1 : i = t
  · subst e1; simp [ji, ki, li, hi]
  by_cases e2 : j = t
  · subst e2; simp [kj, lj, hj]
  by_cases e3 : k = t
  · subst e3; simp [jk, lk, hk]
  by_cases e4 : l = t
  · subst e4; simp [jl, kl, hl']
  simp [e1, e2, e3, e4]

theorem left_same (x n : Int) (hn : n ∈ Ch.turns) (w : World) : Calls Try.prog 29 #[.int .u32 x, .int .u64 n] w fun e w' => e = .returned (.int .u32 (Ch.rot x n)) ∧ w' = w := (left_any x n hn w).mono fun _ _ ⟨h1, h2⟩ => ⟨h1, h2.symm⟩

/-- A step of the document's round. -/
theorem WordsAt.step {w w' : World} {b : Nat} {ws : List Int} {ty : TypeId} (h : WordsAt w b ws ty) (i : Nat) (v : Int) (hw : w.drew.setCell ⟨b, i, none⟩ (.int .u32 v) = w') : WordsAt w' b (ws.set i v) ty ∧ Only (fun k => k = b) w w' := by
  subst hw
  exact ⟨WordsAt.set ⟨h.blk.drew, h.len⟩ i v, (Only.drew.mono (fun _ _ x => x.elim)).trans (Only.setCell ⟨b, i, none⟩ _)⟩

set_option maxRecDepth 100000 in
set_option maxHeartbeats 2000000 in
theorem r3round_any {w : World} {b : Nat} {ws : List Int} {ty : TypeId} (h : WordsAt w b ws ty) {i j k l : Nat} (hf : Four i j k l) :
    Calls Try.prog 24 #[.pointer (some ⟨b, 0, none⟩), .int .i64 i, .int .i64 j, .int .i64 k, .int .i64 l] w fun e w' => e = .returned (.tuple #[]) ∧ WordsAt w' b (Ch.quart i j k l ws) ty ∧ Only (fun k => k = b) w w' := by
  have HE : Hid (xorStep j k 7 (addStep k l (xorStep l i 8 (addStep i j (xorStep j k 12 (addStep k l (xorStep l i 16 (addStep i j ws))))))) = Ch.quart i j k l ws) := steps_quart h.len hf
  have H := Lib.hid h; have HF := Lib.hid hf
  have li : (i : Int) < 16 := by have := hf.hi; omega
  have lj : (j : Int) < 16 := by have := hf.hj; omega
  have lk : (k : Int) < 16 := by have := hf.hk; omega
  have ll : (l : Int) < 16 := by have := hf.hl; omega
  have pi : 0 ≤ (i : Int) := by omega
  have pj : 0 ≤ (j : Int) := by omega
  have pk : 0 ≤ (k : Int) := by omega
  have pl : 0 ≤ (l : Int) := by omega
  generalize Ch.quart i j k l ws = R at *
  clear h hf
  go_enter Try.func24, Try.ntmps24
  go_wp2
  have c1 := H.out.cell HF.out.hi
  have c2 := H.out.cell HF.out.hj
  have f1 : w.drew.frozen? ⟨b, i, none⟩ = false := H.out.blk.drew.frozen i
  have z1 : w.drew.cell? ⟨b, i, none⟩ = some (.int .u32 ((ws).getD i 0)) := c1
  obtain ⟨s1, hs1⟩ : ∃ s, (addStep i j ws) = s := ⟨_, rfl⟩
  have HN : Hid (∀ w', w.drew.setCell ⟨b, i, none⟩ (.int .u32 (Ch.low ((ws).getD i 0 + (ws).getD j 0))) = w' → WordsAt w' b s1 ty ∧ Only (fun k => k = b) w w') := fun w' hw => by rw [← hs1]; exact H.out.step i _ hw
  rw [hs1] at HE
  clear hs1 H
  generalize (ws).getD i 0 = x at *
  generalize (ws).getD j 0 = y at *
  go_still_tail 15, (by kernel_rfl)
  change wpList _ _ _ _ _ w.drew
  clear c1 c2
  generalize w.drew = v1 at *
  go_wp2
  generalize hw1 : v1.setCell _ _ = w1
  obtain ⟨h1, o1⟩ := HN.out w1 hw1
  have H1 := Lib.hid h1; have O1 := Lib.hid (o1)
  clear h1 o1 hw1 HN f1 z1
  have c1 := H1.out.cell HF.out.hl
  have c2 := H1.out.cell HF.out.hi
  have f1 : w1.drew.frozen? ⟨b, l, none⟩ = false := H1.out.blk.drew.frozen l
  have z1 : w1.drew.cell? ⟨b, l, none⟩ = some (.int .u32 ((s1).getD l 0)) := c1
  obtain ⟨s2, hs2⟩ : ∃ s, (xorStep l i 16 s1) = s := ⟨_, rfl⟩
  have HN : Hid (∀ w', w1.drew.setCell ⟨b, l, none⟩ (.int .u32 (Ch.rot (Ch.xo ((s1).getD l 0) ((s1).getD i 0)) 16)) = w' → WordsAt w' b s2 ty ∧ Only (fun k => k = b) w1 w') := fun w' hw => by rw [← hs2]; exact H1.out.step l _ hw
  rw [hs2] at HE
  clear hs2 H1
  generalize (s1).getD l 0 = x at *
  generalize (s1).getD i 0 = y at *
  refine wp_region_still_tail 16 (by kernel_rfl) (by kernel_rfl) ?_
  simp only [List.take_succ_cons, List.take_zero, List.drop_succ_cons, List.drop_zero]
  repeat (first | still_step | still_call (left_same _ _ (by decide) _))
  refine wpStill_nil ?_
  change wpList _ _ _ _ _ w1.drew
  clear c1 c2
  generalize w1.drew = v2 at *
  go_wp2
  generalize hw2 : v2.setCell _ _ = w2
  obtain ⟨h2, o2⟩ := HN.out w2 hw2
  have H2 := Lib.hid h2; have O2 := Lib.hid (O1.out.trans o2)
  clear h2 o2 hw2 HN f1 z1 O1
  have c1 := H2.out.cell HF.out.hk
  have c2 := H2.out.cell HF.out.hl
  have f1 : w2.drew.frozen? ⟨b, k, none⟩ = false := H2.out.blk.drew.frozen k
  have z1 : w2.drew.cell? ⟨b, k, none⟩ = some (.int .u32 ((s2).getD k 0)) := c1
  obtain ⟨s3, hs3⟩ : ∃ s, (addStep k l s2) = s := ⟨_, rfl⟩
  have HN : Hid (∀ w', w2.drew.setCell ⟨b, k, none⟩ (.int .u32 (Ch.low ((s2).getD k 0 + (s2).getD l 0))) = w' → WordsAt w' b s3 ty ∧ Only (fun k => k = b) w2 w') := fun w' hw => by rw [← hs3]; exact H2.out.step k _ hw
  rw [hs3] at HE
  clear hs3 H2
  generalize (s2).getD k 0 = x at *
  generalize (s2).getD l 0 = y at *
  go_still_tail 15, (by kernel_rfl)
  change wpList _ _ _ _ _ w2.drew
  clear c1 c2
  generalize w2.drew = v3 at *
  go_wp2
  generalize hw3 : v3.setCell _ _ = w3
  obtain ⟨h3, o3⟩ := HN.out w3 hw3
  have H3 := Lib.hid h3; have O3 := Lib.hid (O2.out.trans o3)
  clear h3 o3 hw3 HN f1 z1 O2
  have c1 := H3.out.cell HF.out.hj
  have c2 := H3.out.cell HF.out.hk
  have f1 : w3.drew.frozen? ⟨b, j, none⟩ = false := H3.out.blk.drew.frozen j
  have z1 : w3.drew.cell? ⟨b, j, none⟩ = some (.int .u32 ((s3).getD j 0)) := c1
  obtain ⟨s4, hs4⟩ : ∃ s, (xorStep j k 12 s3) = s := ⟨_, rfl⟩
  have HN : Hid (∀ w', w3.drew.setCell ⟨b, j, none⟩ (.int .u32 (Ch.rot (Ch.xo ((s3).getD j 0) ((s3).getD k 0)) 12)) = w' → WordsAt w' b s4 ty ∧ Only (fun k => k = b) w3 w') := fun w' hw => by rw [← hs4]; exact H3.out.step j _ hw
  rw [hs4] at HE
  clear hs4 H3
  generalize (s3).getD j 0 = x at *
  generalize (s3).getD k 0 = y at *
  refine wp_region_still_tail 16 (by kernel_rfl) (by kernel_rfl) ?_
  simp only [List.take_succ_cons, List.take_zero, List.drop_succ_cons, List.drop_zero]
  repeat (first | still_step | still_call (left_same _ _ (by decide) _))
  refine wpStill_nil ?_
  change wpList _ _ _ _ _ w3.drew
  clear c1 c2
  generalize w3.drew = v4 at *
  go_wp2
  generalize hw4 : v4.setCell _ _ = w4
  obtain ⟨h4, o4⟩ := HN.out w4 hw4
  have H4 := Lib.hid h4; have O4 := Lib.hid (O3.out.trans o4)
  clear h4 o4 hw4 HN f1 z1 O3
  have c1 := H4.out.cell HF.out.hi
  have c2 := H4.out.cell HF.out.hj
  have f1 : w4.drew.frozen? ⟨b, i, none⟩ = false := H4.out.blk.drew.frozen i
  have z1 : w4.drew.cell? ⟨b, i, none⟩ = some (.int .u32 ((s4).getD i 0)) := c1
  obtain ⟨s5, hs5⟩ : ∃ s, (addStep i j s4) = s := ⟨_, rfl⟩
  have HN : Hid (∀ w', w4.drew.setCell ⟨b, i, none⟩ (.int .u32 (Ch.low ((s4).getD i 0 + (s4).getD j 0))) = w' → WordsAt w' b s5 ty ∧ Only (fun k => k = b) w4 w') := fun w' hw => by rw [← hs5]; exact H4.out.step i _ hw
  rw [hs5] at HE
  clear hs5 H4
  generalize (s4).getD i 0 = x at *
  generalize (s4).getD j 0 = y at *
  go_still_tail 15, (by kernel_rfl)
  change wpList _ _ _ _ _ w4.drew
  clear c1 c2
  generalize w4.drew = v5 at *
  go_wp2
  generalize hw5 : v5.setCell _ _ = w5
  obtain ⟨h5, o5⟩ := HN.out w5 hw5
  have H5 := Lib.hid h5; have O5 := Lib.hid (O4.out.trans o5)
  clear h5 o5 hw5 HN f1 z1 O4
  have c1 := H5.out.cell HF.out.hl
  have c2 := H5.out.cell HF.out.hi
  have f1 : w5.drew.frozen? ⟨b, l, none⟩ = false := H5.out.blk.drew.frozen l
  have z1 : w5.drew.cell? ⟨b, l, none⟩ = some (.int .u32 ((s5).getD l 0)) := c1
  obtain ⟨s6, hs6⟩ : ∃ s, (xorStep l i 8 s5) = s := ⟨_, rfl⟩
  have HN : Hid (∀ w', w5.drew.setCell ⟨b, l, none⟩ (.int .u32 (Ch.rot (Ch.xo ((s5).getD l 0) ((s5).getD i 0)) 8)) = w' → WordsAt w' b s6 ty ∧ Only (fun k => k = b) w5 w') := fun w' hw => by rw [← hs6]; exact H5.out.step l _ hw
  rw [hs6] at HE
  clear hs6 H5
  generalize (s5).getD l 0 = x at *
  generalize (s5).getD i 0 = y at *
  refine wp_region_still_tail 16 (by kernel_rfl) (by kernel_rfl) ?_
  simp only [List.take_succ_cons, List.take_zero, List.drop_succ_cons, List.drop_zero]
  repeat (first | still_step | still_call (left_same _ _ (by decide) _))
  refine wpStill_nil ?_
  change wpList _ _ _ _ _ w5.drew
  clear c1 c2
  generalize w5.drew = v6 at *
  go_wp2
  generalize hw6 : v6.setCell _ _ = w6
  obtain ⟨h6, o6⟩ := HN.out w6 hw6
  have H6 := Lib.hid h6; have O6 := Lib.hid (O5.out.trans o6)
  clear h6 o6 hw6 HN f1 z1 O5
  have c1 := H6.out.cell HF.out.hk
  have c2 := H6.out.cell HF.out.hl
  have f1 : w6.drew.frozen? ⟨b, k, none⟩ = false := H6.out.blk.drew.frozen k
  have z1 : w6.drew.cell? ⟨b, k, none⟩ = some (.int .u32 ((s6).getD k 0)) := c1
  obtain ⟨s7, hs7⟩ : ∃ s, (addStep k l s6) = s := ⟨_, rfl⟩
  have HN : Hid (∀ w', w6.drew.setCell ⟨b, k, none⟩ (.int .u32 (Ch.low ((s6).getD k 0 + (s6).getD l 0))) = w' → WordsAt w' b s7 ty ∧ Only (fun k => k = b) w6 w') := fun w' hw => by rw [← hs7]; exact H6.out.step k _ hw
  rw [hs7] at HE
  clear hs7 H6
  generalize (s6).getD k 0 = x at *
  generalize (s6).getD l 0 = y at *
  go_still_tail 15, (by kernel_rfl)
  change wpList _ _ _ _ _ w6.drew
  clear c1 c2
  generalize w6.drew = v7 at *
  go_wp2
  generalize hw7 : v7.setCell _ _ = w7
  obtain ⟨h7, o7⟩ := HN.out w7 hw7
  have H7 := Lib.hid h7; have O7 := Lib.hid (O6.out.trans o7)
  clear h7 o7 hw7 HN f1 z1 O6
  have c1 := H7.out.cell HF.out.hj
  have c2 := H7.out.cell HF.out.hk
  have f1 : w7.drew.frozen? ⟨b, j, none⟩ = false := H7.out.blk.drew.frozen j
  have z1 : w7.drew.cell? ⟨b, j, none⟩ = some (.int .u32 ((s7).getD j 0)) := c1
  obtain ⟨s8, hs8⟩ : ∃ s, (xorStep j k 7 s7) = s := ⟨_, rfl⟩
  have HN : Hid (∀ w', w7.drew.setCell ⟨b, j, none⟩ (.int .u32 (Ch.rot (Ch.xo ((s7).getD j 0) ((s7).getD k 0)) 7)) = w' → WordsAt w' b s8 ty ∧ Only (fun k => k = b) w7 w') := fun w' hw => by rw [← hs8]; exact H7.out.step j _ hw
  rw [hs8] at HE
  clear hs8 H7
  generalize (s7).getD j 0 = x at *
  generalize (s7).getD k 0 = y at *
  refine wp_region_still_tail 16 (by kernel_rfl) (by kernel_rfl) ?_
  simp only [List.take_succ_cons, List.take_zero, List.drop_succ_cons, List.drop_zero]
  repeat (first | still_step | still_call (left_same _ _ (by decide) _))
  refine wpStill_nil ?_
  change wpList _ _ _ _ _ w7.drew
  clear c1 c2
  generalize w7.drew = v8 at *
  go_wp2
  generalize hw8 : v8.setCell _ _ = w8
  obtain ⟨h8, o8⟩ := HN.out w8 hw8
  have H8 := Lib.hid h8; have O8 := Lib.hid (O7.out.trans o8)
  clear h8 o8 hw8 HN f1 z1 O7
  go_end0
  exact ⟨rfl, by rw [← HE.out]; exact H8.out, O8.out⟩

end Go.Proofs.Ytjeccooodkogkaa
