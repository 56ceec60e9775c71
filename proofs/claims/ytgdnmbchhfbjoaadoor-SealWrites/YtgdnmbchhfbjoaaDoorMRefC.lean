/- The document's own ChaCha20, numbers and Pack. Conditions: rows of few bytes. -/
import Derived.Test.YtgdnmbchhfbjoaaDoorCXor
import Derived.Test.YtgdnmbchhfbjoaaDoorCBlk
import Derived.Test.YtgdnmbchhfbjoaaDoorGRow
import Derived.Test.YtgdnmbchhfbjoaaDoorWiRead
import Derived.Test.YtgdnmbchhfbjoaaDoorWiPack
import Derived.Deep.RegionHeld3

namespace Go.Proofs.YtgdnmbchhfbjoaaDoor
open Go.RowKit

def addStep (a b : Nat) (ws : List Int) : List Int := ws.set a (Ch.low (ws.getD a 0 + ws.getD b 0))
def xorStep (d a : Nat) (n : Int) (ws : List Int) : List Int := ws.set d (Ch.rot (Ch.xo (ws.getD d 0) (ws.getD a 0)) n)

theorem getD_self {ws : List Int} {i : Nat} {v : Int} (h : i < ws.length) : (ws.set i v).getD i 0 = v := by simp [h]
theorem getD_ne {ws : List Int} {i j : Nat} {v : Int} (h : i ≠ j) : (ws.set i v).getD j 0 = ws.getD j 0 := by simp [h]

theorem steps_quart {ws : List Int} (hl : ws.length = 16) {i j k l : Nat} (hf : Four i j k l) :
    xorStep j k 7 (addStep k l (xorStep l i 8 (addStep i j (xorStep j k 12 (addStep k l (xorStep l i 16 (addStep i j ws))))))) = Ch.quart i j k l ws := by
  obtain ⟨hi, hj, hk, hl', ij, ik, il, jk, jl, kl⟩ := hf
  have ji := Ne.symm ij; have ki := Ne.symm ik; have li := Ne.symm il; have kj := Ne.symm jk; have lj := Ne.symm jl; have lk := Ne.symm kl
  unfold addStep xorStep
  simp only [getD_self, getD_ne, List.length_set, hl, hi, hj, hk, hl', ij, ik, il, jk, jl, kl, ji, ki, li, kj, lj, lk, ne_eq, not_false_eq_true]
  unfold Ch.quart Ch.put Ch.quarter Ch.pick
  apply List.ext_getElem?
  intro t
  simp only [List.getElem?_set, List.length_set, hl]
  by_cases e1 : i = t
  · subst e1; simp [ji, ki, li, hi]
  by_cases e2 : j = t
  · subst e2; simp [kj, lj, hj]
  by_cases e3 : k = t
  · subst e3; simp [jk, lk, hk]
  by_cases e4 : l = t
  · subst e4; simp [jl, kl, hl']
  simp [e1, e2, e3, e4]

theorem left_same (x n : Int) (hn : n ∈ Ch.turns) (w : World) : Calls Tryd.prog 72 #[.int .u32 x, .int .u64 n] w fun e w' => e = .returned (.int .u32 (Ch.rot x n)) ∧ w' = w := (left_any x n hn w).mono fun _ _ ⟨h1, h2⟩ => ⟨h1, h2.symm⟩

/-- A step of the document's round. -/
theorem WordsAt.step {w w' : World} {b : Nat} {ws : List Int} {ty : TypeId} (h : WordsAt w b ws ty) (i : Nat) (v : Int) (hw : w.drew.setCell ⟨b, i, none⟩ (.int .u32 v) = w') : WordsAt w' b (ws.set i v) ty ∧ Only (fun k => k = b) w w' := by
  subst hw
  exact ⟨WordsAt.set ⟨h.blk.drew, h.len⟩ i v, (Only.drew.mono (fun _ _ x => x.elim)).trans (Only.setCell ⟨b, i, none⟩ _)⟩

set_option maxRecDepth 100000 in
set_option maxHeartbeats 2000000 in
theorem r3round_any {w : World} {b : Nat} {ws : List Int} {ty : TypeId} (h : WordsAt w b ws ty) {i j k l : Nat} (hf : Four i j k l) :
    Calls Tryd.prog 63 #[.pointer (some ⟨b, 0, none⟩), .int .i64 i, .int .i64 j, .int .i64 k, .int .i64 l] w fun e w' => e = .returned (.tuple #[]) ∧ WordsAt w' b (Ch.quart i j k l ws) ty ∧ Only (fun k => k = b) w w' := by
  have HE : Hid (xorStep j k 7 (addStep k l (xorStep l i 8 (addStep i j (xorStep j k 12 (addStep k l (xorStep l i 16 (addStep i j ws))))))) = Ch.quart i j k l ws) := steps_quart h.len hf
  have H := Lib.hid h; have HF := Lib.hid hf
  have li : (i : Int) < 16 := by have := hf.hi; omega
  have lj : (j : Int) < 16 := by have := hf.hj; omega
  have lk : (k : Int) < 16 := by have := hf.hk; omega
  have ll : (l : Int) < 16 := by have := hf.hl; omega
  have pi : 0 ≤ (i : Int) := by omega
  have pj : 0 ≤ (j : Int) := by omega
  have pk : 0 ≤ (k : Int) := by omega
  have pl : 0 ≤ (l : Int) := by omega
  generalize Ch.quart i j k l ws = R at *
  clear h hf
  go_enter Tryd.func63, Tryd.ntmps63
  go_wp2
  have c1 := H.out.cell HF.out.hi
  have c2 := H.out.cell HF.out.hj
  have f1 : w.drew.frozen? ⟨b, i, none⟩ = false := H.out.blk.drew.frozen i
  have z1 : w.drew.cell? ⟨b, i, none⟩ = some (.int .u32 ((ws).getD i 0)) := c1
  obtain ⟨s1, hs1⟩ : ∃ s, (addStep i j ws) = s := ⟨_, rfl⟩
  have HN : Hid (∀ w', w.drew.setCell ⟨b, i, none⟩ (.int .u32 (Ch.low ((ws).getD i 0 + (ws).getD j 0))) = w' → WordsAt w' b s1 ty ∧ Only (fun k => k = b) w w') := fun w' hw => by rw [← hs1]; exact H.out.step i _ hw
  rw [hs1] at HE
  clear hs1 H
  generalize (ws).getD i 0 = x at *
  generalize (ws).getD j 0 = y at *
  go_still_tail 15, (by kernel_rfl)
  change wpList _ _ _ _ _ w.drew
  clear c1 c2
  generalize w.drew = v1 at *
  go_wp2
  generalize hw1 : v1.setCell _ _ = w1
  obtain ⟨h1, o1⟩ := HN.out w1 hw1
  have H1 := Lib.hid h1; have O1 := Lib.hid (o1)
  clear h1 o1 hw1 HN f1 z1
  have c1 := H1.out.cell HF.out.hl
  have c2 := H1.out.cell HF.out.hi
  have f1 : w1.drew.frozen? ⟨b, l, none⟩ = false := H1.out.blk.drew.frozen l
  have z1 : w1.drew.cell? ⟨b, l, none⟩ = some (.int .u32 ((s1).getD l 0)) := c1
  obtain ⟨s2, hs2⟩ : ∃ s, (xorStep l i 16 s1) = s := ⟨_, rfl⟩
  have HN : Hid (∀ w', w1.drew.setCell ⟨b, l, none⟩ (.int .u32 (Ch.rot (Ch.xo ((s1).getD l 0) ((s1).getD i 0)) 16)) = w' → WordsAt w' b s2 ty ∧ Only (fun k => k = b) w1 w') := fun w' hw => by rw [← hs2]; exact H1.out.step l _ hw
  rw [hs2] at HE
  clear hs2 H1
  generalize (s1).getD l 0 = x at *
  generalize (s1).getD i 0 = y at *
  refine wp_region_still_tail 16 (by kernel_rfl) (by kernel_rfl) ?_
  simp only [List.take_succ_cons, List.take_zero, List.drop_succ_cons, List.drop_zero]
  repeat (first | still_step | still_call (left_same _ _ (by decide) _))
  refine wpStill_nil ?_
  change wpList _ _ _ _ _ w1.drew
  clear c1 c2
  generalize w1.drew = v2 at *
  go_wp2
  generalize hw2 : v2.setCell _ _ = w2
  obtain ⟨h2, o2⟩ := HN.out w2 hw2
  have H2 := Lib.hid h2; have O2 := Lib.hid (O1.out.trans o2)
  clear h2 o2 hw2 HN f1 z1 O1
  have c1 := H2.out.cell HF.out.hk
  have c2 := H2.out.cell HF.out.hl
  have f1 : w2.drew.frozen? ⟨b, k, none⟩ = false := H2.out.blk.drew.frozen k
  have z1 : w2.drew.cell? ⟨b, k, none⟩ = some (.int .u32 ((s2).getD k 0)) := c1
  obtain ⟨s3, hs3⟩ : ∃ s, (addStep k l s2) = s := ⟨_, rfl⟩
  have HN : Hid (∀ w', w2.drew.setCell ⟨b, k, none⟩ (.int .u32 (Ch.low ((s2).getD k 0 + (s2).getD l 0))) = w' → WordsAt w' b s3 ty ∧ Only (fun k => k = b) w2 w') := fun w' hw => by rw [← hs3]; exact H2.out.step k _ hw
  rw [hs3] at HE
  clear hs3 H2
  generalize (s2).getD k 0 = x at *
  generalize (s2).getD l 0 = y at *
  go_still_tail 15, (by kernel_rfl)
  change wpList _ _ _ _ _ w2.drew
  clear c1 c2
  generalize w2.drew = v3 at *
  go_wp2
  generalize hw3 : v3.setCell _ _ = w3
  obtain ⟨h3, o3⟩ := HN.out w3 hw3
  have H3 := Lib.hid h3; have O3 := Lib.hid (O2.out.trans o3)
  clear h3 o3 hw3 HN f1 z1 O2
  have c1 := H3.out.cell HF.out.hj
  have c2 := H3.out.cell HF.out.hk
  have f1 : w3.drew.frozen? ⟨b, j, none⟩ = false := H3.out.blk.drew.frozen j
  have z1 : w3.drew.cell? ⟨b, j, none⟩ = some (.int .u32 ((s3).getD j 0)) := c1
  obtain ⟨s4, hs4⟩ : ∃ s, (xorStep j k 12 s3) = s := ⟨_, rfl⟩
  have HN : Hid (∀ w', w3.drew.setCell ⟨b, j, none⟩ (.int .u32 (Ch.rot (Ch.xo ((s3).getD j 0) ((s3).getD k 0)) 12)) = w' → WordsAt w' b s4 ty ∧ Only (fun k => k = b) w3 w') := fun w' hw => by rw [← hs4]; exact H3.out.step j _ hw
  rw [hs4] at HE
  clear hs4 H3
  generalize (s3).getD j 0 = x at *
  generalize (s3).getD k 0 = y at *
  refine wp_region_still_tail 16 (by kernel_rfl) (by kernel_rfl) ?_
  simp only [List.take_succ_cons, List.take_zero, List.drop_succ_cons, List.drop_zero]
  repeat (first | still_step | still_call (left_same _ _ (by decide) _))
  refine wpStill_nil ?_
  change wpList _ _ _ _ _ w3.drew
  clear c1 c2
  generalize w3.drew = v4 at *
  go_wp2
  generalize hw4 : v4.setCell _ _ = w4
  obtain ⟨h4, o4⟩ := HN.out w4 hw4
  have H4 := Lib.hid h4; have O4 := Lib.hid (O3.out.trans o4)
  clear h4 o4 hw4 HN f1 z1 O3
  have c1 := H4.out.cell HF.out.hi
  have c2 := H4.out.cell HF.out.hj
  have f1 : w4.drew.frozen? ⟨b, i, none⟩ = false := H4.out.blk.drew.frozen i
  have z1 : w4.drew.cell? ⟨b, i, none⟩ = some (.int .u32 ((s4).getD i 0)) := c1
  obtain ⟨s5, hs5⟩ : ∃ s, (addStep i j s4) = s := ⟨_, rfl⟩
  have HN : Hid (∀ w', w4.drew.setCell ⟨b, i, none⟩ (.int .u32 (Ch.low ((s4).getD i 0 + (s4).getD j 0))) = w' → WordsAt w' b s5 ty ∧ Only (fun k => k = b) w4 w') := fun w' hw => by rw [← hs5]; exact H4.out.step i _ hw
  rw [hs5] at HE
  clear hs5 H4
  generalize (s4).getD i 0 = x at *
  generalize (s4).getD j 0 = y at *
  go_still_tail 15, (by kernel_rfl)
  change wpList _ _ _ _ _ w4.drew
  clear c1 c2
  generalize w4.drew = v5 at *
  go_wp2
  generalize hw5 : v5.setCell _ _ = w5
  obtain ⟨h5, o5⟩ := HN.out w5 hw5
  have H5 := Lib.hid h5; have O5 := Lib.hid (O4.out.trans o5)
  clear h5 o5 hw5 HN f1 z1 O4
  have c1 := H5.out.cell HF.out.hl
  have c2 := H5.out.cell HF.out.hi
  have f1 : w5.drew.frozen? ⟨b, l, none⟩ = false := H5.out.blk.drew.frozen l
  have z1 : w5.drew.cell? ⟨b, l, none⟩ = some (.int .u32 ((s5).getD l 0)) := c1
  obtain ⟨s6, hs6⟩ : ∃ s, (xorStep l i 8 s5) = s := ⟨_, rfl⟩
  have HN : Hid (∀ w', w5.drew.setCell ⟨b, l, none⟩ (.int .u32 (Ch.rot (Ch.xo ((s5).getD l 0) ((s5).getD i 0)) 8)) = w' → WordsAt w' b s6 ty ∧ Only (fun k => k = b) w5 w') := fun w' hw => by rw [← hs6]; exact H5.out.step l _ hw
  rw [hs6] at HE
  clear hs6 H5
  generalize (s5).getD l 0 = x at *
  generalize (s5).getD i 0 = y at *
  refine wp_region_still_tail 16 (by kernel_rfl) (by kernel_rfl) ?_
  simp only [List.take_succ_cons, List.take_zero, List.drop_succ_cons, List.drop_zero]
  repeat (first | still_step | still_call (left_same _ _ (by decide) _))
  refine wpStill_nil ?_
  change wpList _ _ _ _ _ w5.drew
  clear c1 c2
  generalize w5.drew = v6 at *
  go_wp2
  generalize hw6 : v6.setCell _ _ = w6
  obtain ⟨h6, o6⟩ := HN.out w6 hw6
  have H6 := Lib.hid h6; have O6 := Lib.hid (O5.out.trans o6)
  clear h6 o6 hw6 HN f1 z1 O5
  have c1 := H6.out.cell HF.out.hk
  have c2 := H6.out.cell HF.out.hl
  have f1 : w6.drew.frozen? ⟨b, k, none⟩ = false := H6.out.blk.drew.frozen k
  have z1 : w6.drew.cell? ⟨b, k, none⟩ = some (.int .u32 ((s6).getD k 0)) := c1
  obtain ⟨s7, hs7⟩ : ∃ s, (addStep k l s6) = s := ⟨_, rfl⟩
  have HN : Hid (∀ w', w6.drew.setCell ⟨b, k, none⟩ (.int .u32 (Ch.low ((s6).getD k 0 + (s6).getD l 0))) = w' → WordsAt w' b s7 ty ∧ Only (fun k => k = b) w6 w') := fun w' hw => by rw [← hs7]; exact H6.out.step k _ hw
  rw [hs7] at HE
  clear hs7 H6
  generalize (s6).getD k 0 = x at *
  generalize (s6).getD l 0 = y at *
  go_still_tail 15, (by kernel_rfl)
  change wpList _ _ _ _ _ w6.drew
  clear c1 c2
  generalize w6.drew = v7 at *
  go_wp2
  generalize hw7 : v7.setCell _ _ = w7
  obtain ⟨h7, o7⟩ := HN.out w7 hw7
  have H7 := Lib.hid h7; have O7 := Lib.hid (O6.out.trans o7)
  clear h7 o7 hw7 HN f1 z1 O6
  have c1 := H7.out.cell HF.out.hj
  have c2 := H7.out.cell HF.out.hk
  have f1 : w7.drew.frozen? ⟨b, j, none⟩ = false := H7.out.blk.drew.frozen j
  have z1 : w7.drew.cell? ⟨b, j, none⟩ = some (.int .u32 ((s7).getD j 0)) := c1
  obtain ⟨s8, hs8⟩ : ∃ s, (xorStep j k 7 s7) = s := ⟨_, rfl⟩
  have HN : Hid (∀ w', w7.drew.setCell ⟨b, j, none⟩ (.int .u32 (Ch.rot (Ch.xo ((s7).getD j 0) ((s7).getD k 0)) 7)) = w' → WordsAt w' b s8 ty ∧ Only (fun k => k = b) w7 w') := fun w' hw => by rw [← hs8]; exact H7.out.step j _ hw
  rw [hs8] at HE
  clear hs8 H7
  generalize (s7).getD j 0 = x at *
  generalize (s7).getD k 0 = y at *
  refine wp_region_still_tail 16 (by kernel_rfl) (by kernel_rfl) ?_
  simp only [List.take_succ_cons, List.take_zero, List.drop_succ_cons, List.drop_zero]
  repeat (first | still_step | still_call (left_same _ _ (by decide) _))
  refine wpStill_nil ?_
  change wpList _ _ _ _ _ w7.drew
  clear c1 c2
  generalize w7.drew = v8 at *
  go_wp2
  generalize hw8 : v8.setCell _ _ = w8
  obtain ⟨h8, o8⟩ := HN.out w8 hw8
  have H8 := Lib.hid h8; have O8 := Lib.hid (O7.out.trans o8)
  clear h8 o8 hw8 HN f1 z1 O7
  go_end0
  exact ⟨rfl, by rw [← HE.out]; exact H8.out, O8.out⟩

end Go.Proofs.YtgdnmbchhfbjoaaDoor

namespace Go.Proofs.YtgdnmbchhfbjoaaDoor
open Go.RowKit

theorem take_getD (bs : List UInt8) (i j : Nat) : (bs.take i).getD j 0 = if j < i then bs.getD j 0 else 0 := by
  simp only [List.getD_eq_getElem?_getD, List.getElem?_take]
  split <;> rfl

theorem wordAt_take {bs : List UInt8} {i t : Nat} (h : t ≠ i / 4) : Ch.wordAt (bs.take (i + 1)) t = Ch.wordAt (bs.take i) t := by
  unfold Ch.wordAt
  simp only [take_getD]
  have e0 : (4 * t < i + 1) = (4 * t < i) := by apply propext; omega
  have e1 : (4 * t + 1 < i + 1) = (4 * t + 1 < i) := by apply propext; omega
  have e2 : (4 * t + 2 < i + 1) = (4 * t + 2 < i) := by apply propext; omega
  have e3 : (4 * t + 3 < i + 1) = (4 * t + 3 < i) := by apply propext; omega
  simp only [e0, e1, e2, e3]

theorem wordAt_or (bs : List UInt8) (i : Nat) : bits .or .u32 (Ch.wordAt (bs.take i) (i / 4)) (((bs.getD i 0).toNat : Int) * 2 ^ (8 * (i % 4))) = Ch.wordAt (bs.take (i + 1)) (i / 4) := by
  obtain ⟨t, r, hr, rfl⟩ : ∃ t r, r < 4 ∧ i = 4 * t + r := ⟨i / 4, i % 4, by omega, by omega⟩
  rw [show (4 * t + r) / 4 = t by omega, show (4 * t + r) % 4 = r by omega]
  unfold Ch.wordAt
  simp only [take_getD]
  have hz : ((0 : UInt8).toNat : Int) = 0 := rfl
  match r, hr with
  | 0, _ =>
    simp only [Nat.add_zero, show ¬ 4 * t < 4 * t by omega, show ¬ 4 * t + 1 < 4 * t by omega, show ¬ 4 * t + 2 < 4 * t by omega, show ¬ 4 * t + 3 < 4 * t by omega, show 4 * t < 4 * t + 1 by omega, show ¬ 4 * t + 1 < 4 * t + 1 by omega, show ¬ 4 * t + 2 < 4 * t + 1 by omega, show ¬ 4 * t + 3 < 4 * t + 1 by omega, if_true, if_false]
    unfold Ch.word
    simp only [hz]
    generalize hx : bs.getD (4 * t) 0 = x
    have q := x.toNat_lt
    generalize x.toNat = a at *
    exact or_add' 0 a 8 256 _ _ _ (by decide) (by omega) (by omega) (by omega) (by omega) (by omega)
  | 1, _ =>
    simp only [show 4 * t < 4 * t + 1 by omega, show ¬ 4 * t + 1 < 4 * t + 1 by omega, show ¬ 4 * t + 2 < 4 * t + 1 by omega, show ¬ 4 * t + 3 < 4 * t + 1 by omega, show 4 * t < 4 * t + 1 + 1 by omega, show 4 * t + 1 < 4 * t + 1 + 1 by omega, show ¬ 4 * t + 2 < 4 * t + 1 + 1 by omega, show ¬ 4 * t + 3 < 4 * t + 1 + 1 by omega, if_true, if_false]
    unfold Ch.word
    simp only [hz]
    generalize hx : bs.getD (4 * t) 0 = x
    generalize hy : bs.getD (4 * t + 1) 0 = y
    have q := x.toNat_lt
    have q1 := y.toNat_lt
    generalize x.toNat = a at *
    generalize y.toNat = b at *
    rw [bits_or_comm]
    exact or_add' b a 8 256 _ _ _ (by decide) (by omega) (by omega) (by omega) (by omega) (by omega)
  | 2, _ =>
    simp only [show 4 * t < 4 * t + 2 by omega, show 4 * t + 1 < 4 * t + 2 by omega, show ¬ 4 * t + 2 < 4 * t + 2 by omega, show ¬ 4 * t + 3 < 4 * t + 2 by omega, show 4 * t < 4 * t + 2 + 1 by omega, show 4 * t + 1 < 4 * t + 2 + 1 by omega, show 4 * t + 2 < 4 * t + 2 + 1 by omega, show ¬ 4 * t + 3 < 4 * t + 2 + 1 by omega, if_true, if_false]
    unfold Ch.word
    simp only [hz]
    generalize hx : bs.getD (4 * t) 0 = x
    generalize hy : bs.getD (4 * t + 1) 0 = y
    generalize hu : bs.getD (4 * t + 2) 0 = u
    have q := x.toNat_lt
    have q1 := y.toNat_lt
    have q2 := u.toNat_lt
    generalize x.toNat = a at *
    generalize y.toNat = b at *
    generalize u.toNat = c at *
    rw [bits_or_comm]
    exact or_add' c (a + b * 256) 16 65536 _ _ _ (by decide) (by omega) (by omega) (by omega) (by omega) (by omega)
  | 3, _ =>
    simp only [show 4 * t < 4 * t + 3 by omega, show 4 * t + 1 < 4 * t + 3 by omega, show 4 * t + 2 < 4 * t + 3 by omega, show ¬ 4 * t + 3 < 4 * t + 3 by omega, show 4 * t < 4 * t + 3 + 1 by omega, show 4 * t + 1 < 4 * t + 3 + 1 by omega, show 4 * t + 2 < 4 * t + 3 + 1 by omega, show 4 * t + 3 < 4 * t + 3 + 1 by omega, if_true, if_false]
    unfold Ch.word
    simp only [hz]
    generalize hx : bs.getD (4 * t) 0 = x
    generalize hy : bs.getD (4 * t + 1) 0 = y
    generalize hu : bs.getD (4 * t + 2) 0 = u
    generalize hv : bs.getD (4 * t + 3) 0 = v
    have q := x.toNat_lt
    have q1 := y.toNat_lt
    have q2 := u.toNat_lt
    have q3 := v.toNat_lt
    generalize x.toNat = a at *
    generalize y.toNat = b at *
    generalize u.toNat = c at *
    generalize v.toNat = d at *
    rw [bits_or_comm]
    exact or_add' d (a + b * 256 + c * 65536) 24 16777216 _ _ _ (by decide) (by omega) (by omega) (by omega) (by omega) (by omega)

theorem map_range_set {n t : Nat} (f g : Nat → Int) (ht : t < n) (h : ∀ s, s ≠ t → g s = f s) : ((List.range n).map f).set t (g t) = (List.range n).map g := by
  apply List.ext_getElem?
  intro s
  rw [List.getElem?_set]
  by_cases e : t = s
  · subst e; simp [ht]
  · rw [if_neg e]
    simp only [List.getElem?_map]
    by_cases hs : s < n
    · simp [hs, h s (fun x => e x.symm)]
    · simp [hs]

theorem start_key (key nonce : List UInt8) (c : Int) {i : Nat} (hi : i < 32) : (Ch.start (key.take i) nonce c).set (4 + i / 4) (Ch.wordAt (key.take (i + 1)) (i / 4)) = Ch.start (key.take (i + 1)) nonce c := by
  unfold Ch.start
  rw [List.set_append_right _ _ (by simp [Ch.four]), show 4 + i / 4 - Ch.four.length = i / 4 by simp [Ch.four], List.set_append_left _ _ (by simp; omega),
    map_range_set (Ch.wordAt (key.take i)) (Ch.wordAt (key.take (i + 1))) (by omega) (fun s hs => wordAt_take hs)]
theorem start_nonce (key nonce : List UInt8) (c : Int) {i : Nat} (hi : i < 12) : (Ch.start key (nonce.take i) c).set (13 + i / 4) (Ch.wordAt (nonce.take (i + 1)) (i / 4)) = Ch.start key (nonce.take (i + 1)) c := by
  unfold Ch.start
  rw [List.set_append_right _ _ (by simp [Ch.four]; omega), show 13 + i / 4 - Ch.four.length = 9 + i / 4 by simp [Ch.four]; omega, List.set_append_right _ _ (by simp; omega), List.length_map, List.length_range, show 9 + i / 4 - 8 = i / 4 + 1 by omega, List.set_cons_succ,
    map_range_set (Ch.wordAt (nonce.take i)) (Ch.wordAt (nonce.take (i + 1))) (by omega) (fun s hs => wordAt_take hs)]
theorem start_key_get (key nonce : List UInt8) (c : Int) {t : Nat} (ht : t < 8) : (Ch.start key nonce c).getD (4 + t) 0 = Ch.wordAt key t := by
  unfold Ch.start
  rw [List.getD_eq_getElem?_getD, List.getElem?_append_right (by simp [Ch.four]), show 4 + t - Ch.four.length = t by simp [Ch.four], List.getElem?_append_left (by simpa using ht)]
  simp [ht]
theorem start_nonce_get (key nonce : List UInt8) (c : Int) {t : Nat} (ht : t < 3) : (Ch.start key nonce c).getD (13 + t) 0 = Ch.wordAt nonce t := by
  unfold Ch.start
  rw [List.getD_eq_getElem?_getD, List.getElem?_append_right (by simp [Ch.four]; omega), show 13 + t - Ch.four.length = 9 + t by simp [Ch.four]; omega, List.getElem?_append_right (by simp; omega), List.length_map, List.length_range, show 9 + t - 8 = t + 1 by omega, List.getElem?_cons_succ]
  simp [ht]
theorem start_none (c : Int) : Ch.start [] [] c = (((((zpad []).set 0 1634760805).set 1 857760878).set 2 2036477234).set 3 1797285236).set 12 c := by
  have h : ∀ t, Ch.wordAt [] t = 0 := fun t => by simp [Ch.wordAt, Ch.word]
  simp [Ch.start, Ch.four, zpad, h, List.range_succ, List.replicate_succ]

end Go.Proofs.YtgdnmbchhfbjoaaDoor

namespace Go.Proofs.YtgdnmbchhfbjoaaDoor
open Go.RowKit

theorem r3four {w : World} {b : Nat} {ws : List Int} {ty : TypeId} (h : WordsAt w b ws ty) (i j k l : Nat) (hf : Four i j k l) {Q : Ending → World → Prop} (hq : ∀ w', WordsAt w' b (Ch.quart i j k l ws) ty → Only (fun k => k = b) w w' → Q (.returned (.tuple #[])) w') :
    Calls Tryd.prog 63 #[.pointer (some ⟨b, 0, none⟩), .int .i64 i, .int .i64 j, .int .i64 k, .int .i64 l] w Q :=
  (r3round_any h hf).mono fun _ w' ⟨he, h1, h2⟩ => by subst he; exact hq w' h1 h2

theorem built_words : Tryd.prog.built 93 [] = some ((zpad []).map wordV).toArray := by kernel_rfl
theorem zero_a16w : (∀ w, (zeroValue 93).run Tryd.prog w = .ok (.agg ((zpad []).map wordV).toArray) w) ∧ (Tryd.prog.info? 93).map (·.size) = some 16 :=
  zero_of_info (v := .agg ((zpad []).map wordV).toArray) (n := 16) (by kernel_rfl)
theorem built_out : Tryd.prog.built 86 [] = some (ocells 64 []).toArray := by kernel_rfl
theorem zero_a64b : (∀ w, (zeroValue 86).run Tryd.prog w = .ok (.agg (ocells 64 []).toArray) w) ∧ (Tryd.prog.info? 86).map (·.size) = some 64 :=
  zero_of_info (v := .agg (ocells 64 []).toArray) (n := 64) (by kernel_rfl)
theorem size_a16w {ws : List Int} (h : ws.length = 16) : (Tryd.prog.info? 93).map (·.size) = some (ws.map wordV).toArray.size := by
  have e : (ws.map wordV).toArray.size = 16 := by simp [h]
  rw [e]
  exact zero_a16w.2

theorem setRow_alloc3 (w : World) (a b c : Obj) (Z : Array Value) (t : TypeId) : ((((w.alloc a).alloc b).alloc c).alloc (.cells Z t)).setRow (w.heap.size + 1 + 1 + 1) Z = (((w.alloc a).alloc b).alloc c).alloc (.cells Z t) := by
  have := World.setRow_alloc_new (((w.alloc a).alloc b).alloc c) Z Z t
  rwa [World.size_alloc, World.size_alloc, World.size_alloc] at this

theorem shl_small {y r : Nat} (hy : y < 2 ^ 8) (hr : r < 4) : IntKind.u32.wrap ((y : Int) * 2 ^ (8 * r)) = (y : Int) * 2 ^ (8 * r) := by
  rw [IntKind.wrap_u32]
  match r, hr with
  | 0, _ => simp; omega
  | 1, _ => simp; omega
  | 2, _ => simp; omega
  | 3, _ => simp; omega

/-- The words fs are those of the block. -/
structure IsOut (key nonce : List UInt8) (c : Nat) (fs : List Int) : Prop where
  eq : Ch.block key nonce c = Ch.blockOf fs
/-- The words ms are fs behind ten rounds. -/
structure IsRnd (fs ms : List Int) : Prop where
  eq : Ch.rounds 10 fs = ms

/-- The words ms are fs behind i rounds. -/
structure IsNext (fs : List Int) (i : Nat) (ms : List Int) : Prop where
  eq : Ch.rounds (i + 1) fs = Ch.round ms

structure Bytes64 (ms fs : List Int) (bs : List UInt8) : Prop where
  eq : Ch.out (Ch.sums ms fs) = bs
structure IsVal (A : Array Value) (key nonce : List UInt8) (c : Nat) : Prop where
  eq : ((Ch.block key nonce c).map byteV).toArray = A

/-- Rows of noughts. -/
structure Zeros (Z16 : Array Value) : Prop where
  e16 : ((zpad []).map wordV).toArray = Z16

/-- What the document's Block keeps: the key, the nonce, the result; its words. -/
structure Rb (w wr : World) (key nonce : List UInt8) (ws : List Int) : Prop where
  kn : KN w wr key nonce
  res : Blk wr (w.heap.size + 1 + 1) (ocells 64 []) 86
  row : WordsAt wr (w.heap.size + 1 + 1 + 1) ws 93

theorem Rb.keep {w wr w' : World} {key nonce : List UInt8} {ws : List Int} {S : Nat → Prop} (h : Rb w wr key nonce ws) (ho : Only S wr w') (hs : ∀ k, S k → w.heap.size + 1 + 1 + 1 < k) : Rb w w' key nonce ws :=
  ⟨h.kn.keep ho (fun k x => by have := hs _ x; omega), h.res.keep ho (fun x => by have := hs _ x; omega), h.row.keep ho (fun x => by have := hs _ x; omega)⟩
theorem Rb.set {w wr : World} {key nonce : List UInt8} {ws : List Int} (h : Rb w wr key nonce ws) (i : Nat) (v : Int) : Rb w (wr.setCell ⟨w.heap.size + 1 + 1 + 1, i, none⟩ (.int .u32 v)) key nonce (ws.set i v) :=
  ⟨h.kn.keep (Only.setCell ⟨w.heap.size + 1 + 1 + 1, i, none⟩ _) (fun k e => by simp at e; omega), h.res.setNe _ _ (by show _ ≠ w.heap.size + 1 + 1 + 1; omega), h.row.set i v⟩

set_option maxRecDepth 100000 in
set_option maxHeartbeats 4000000 in
theorem r3Block_any {w : World} {key nonce : List UInt8} (hk : key.length = 32) (hn : nonce.length = 12) (c : Nat) :
    Calls Tryd.prog 53 #[digV key, .int .u32 c, digV nonce] w fun e w' => e = .returned (digV (Ch.block key nonce c)) ∧ Only (fun _ => False) w w' := by
  have HK := Lib.hid hk; have HN := Lib.hid hn
  have hz16 := zero_a16w.1
  have HB16 := Lib.hid built_words
  have HB64 := Lib.hid built_out
  have HSZ16 := Lib.hid (size_a16w (ws := zpad []) (zpad_length (by decide)))
  have HONE16 := Lib.hid (oneCell_words (zpad []))
  have HR0 : Hid (∀ w1, w1 = (((w.alloc (.cells (key.map byteV).toArray 22)).alloc (.cells (nonce.map byteV).toArray 64)).alloc (.cells (ocells 64 []).toArray 86)).alloc (.cells ((zpad []).map wordV).toArray 93) → Rb w w1 key nonce (zpad [])) := by
    intro w1 e
    subst e
    have h2 := Blk.new ((w.alloc (.cells (key.map byteV).toArray 22)).alloc (.cells (nonce.map byteV).toArray 64)) (ocells 64 []) 86
    have h3 := Blk.new (((w.alloc (.cells (key.map byteV).toArray 22)).alloc (.cells (nonce.map byteV).toArray 64)).alloc (.cells (ocells 64 []).toArray 86)) ((zpad []).map wordV) 93
    rw [World.size_alloc, World.size_alloc] at h2
    rw [World.size_alloc, World.size_alloc, World.size_alloc] at h3
    exact ⟨(KN.new w key nonce).alloc.alloc, h2.alloc _, ⟨h3, zpad_length (by decide)⟩⟩
  clear hk hn
  obtain ⟨Z16, hZ16⟩ : ∃ Z, ((zpad []).map wordV).toArray = Z := ⟨_, rfl⟩
  rw [hZ16] at hz16 HB16 HSZ16 HONE16 HR0
  have HZ : Zeros Z16 := ⟨hZ16⟩
  clear hZ16
  unfold digV
  go_enter Tryd.func53, Tryd.ntmps53
  go_wp2_with (first
    | (refine wpList_build_as rfl 93 #[] rfl [] (by simp [go_sem]) Z16 HB16.out ?_)
    | (refine wpList_store_row rfl 93 (.tmp 7) (.tmp 15) rfl (w.heap.size + 1 + 1 + 1) Z16 rfl rfl 93 Z16 (by have := heap_alloc_last (((w.alloc (.cells (key.map byteV).toArray 22)).alloc (.cells (nonce.map byteV).toArray 64)).alloc (.cells (ocells 64 []).toArray 86)) (.cells Z16 93); rw [World.size_alloc, World.size_alloc, World.size_alloc] at this; exact this) HSZ16.out rfl HONE16.out ?_
       rw [setRow_alloc3]
       generalize hw1 : World.alloc _ _ = w1
       have h0 := HR0.out w1 hw1.symm
       have H0 := Lib.hid h0
       clear hw1
       have d0 := h0.row.cell (i := 0) (by decide); have f0 := h0.row.blk.frozen 0
       have h1 := h0.set 0 1634760805
       have d1 := h1.row.cell (i := 1) (by decide); have f1 := h1.row.blk.frozen 1
       have h2 := h1.set 1 857760878
       have d2 := h2.row.cell (i := 2) (by decide); have f2 := h2.row.blk.frozen 2
       have h3 := h2.set 2 2036477234
       have d3 := h3.row.cell (i := 3) (by decide); have f3 := h3.row.blk.frozen 3
       have h4 := h3.set 3 1797285236
       have d4 := h4.row.cell (i := 12) (by decide); have f4 := h4.row.blk.frozen 12
       have h5 := h4.set 12 (c : Int)
       rw [← start_none] at h5
       have H5 := Lib.hid h5
       clear h0 h1 h2 h3 h4 h5 HB16 HSZ16 HONE16 HR0 hz16))
  clear d0 d1 d2 d3 d4 f0 f1 f2 f3 f4 H0
  generalize World.setCell (World.setCell _ _ _) _ (.int .u32 (c : Int)) = w2 at *
  go_loopw [8] (fun iv wr => ∃ i : Nat, i ≤ 32 ∧ iv = .int .i64 i ∧ Rb w wr key nonce (Ch.start (key.take i) [] c)) (fun iv _ => 32 - (intOf iv).toNat)
  case atStart => exact ⟨0, Nat.zero_le _, rfl, H5.out⟩
  case round =>
    obtain ⟨i, hi, rfl, hs⟩ := hrel
    by_cases hlt : i < 32
    · obtain ⟨t, ht⟩ : ∃ t, i / 4 = t := ⟨_, rfl⟩
      obtain ⟨r, hr⟩ : ∃ r, i % 4 = r := ⟨_, rfl⟩
      have c1 : wr.cell? ⟨w.heap.size + 1 + 1 + 1, 4 + t, none⟩ = some (.int .u32 (Ch.wordAt (key.take i) t)) := by
        rw [hs.row.cell (by omega), start_key_get _ _ _ (by omega)]
      have c2 : wr.cell? ⟨w.heap.size, i, none⟩ = some (.int .u8 ((key.getD i 0).toNat : Int)) := byte_cell hs.kn.kb (by rw [HK.out]; exact hlt)
      have f1 : wr.drew.frozen? ⟨w.heap.size + 1 + 1 + 1, 4 + t, none⟩ = false := hs.row.blk.drew.frozen _
      have z1 : wr.drew.cell? ⟨w.heap.size + 1 + 1 + 1, 4 + t, none⟩ = some (.int .u32 (Ch.wordAt (key.take i) t)) := c1
      have hnx : Rb w (wr.drew.setCell ⟨w.heap.size + 1 + 1 + 1, 4 + t, none⟩ (.int .u32 (bits .or .u32 (Ch.wordAt (key.take i) t) (((key.getD i 0).toNat : Int) * 2 ^ (8 * r))))) key nonce (Ch.start (key.take (i + 1)) [] c) := by
        rw [← ht, ← hr, wordAt_or, ← start_key key [] c hlt]
        exact (hs.keep Only.drew (fun _ x => x.elim)).set _ _
      have HNX := Lib.hid hnx
      have kq := (key.getD i 0).toNat_lt
      clear hs hnx H5
      generalize Ch.wordAt (key.take i) t = x at *
      generalize (key.getD i 0).toNat = y at *
      have it : (i : Int) / 4 = (t : Int) := by omega
      have ir : (i : Int) % 4 = (r : Int) := by omega
      have it' : (i : Int).tdiv 4 = (t : Int) := by rw [Int.tdiv_eq_ediv_of_nonneg (by omega)]; exact it
      have ir' : (i : Int).tmod 4 = (r : Int) := by rw [Int.tmod_eq_emod_of_nonneg (by omega)]; exact ir
      have hr4 : r < 4 := by omega
      have ht8 : t < 8 := by omega
      have w4 : IntKind.i64.wrap (4 + (t : Int)) = 4 + (t : Int) := IntWalk.i64_in _ (by omega)
      have wt : IntKind.i64.wrap (t : Int) = (t : Int) := IntWalk.i64_in _ (by omega)
      have wr1 : IntKind.i64.wrap (r : Int) = (r : Int) := IntWalk.i64_in _ (by omega)
      have wr2 : IntKind.u64.wrap (r : Int) = (r : Int) := by rw [IntKind.wrap_u64]; omega
      have wr3 : IntKind.u64.wrap (8 * (r : Int)) = 8 * (r : Int) := by rw [IntKind.wrap_u64]; omega
      have nr : (8 * (r : Int)).toNat = 8 * r := by omega
      have n4 : (4 + (t : Int)).toNat = 4 + t := by omega
      have p4 : 0 ≤ 4 + (t : Int) := by omega
      have m4 : 4 + (t : Int) < 16 := by omega
      have pi : 0 ≤ (i : Int) := by omega
      have mi : (i : Int) < 32 := by omega
      have wy : IntKind.u32.wrap (y : Int) = (y : Int) := by rw [IntKind.wrap_u32]; omega
      have wsh := shl_small kq hr4
      clear ht hr kq
      go_wp2
      go_still_tail 19, (by kernel_rfl)
      change wpList _ _ _ _ _ wr.drew
      clear c1 c2
      generalize wr.drew = w5 at *
      go_wp2
      go_roundw
      case rel => exact ⟨i + 1, by omega, by go_num, HNX.out⟩
      case measure => simp [intOf]; omega
    · obtain rfl : i = 32 := by omega
      rw [List.take_of_length_le (by rw [HK.out]; omega)] at hs
      have HS : Hid (Rb w wr key nonce (Ch.start key (nonce.take 0) c)) := by rw [List.take_zero]; exact hs
      clear hs H5
      rw [show ((32 : Nat) : Int) = 32 from rfl]
      go_wp2
      go_loopw [9] (fun iv w6 => ∃ i : Nat, i ≤ 12 ∧ iv = .int .i64 i ∧ Rb w w6 key nonce (Ch.start key (nonce.take i) c)) (fun iv _ => 12 - (intOf iv).toNat)
      case atStart => exact ⟨0, Nat.zero_le _, rfl, HS.out⟩
      case round =>
        obtain ⟨i, hi, rfl, hs⟩ := hrel
        by_cases hlt : i < 12
        · obtain ⟨t, ht⟩ : ∃ t, i / 4 = t := ⟨_, rfl⟩
          obtain ⟨r, hr⟩ : ∃ r, i % 4 = r := ⟨_, rfl⟩
          have c1 : wr.cell? ⟨w.heap.size + 1 + 1 + 1, 13 + t, none⟩ = some (.int .u32 (Ch.wordAt (nonce.take i) t)) := by
            rw [hs.row.cell (by omega), start_nonce_get _ _ _ (by omega)]
          have c2 : wr.cell? ⟨w.heap.size + 1, i, none⟩ = some (.int .u8 ((nonce.getD i 0).toNat : Int)) := byte_cell hs.kn.nb (by rw [HN.out]; exact hlt)
          have f1 : wr.drew.frozen? ⟨w.heap.size + 1 + 1 + 1, 13 + t, none⟩ = false := hs.row.blk.drew.frozen _
          have z1 : wr.drew.cell? ⟨w.heap.size + 1 + 1 + 1, 13 + t, none⟩ = some (.int .u32 (Ch.wordAt (nonce.take i) t)) := c1
          have hnx : Rb w (wr.drew.setCell ⟨w.heap.size + 1 + 1 + 1, 13 + t, none⟩ (.int .u32 (bits .or .u32 (Ch.wordAt (nonce.take i) t) (((nonce.getD i 0).toNat : Int) * 2 ^ (8 * r))))) key nonce (Ch.start key (nonce.take (i + 1)) c) := by
            rw [← ht, ← hr, wordAt_or, ← start_nonce key nonce c hlt]
            exact (hs.keep Only.drew (fun _ x => x.elim)).set _ _
          have HNX := Lib.hid hnx
          have kq := (nonce.getD i 0).toNat_lt
          clear hs hnx HS
          generalize Ch.wordAt (nonce.take i) t = x at *
          generalize (nonce.getD i 0).toNat = y at *
          have it : (i : Int) / 4 = (t : Int) := by omega
          have ir : (i : Int) % 4 = (r : Int) := by omega
          have it' : (i : Int).tdiv 4 = (t : Int) := by rw [Int.tdiv_eq_ediv_of_nonneg (by omega)]; exact it
          have ir' : (i : Int).tmod 4 = (r : Int) := by rw [Int.tmod_eq_emod_of_nonneg (by omega)]; exact ir
          have hr4 : r < 4 := by omega
          have ht8 : t < 3 := by omega
          have w4 : IntKind.i64.wrap (13 + (t : Int)) = 13 + (t : Int) := IntWalk.i64_in _ (by omega)
          have wt : IntKind.i64.wrap (t : Int) = (t : Int) := IntWalk.i64_in _ (by omega)
          have wr1 : IntKind.i64.wrap (r : Int) = (r : Int) := IntWalk.i64_in _ (by omega)
          have wr2 : IntKind.u64.wrap (r : Int) = (r : Int) := by rw [IntKind.wrap_u64]; omega
          have wr3 : IntKind.u64.wrap (8 * (r : Int)) = 8 * (r : Int) := by rw [IntKind.wrap_u64]; omega
          have nr : (8 * (r : Int)).toNat = 8 * r := by omega
          have n4 : (13 + (t : Int)).toNat = 13 + t := by omega
          have p4 : 0 ≤ 13 + (t : Int) := by omega
          have m4 : 13 + (t : Int) < 16 := by omega
          have pi : 0 ≤ (i : Int) := by omega
          have mi : (i : Int) < 12 := by omega
          have wy : IntKind.u32.wrap (y : Int) = (y : Int) := by rw [IntKind.wrap_u32]; omega
          have wsh := shl_small kq hr4
          clear ht hr kq
          go_wp2
          go_still_tail 19, (by kernel_rfl)
          change wpList _ _ _ _ _ wr.drew
          clear c1 c2
          generalize wr.drew = w5 at *
          go_wp2
          go_roundw
          case rel => exact ⟨i + 1, by omega, by go_num, HNX.out⟩
          case measure => simp [intOf]; omega
        · obtain rfl : i = 12 := by omega
          rw [List.take_of_length_le (by rw [HN.out]; omega)] at hs
          have HLN := Lib.hid (Ch.start_length key nonce c)
          have HIS : IsOut key nonce c (Ch.start key nonce c) := ⟨rfl⟩
          generalize Ch.start key nonce c = fs at *
          have HROW := Lib.hid hs.row.blk.heap
          have HRB := Lib.hid hs
          have HSZ := Lib.hid (size_a16w HLN.out); have HONE := Lib.hid (oneCell_words fs)
          have hwz : ((zpad []).map wordV).toArray.size = (fs.map wordV).toArray.size := by simp [zpad, HLN.out]
          have HWZ := Lib.hid hwz
          clear hs HS hwz
          rw [show ((12 : Nat) : Int) = 12 from rfl]
          go_wp2_with (first
            | (refine wpList_load_row rfl 93 (.tmp 7) rfl (w.heap.size + 1 + 1 + 1) rfl 93 (fs.map wordV).toArray (0, 0) _ HROW.out Tryd.underlying93 rfl HSZ.out ?_)
            | (refine wpList_store_row rfl 93 (.tmp 10) (.tmp 68) rfl wr.heap.size (fs.map wordV).toArray rfl rfl 93 ((zpad []).map wordV).toArray (heap_alloc_last _ _) HSZ.out HWZ.out HONE.out ?_
               rw [World.setRow_alloc_new]
               have hy7 : WordsAt (wr.alloc (.cells (fs.map wordV).toArray 93)) wr.heap.size fs 93 := ⟨Blk.new _ _ _, HLN.out⟩
               have hr7 := HRB.out.keep (Only.alloc (.cells (fs.map wordV).toArray 93)) (fun _ x => x.elim)
               have hg7 : w.heap.size + 1 + 1 + 1 < wr.heap.size := HRB.out.row.blk.lt
               have HY7 := Lib.hid hy7; have HR7 := Lib.hid hr7
               clear hy7 hr7 HROW HRB HSZ HONE HWZ
               generalize wr.alloc (.cells (fs.map wordV).toArray 93) = w7 at *
               generalize wr.heap.size = g at *))
          go_loopw [11] (fun iv w6 => ∃ i : Nat, i ≤ 10 ∧ iv = .int .i64 i ∧ Rb w w6 key nonce fs ∧ WordsAt w6 g (Ch.rounds i fs) 93) (fun iv _ => 10 - (intOf iv).toNat)
          case atStart => exact ⟨0, Nat.zero_le _, rfl, HR7.out, HY7.out⟩
          case round =>
            obtain ⟨i, hi, rfl, hs, hy⟩ := hrel
            by_cases hlt : i < 10
            · have HX := Lib.hid hy; have HS := Lib.hid hs
              have HEQ : IsNext fs i (Ch.rounds i fs) := ⟨rfl⟩
              clear hs hy HR7 HY7
              generalize Ch.rounds i fs = ms at *
              go_wp2_with fail
              refine r3four HX.out 0 4 8 12 (by constructor <;> decide) fun x1 h1 o1 => ?_
              have H1 := Lib.hid h1; have O1 := Lib.hid (o1)
              clear h1 o1 HX
              go_wp2_with fail
              refine r3four H1.out 1 5 9 13 (by constructor <;> decide) fun x2 h2 o2 => ?_
              have H2 := Lib.hid h2; have O2 := Lib.hid (O1.out.trans o2)
              clear h2 o2 H1 O1
              go_wp2_with fail
              refine r3four H2.out 2 6 10 14 (by constructor <;> decide) fun x3 h3 o3 => ?_
              have H3 := Lib.hid h3; have O3 := Lib.hid (O2.out.trans o3)
              clear h3 o3 H2 O2
              go_wp2_with fail
              refine r3four H3.out 3 7 11 15 (by constructor <;> decide) fun x4 h4 o4 => ?_
              have H4 := Lib.hid h4; have O4 := Lib.hid (O3.out.trans o4)
              clear h4 o4 H3 O3
              go_wp2_with fail
              refine r3four H4.out 0 5 10 15 (by constructor <;> decide) fun x5 h5 o5 => ?_
              have H5 := Lib.hid h5; have O5 := Lib.hid (O4.out.trans o5)
              clear h5 o5 H4 O4
              go_wp2_with fail
              refine r3four H5.out 1 6 11 12 (by constructor <;> decide) fun x6 h6 o6 => ?_
              have H6 := Lib.hid h6; have O6 := Lib.hid (O5.out.trans o6)
              clear h6 o6 H5 O5
              go_wp2_with fail
              refine r3four H6.out 2 7 8 13 (by constructor <;> decide) fun x7 h7 o7 => ?_
              have H7 := Lib.hid h7; have O7 := Lib.hid (O6.out.trans o7)
              clear h7 o7 H6 O6
              go_wp2_with fail
              refine r3four H7.out 3 4 9 14 (by constructor <;> decide) fun x8 h8 o8 => ?_
              have H8 := Lib.hid h8; have O8 := Lib.hid (O7.out.trans o8)
              clear h8 o8 H7 O7
              go_wp2_with fail
              go_roundw
              case rel =>
                refine ⟨i + 1, by omega, by go_num, HS.out.keep O8.out (fun k e => by omega), ?_⟩
                rw [HEQ.eq]
                exact H8.out
              case measure => simp [intOf]; omega
            · obtain rfl : i = 10 := by omega
              have HMS : IsRnd fs (Ch.rounds 10 fs) := ⟨rfl⟩
              generalize Ch.rounds 10 fs = ms at *
              have HS := Lib.hid hs; have HYY := Lib.hid hy
              have HSZ := Lib.hid (show (Tryd.prog.info? 86).map (·.size) = some (ocells 64 []).toArray.size by kernel_rfl)
              have HONE := Lib.hid (show (ocells 64 []).toArray.all (·.oneCell') = true by simp [ocells, byteV, Value.oneCell'])
              clear hs hy HR7 HY7
              rw [show ((10 : Nat) : Int) = 10 from rfl]
              go_wp2_with (first
                | (refine wpList_build_as rfl 86 #[] rfl [] (by simp [go_sem]) (ocells 64 []).toArray HB64.out ?_)
                | (refine wpList_store_row rfl 86 (.tmp 12) (.tmp 81) rfl wr.heap.size (ocells 64 []).toArray rfl rfl 86 (ocells 64 []).toArray (heap_alloc_last _ _) HSZ.out rfl HONE.out ?_
                   rw [World.setRow_alloc_new]
                   have hy9 := HYY.out.keep (Only.alloc (.cells (ocells 64 []).toArray 86)) (fun x => x)
                   have hr9 := HS.out.keep (Only.alloc (.cells (ocells 64 []).toArray 86)) (fun _ x => x.elim)
                   have hb9 := Blk.new wr (ocells 64 []) 86
                   have hg9 : g < wr.heap.size := HYY.out.blk.lt
                   have HY9 := Lib.hid hy9; have HR9 := Lib.hid hr9; have HB9 := Lib.hid hb9
                   clear hy9 hr9 hb9 HYY HS HSZ HONE HB64
                   generalize wr.alloc (.cells (ocells 64 []).toArray 86) = w9 at *
                   generalize wr.heap.size = g9 at *))
              have hol : (Ch.out (Ch.sums ms fs)).length = 64 := Ch.out_length _
              have HBY : Bytes64 ms fs (Ch.out (Ch.sums ms fs)) := ⟨rfl⟩
              have HB9' : Hid (Blk w9 g9 (ocells 64 ((Ch.out (Ch.sums ms fs)).take 0)) 86) := HB9.out
              generalize Ch.out (Ch.sums ms fs) = bs at *
              have HOL := Lib.hid hol
              clear hol HB9
              go_loopw [13] (fun iv w6 => ∃ i : Nat, i ≤ 64 ∧ iv = .int .i64 i ∧ Rb w w6 key nonce fs ∧ WordsAt w6 g ms 93 ∧ Blk w6 g9 (ocells 64 (bs.take i)) 86) (fun iv _ => 64 - (intOf iv).toNat)
              case atStart => exact ⟨0, Nat.zero_le _, rfl, HR9.out, HY9.out, HB9'.out⟩
              case round =>
                obtain ⟨i, hi, rfl, hs, hy, hb⟩ := hrel
                by_cases hlt : i < 64
                · obtain ⟨t, ht⟩ : ∃ t, i / 4 = t := ⟨_, rfl⟩
                  obtain ⟨r, hr⟩ : ∃ r, i % 4 = r := ⟨_, rfl⟩
                  have c1 : wr.cell? ⟨w.heap.size + 1 + 1 + 1, t, none⟩ = some (.int .u32 (fs.getD t 0)) := hs.row.cell (by omega)
                  have c2 : wr.cell? ⟨g, t, none⟩ = some (.int .u32 (ms.getD t 0)) := hy.cell (by omega)
                  have hby : byteV (bs.getD i 0) = .int .u8 ((fs.getD t 0 + ms.getD t 0) % 4294967296 / 2 ^ (8 * r) % 256) := by
                    have := out_byte ms fs (i := t) (r := r) (by omega) (by omega)
                    rw [HBY.eq, show 4 * t + r = i by omega] at this
                    rw [this, Int.add_comm]
                    rfl
                  have HNX : Hid (∀ n, (wr.drewN n).cell? ⟨g9, i, none⟩ = some (.int .u8 0) ∧ (wr.drewN n).frozen? ⟨g9, i, none⟩ = false ∧ (Rb w ((wr.drewN n).setCell ⟨g9, i, none⟩ (.int .u8 ((fs.getD t 0 + ms.getD t 0) % 4294967296 / 2 ^ (8 * r) % 256))) key nonce fs ∧ WordsAt ((wr.drewN n).setCell ⟨g9, i, none⟩ (.int .u8 ((fs.getD t 0 + ms.getD t 0) % 4294967296 / 2 ^ (8 * r) % 256))) g ms 93 ∧ Blk ((wr.drewN n).setCell ⟨g9, i, none⟩ (.int .u8 ((fs.getD t 0 + ms.getD t 0) % 4294967296 / 2 ^ (8 * r) % 256))) g9 (ocells 64 (bs.take (i + 1))) 86)) := by
                    intro n
                    obtain ⟨d1, d2, d3⟩ := out_step (hb.drewN n) HOL.out hlt hby
                    refine ⟨d1, d2, (hs.keep (Only.drewN n) (fun _ x => x.elim)).keep (Only.setCell ⟨g9, i, none⟩ _) (fun k e => by simp at e; omega), (hy.drewN n).keep (Only.setCell ⟨g9, i, none⟩ _) (by simp; omega), d3⟩
                  have it : (i : Int) / 4 = (t : Int) := by omega
                  have ir : (i : Int) % 4 = (r : Int) := by omega
                  have it' : (i : Int).tdiv 4 = (t : Int) := by rw [Int.tdiv_eq_ediv_of_nonneg (by omega)]; exact it
                  have ir' : (i : Int).tmod 4 = (r : Int) := by rw [Int.tmod_eq_emod_of_nonneg (by omega)]; exact ir
                  have wt : IntKind.i64.wrap (t : Int) = (t : Int) := IntWalk.i64_in _ (by omega)
                  have wr1 : IntKind.i64.wrap (r : Int) = (r : Int) := IntWalk.i64_in _ (by omega)
                  have wr2 : IntKind.u64.wrap (r : Int) = (r : Int) := by rw [IntKind.wrap_u64]; omega
                  have wr3 : IntKind.u64.wrap (8 * (r : Int)) = 8 * (r : Int) := by rw [IntKind.wrap_u64]; omega
                  have nr : (8 * (r : Int)).toNat = 8 * r := by omega
                  have pi : 0 ≤ (i : Int) := by omega
                  have mi : (i : Int) < 64 := by omega
                  have pt : 0 ≤ (t : Int) := by omega
                  have mt : (t : Int) < 16 := by omega
                  have hr4 : r < 4 := by omega
                  clear hs hy hb hby ht hr HR9 HY9 HB9'
                  generalize fs.getD t 0 = x at *
                  generalize ms.getD t 0 = y at *
                  go_wp2
                  go_quiet (fail)
                  obtain ⟨d1, d2, hn9⟩ := HNX.out nq
                  have HN9 := Lib.hid hn9
                  clear c1 c2 HNX hn9
                  generalize (x + y) % 4294967296 = z at *
                  generalize wr.drewN nq = w5 at *
                  go_wp2
                  go_roundw
                  case rel => exact ⟨i + 1, by omega, by go_num, HN9.out⟩
                  case measure => simp [intOf]; omega
                · have e64 : bs.take i = bs := List.take_of_length_le (by have := HOL.out; omega)
                  rw [e64, ocells_full HOL.out] at hb
                  have HROW := Lib.hid hb.heap
                  have HRES := Lib.hid hs.res.heap
                  have HFIN : Hid ((wr.setRow (w.heap.size + 1 + 1) (bs.map byteV).toArray).heap[w.heap.size + 1 + 1]? = some (.cells (bs.map byteV).toArray 86 (0, 0)) ∧ Only (fun _ => False) w (wr.setRow (w.heap.size + 1 + 1) (bs.map byteV).toArray)) :=
                    ⟨hs.res.row _, hs.kn.only.andThen (Only.setRow _ _) (fun k hk e => by omega)⟩
                  have hwz : (ocells 64 []).toArray.size = (bs.map byteV).toArray.size := by simp [ocells, HOL.out]
                  have HSZ8 := Lib.hid (size_a64 HOL.out); have HWZ := Lib.hid hwz; have HONE := Lib.hid (oneCell_bytes bs)
                  have HV : IsVal (bs.map byteV).toArray key nonce c := ⟨by rw [HIS.eq]; unfold Ch.blockOf; rw [HMS.eq, HBY.eq]⟩
                  clear hb hs hy hwz e64 HR9 HY9 HB9' HOL
                  generalize (bs.map byteV).toArray = A at *
                  generalize (ocells 64 []).toArray = Z at *
                  go_wp2_with (first
                    | (refine wpList_load_row rfl 86 (.tmp 12) rfl g9 rfl 86 A (0, 0) _ HROW.out Tryd.underlying86 rfl HSZ8.out ?_)
                    | (refine wpList_store_row rfl 86 (.tmp 6) (.tmp 104) rfl (w.heap.size + 1 + 1) A rfl rfl 86 Z HRES.out HSZ8.out HWZ.out HONE.out ?_))
                  exact bodyPost_ret (v := .agg A) (results_cell_row rfl _ _ (w.heap.size + 1 + 1) 86 A (0, 0) _ rfl HFIN.out.1 Tryd.underlying86 rfl HSZ8.out) rfl ⟨by rw [HV.eq], HFIN.out.2⟩

end Go.Proofs.YtgdnmbchhfbjoaaDoor

namespace Go.Proofs.YtgdnmbchhfbjoaaDoor
open Go.RowKit

theorem setRow_alloc3' (w : World) (a b c : Obj) (Z Z' : Array Value) (t : TypeId) : ((((w.alloc a).alloc b).alloc c).alloc (.cells Z t)).setRow (w.heap.size + 1 + 1 + 1) Z' = (((w.alloc a).alloc b).alloc c).alloc (.cells Z' t) := by
  have := World.setRow_alloc_new (((w.alloc a).alloc b).alloc c) Z Z' t
  rwa [World.size_alloc, World.size_alloc, World.size_alloc] at this

/-- What the loop of the document's XOR keeps: key and nonce, its block, the row so far. -/
structure Rx (w wr : World) (key nonce : List UInt8) (B : List UInt8) (ov : Value) (xs : List UInt8) : Prop where
  kn : KN w wr key nonce
  blk : Blk wr (w.heap.size + 1 + 1 + 1) (B.map byteV) 86
  len : B.length = 64
  row : wr.ownsRow 0 5 1 ov xs.length (xs.map byteV)
  own : ∀ q, ov.ownBlock = some q → q = w.heap.size + 1 + 1 ∨ w.heap.size + 1 + 1 + 1 < q

theorem Rx.keep {w wr w' : World} {key nonce B : List UInt8} {ov : Value} {xs : List UInt8} (h : Rx w wr key nonce B ov xs) (ho : Only (fun _ => False) wr w') : Rx w w' key nonce B ov xs :=
  ⟨h.kn.keep ho (fun _ x => x.elim), h.blk.keep ho (fun x => x), h.len, ownsRow_keep h.row (fun q hq => ho.block q (h.row.lt q hq).2 (fun x => x)), h.own⟩
theorem Rx.store {w wr : World} {key nonce B B' : List UInt8} {ov : Value} {xs : List UInt8} (h : Rx w wr key nonce B ov xs) (hl : B'.length = 64) : Rx w (wr.setRow (w.heap.size + 1 + 1 + 1) (B'.map byteV).toArray) key nonce B' ov xs :=
  ⟨h.kn.keep (Only.setRow _ _) (fun k e => by omega), h.blk.row _, hl, ownsRow_keep h.row (fun q hq => setRow_other _ _ _ _ (by have := h.own q hq; omega)), h.own⟩
theorem Rx.app {w wr w1 w2 : World} {key nonce B : List UInt8} {ov : Value} {xs y : List UInt8} {a : Option Addr} {n c : Nat} (h : Rx w wr key nonce B ov xs) (ho : Only (fun _ => False) wr w1) (hn : n = xs.length + y.length) (hr : w2.ownsRow 0 5 1 (.slice a n c) n (xs.map byteV ++ y.map byteV)) (hg : w1.grownBy w2 ov.ownBlock) (hat : (Value.slice a n c).ownBlock = ov.ownBlock ∨ (Value.slice a n c).ownBlock = some w1.heap.size) :
    Rx w w2 key nonce B (.slice a n c) (xs ++ y) := by
  subst hn
  have h1 := h.keep ho
  have ho2 : Only (fun q => some q = ov.ownBlock) w1 w2 := (Only.of_grown hg).mono (fun q _ h => h)
  have hb := h1.blk.lt
  refine ⟨h1.kn.keep ho2 (fun q e => by have := h.own q e.symm; omega), h1.blk.keep ho2 (fun e => by have := h.own _ e.symm; omega), h.len, by rw [List.length_append, List.map_append]; exact hr, fun q hq => ?_⟩
  rcases hat with e | e
  · exact h.own q (by rw [← e]; exact hq)
  · rw [hq] at e
    have e1 : q = w1.heap.size := Option.some.inj e
    omega

theorem xor_snoc (key nonce : List UInt8) (p : Nat) {bs : List UInt8} {i : Nat} (h : i < bs.length) : Ch.xor key nonce p (bs.take (i + 1)) = Ch.xor key nonce p (bs.take i) ++ [bs.getD i 0 ^^^ Ch.byte key nonce (p + i)] := by
  have e : bs.take (i + 1) = bs.take i ++ [bs.getD i 0] := by
    rw [List.take_succ_eq_append_getElem h]
    simp [h]
  have ht : (bs.take i).length = i := by simp; omega
  rw [e, Ch.xor_append, ht]
  rfl

theorem r3XOR_err {w : World} {key nonce : List UInt8} {at' : Int} {a : Option Addr} {n c : Nat} (h : ¬ Within at' n) :
    Calls Tryd.prog 36 #[digV key, digV nonce, .int .i64 at', .slice a n c] w fun e w' => e = .returned (.tuple #[.slice none 0 0, .int .i64 8]) ∧ Only (fun _ => False) w w' := by
  have HO : Hid (Only (fun _ => False) w ((w.alloc (.cells (key.map byteV).toArray 22)).alloc (.cells (nonce.map byteV).toArray 64))) := (KN.new w key nonce).only
  unfold digV
  by_cases h0 : at' < 0
  · go_enter Tryd.func36, Tryd.ntmps36
    go_wp2
    go_ret2
    exact ⟨rfl, HO.out⟩
  · by_cases h1 : 274877906944 < at'
    · have h0' : 0 ≤ at' := by omega
      go_enter Tryd.func36, Tryd.ntmps36
      go_wp2
      go_ret2
      exact ⟨rfl, HO.out⟩
    · have h2 : 274877906944 - at' < (n : Int) := by unfold Within at h; omega
      have h0' : 0 ≤ at' := by omega
      have h1' : at' ≤ 274877906944 := by omega
      have hw : IntKind.i64.wrap (274877906944 - at') = 274877906944 - at' := IntWalk.i64_in _ (by omega)
      clear h
      go_enter Tryd.func36, Tryd.ntmps36
      go_wp2
      go_ret2
      exact ⟨rfl, HO.out⟩

/-- The row ahead of the place i. -/
structure Upto (key nonce : List UInt8) (p : Nat) (bs : List UInt8) (i : Nat) (xs : List UInt8) : Prop where
  eq : Ch.xor key nonce p (bs.take i) = xs
  len : xs.length = i

theorem Upto.next {key nonce : List UInt8} {p : Nat} {bs : List UInt8} {i : Nat} {xs : List UInt8} (h : Upto key nonce p bs i xs) (hi : i < bs.length) {B : List UInt8} (hB : Ch.block key nonce ((p + i) / 64) = B) : Upto key nonce p bs (i + 1) (xs ++ [bs.getD i 0 ^^^ B.getD ((p + i) % 64) 0]) := by
  subst hB
  refine ⟨?_, by simp [h.len]⟩
  rw [xor_snoc key nonce p hi, h.eq]
  rfl

/-- B is the block that the place i needs, or one has to be made. -/
def Holds (key nonce : List UInt8) (p i : Nat) (B : List UInt8) : Prop := i = 0 ∨ (p + i) % 64 = 0 ∨ Ch.block key nonce ((p + i) / 64) = B

theorem Holds.next {key nonce : List UInt8} {p i : Nat} {B : List UInt8} (h : Ch.block key nonce ((p + i) / 64) = B) : Holds key nonce p (i + 1) B := by
  by_cases e : (p + (i + 1)) % 64 = 0
  · exact .inr (.inl e)
  · refine .inr (.inr ?_)
    rw [← h, show (p + (i + 1)) / 64 = (p + i) / 64 by omega]

/-- Facts on a place. -/
structure Place (p i d z : Nat) : Prop where
  d : (p + i) / 64 = d
  z : (p + i) % 64 = z

set_option maxRecDepth 100000 in
set_option maxHeartbeats 2000000 in
theorem r3XOR_ok {w : World} {key nonce : List UInt8} (hk : key.length = 32) (hn : nonce.length = 12) {p : Nat} {S : Nat → Prop} {v : Value} {bs : List UInt8} (hv : BytesAt w S v bs) (hS : ∀ k, S k → k < w.heap.size) (hlen : Few bs.length) (hfit : Fits p bs.length) :
    Calls Tryd.prog 36 #[digV key, digV nonce, .int .i64 (p : Int), v] w fun e w' => ∃ a c, e = .returned (.tuple #[.slice a bs.length c, .int .i64 0]) ∧ Row w w' (.slice a bs.length c) (Ch.xor key nonce p bs) := by
  obtain ⟨va, vc, rfl⟩ := hv.shape
  have HK := Lib.hid hk; have HN := Lib.hid hn; have HV := Lib.hid hv; have HS := Lib.hid hS
  have HB64 := Lib.hid built_out
  have HSZ := Lib.hid (show (Tryd.prog.info? 86).map (·.size) = some (ocells 64 []).toArray.size by kernel_rfl)
  have HONE := Lib.hid (show (ocells 64 []).toArray.all (·.oneCell') = true by simp [ocells, byteV, Value.oneCell'])
  have hle := hfit.le
  have g0 : ¬ (p : Int) < 0 := by omega
  have g1 : ¬ (p : Int) > 274877906944 := by omega
  have g2 : ¬ (bs.length : Int) > 274877906944 - (p : Int) := by omega
  have g3 : IntKind.i64.wrap (274877906944 - (p : Int)) = 274877906944 - (p : Int) := IntWalk.i64_in _ (by omega)
  have HR0 : Hid (∀ w1, w1 = (((w.alloc (.cells (key.map byteV).toArray 22)).alloc (.cells (nonce.map byteV).toArray 64)).alloc (.cells #[] 5)).alloc (.cells (ocells 64 []).toArray 86) → Rx w w1 key nonce (List.replicate 64 0) (.slice (some ⟨w.heap.size + 1 + 1, 0, none⟩) 0 0) []) := by
    intro w1 e
    subst e
    have h3 := Blk.new (((w.alloc (.cells (key.map byteV).toArray 22)).alloc (.cells (nonce.map byteV).toArray 64)).alloc (.cells #[] 5)) (ocells 64 []) 86
    rw [World.size_alloc, World.size_alloc, World.size_alloc] at h3
    have h2 := World.ownsRow_made ((w.alloc (.cells (key.map byteV).toArray 22)).alloc (.cells (nonce.map byteV).toArray 64)) (e := 5) (size := 1) (base := 0) #[] 0 (Nat.zero_le _) (Nat.zero_le _) rfl
    rw [World.size_alloc, World.size_alloc] at h2
    refine ⟨(KN.new w key nonce).alloc.alloc, by simpa [ocells] using h3, by simp, ?_, fun q hq => .inl ?_⟩
    · have := h2.alloc (.cells (ocells 64 []).toArray 86)
      simpa using this
    · exact (Option.some.inj hq).symm
  clear hk hn hv hS hle
  unfold digV
  go_enter Tryd.func36, Tryd.ntmps36
  go_wp2_with (first
    | (refine wpList_build_as rfl 86 #[] rfl [] (by simp [go_sem]) (ocells 64 []).toArray HB64.out ?_)
    | (refine wpList_store_row rfl 86 (.tmp 11) (.tmp 27) rfl (w.heap.size + 1 + 1 + 1) (ocells 64 []).toArray rfl rfl 86 (ocells 64 []).toArray (by have := heap_alloc_last (((w.alloc (.cells (key.map byteV).toArray 22)).alloc (.cells (nonce.map byteV).toArray 64)).alloc (.cells #[] 5)) (.cells (ocells 64 []).toArray 86); rw [World.size_alloc, World.size_alloc, World.size_alloc] at this; exact this) HSZ.out rfl HONE.out ?_
       rw [setRow_alloc3']
       generalize hw1 : World.alloc _ _ = w1
       have h0 := HR0.out w1 hw1.symm
       have H0 := Lib.hid h0
       clear hw1 h0 HR0 HB64 HSZ HONE g0 g1 g2 g3))
  go_loopw [10, 12] (fun ov iv wr => ∃ (i : Nat) (B xs : List UInt8), i ≤ bs.length ∧ iv = .int .i64 i ∧ Rx w wr key nonce B ov xs ∧ Upto key nonce p bs i xs ∧ Holds key nonce p i B) (fun _ iv _ => bs.length - (intOf iv).toNat)
  case atStart => exact ⟨0, List.replicate 64 0, [], Nat.zero_le _, rfl, H0.out, ⟨rfl, rfl⟩, .inl rfl⟩
  case round =>
    obtain ⟨i, B, xs, hi, rfl, hx, hup, hho⟩ := hrel
    have hl := hlen.le
    by_cases hlt : i < bs.length
    · obtain ⟨ad, rfl, hc1⟩ : ∃ ad, va = some ad ∧ ∀ w1, Only (fun _ => False) w w1 → w1.cell? (ad.add i) = some (.int .u8 ((bs.getD i 0).toNat : Int)) := by
        rcases HV.out with ⟨_, e⟩ | ⟨ad, c, e, _, h2, h3⟩
        · rw [e] at hlt; simp at hlt
        · obtain ⟨e1, _, _⟩ := Value.slice.inj e
          refine ⟨ad, e1, fun w1 ho => ?_⟩
          rw [World.cell?_of_block (w := w) (by rw [add_block]; exact ho.block _ (HS.out _ (h2 (by rintro rfl; simp at hlt))) (fun x => x)), h3 i _ (List.getElem?_eq_getElem hlt)]
          simp [byteV, hlt]
      obtain ⟨d, hd⟩ : ∃ d, (p + i) / 64 = d := ⟨_, rfl⟩
      obtain ⟨z, hz⟩ : ∃ z, (p + i) % 64 = z := ⟨_, rfl⟩
      have hle := hfit.le
      have wpi : IntKind.i64.wrap ((p : Int) + (i : Int)) = (p : Int) + (i : Int) := IntWalk.i64_in _ (by omega)
      have qd : ((p : Int) + (i : Int)) / 64 = (d : Int) := by omega
      have qz : ((p : Int) + (i : Int)) % 64 = (z : Int) := by omega
      have qd' : ((p : Int) + (i : Int)).tdiv 64 = (d : Int) := by rw [Int.tdiv_eq_ediv_of_nonneg (by omega)]; exact qd
      have qz' : ((p : Int) + (i : Int)).tmod 64 = (z : Int) := by rw [Int.tmod_eq_emod_of_nonneg (by omega)]; exact qz
      have wd : IntKind.i64.wrap (d : Int) = (d : Int) := IntWalk.i64_in _ (by omega)
      have wz : IntKind.i64.wrap (z : Int) = (z : Int) := IntWalk.i64_in _ (by omega)
      have wd32 : IntKind.u32.wrap (d : Int) = (d : Int) := by rw [IntKind.wrap_u32]; omega
      have hz64 : (z : Int) < 64 := by omega
      have hz0 : 0 ≤ (z : Int) := by omega
      have pz : 0 ≤ (i : Int) := by omega
      have mz : (i : Int) < (bs.length : Int) := by omega
      have wi1 : IntKind.i64.wrap ((i : Int) + 1) = (i : Int) + 1 := IntWalk.i64_in _ (by omega)
      have hxl := hup.len
      obtain ⟨oa, oc, rfl⟩ := row_shape hx.row
      rw [hxl]
      -- what follows once the block is there
      have HFIN : Hid (∀ w5 : World, Rx w w5 key nonce (Ch.block key nonce d) (.slice oa i oc) xs →
          w5.cell? (ad.add i) = some (.int .u8 ((bs.getD i 0).toNat : Int)) ∧ w5.cell? ⟨w.heap.size + 1 + 1 + 1, z, none⟩ = some (.int .u8 (((Ch.block key nonce d).getD z 0).toNat : Int)) ∧
          (w5.alloc (.cells #[.int .u8 (bits .xor .u8 ((bs.getD i 0).toNat : Int) (((Ch.block key nonce d).getD z 0).toNat : Int))] 5)).drew.ownsRow 0 5 1 (.slice oa i oc) i (xs.map byteV) ∧
          BytesAt ((w5.alloc (.cells #[.int .u8 (bits .xor .u8 ((bs.getD i 0).toNat : Int) (((Ch.block key nonce d).getD z 0).toNat : Int))] 5)).drew) (fun k => k = w5.heap.size) (.slice (some ⟨w5.heap.size, 0, none⟩) 1 1) [bs.getD i 0 ^^^ (Ch.block key nonce d).getD z 0] ∧
          ∀ a' c' w6, w6.ownsRow 0 5 1 (.slice a' (i + 1) c') (i + 1) (xs.map byteV ++ [bs.getD i 0 ^^^ (Ch.block key nonce d).getD z 0].map byteV) → (w5.alloc (.cells #[.int .u8 (bits .xor .u8 ((bs.getD i 0).toNat : Int) (((Ch.block key nonce d).getD z 0).toNat : Int))] 5)).drew.grownBy w6 (Value.slice oa i oc).ownBlock →
            ((Value.slice a' (i + 1) c').ownBlock = (Value.slice oa i oc).ownBlock ∨ (Value.slice a' (i + 1) c').ownBlock = some (w5.alloc (.cells #[.int .u8 (bits .xor .u8 ((bs.getD i 0).toNat : Int) (((Ch.block key nonce d).getD z 0).toNat : Int))] 5)).drew.heap.size) →
            ∃ (i' : Nat) (B xs : List UInt8), i' ≤ bs.length ∧ Value.int .i64 ((i : Int) + 1) = .int .i64 i' ∧ Rx w w6 key nonce B (.slice a' (i + 1) c') xs ∧ Upto key nonce p bs i' xs ∧ Holds key nonce p i' B) := by
        intro w5 h5
        rw [bits_xor_u8]
        have hal : Only (fun _ => False) w5 (w5.alloc (.cells #[.int .u8 ((bs.getD i 0 ^^^ (Ch.block key nonce d).getD z 0).toNat : Int)] 5)).drew := (Only.alloc _).trans Only.drew
        refine ⟨hc1 w5 h5.kn.only, byte_cell h5.blk (by rw [h5.len]; omega), ?_, (one_byte w5 _).kept (fun _ _ => rfl) (fun _ h => h), fun a' c' w6 h1 h2 h3 => ?_⟩
        · have := (h5.keep hal).row
          rwa [hxl] at this
        · have hbl : Ch.block key nonce ((p + i) / 64) = Ch.block key nonce d := by rw [hd]
          have hap := h5.app (y := [bs.getD i 0 ^^^ (Ch.block key nonce d).getD z 0]) hal (by rw [hxl]; rfl) h1 h2 h3
          refine ⟨i + 1, Ch.block key nonce d, _, by omega, by go_num, hap, ?_, Holds.next hbl⟩
          have := hup.next hlt hbl
          rwa [hz] at this
      have HBK : Hid (∀ w1, Calls Tryd.prog 53 #[.agg (key.map byteV).toArray, .int .u32 (d : Int), .agg (nonce.map byteV).toArray] w1 fun e w' => e = .returned (.agg ((Ch.block key nonce d).map byteV).toArray) ∧ Only (fun _ => False) w1 w') := fun w1 => r3Block_any HK.out HN.out d
      have HBL := Lib.hid (Ch.block_length key nonce d)
      rw [hxl] at hx
      have HX := Lib.hid hx
      have HCASE : Hid (i = 0 ∨ z = 0 ∨ Ch.block key nonce d = B) := by
        rcases hho with h | h | h
        · exact .inl h
        · exact .inr (.inl (by omega))
        · exact .inr (.inr (by rw [← h, hd]))
      have HEQ : Hid (∀ j : Nat, j = i → j < bs.length) := fun j e => e ▸ hlt
      clear hx hho hup hle hd hc1
      generalize Ch.block key nonce d = BD at *
      generalize bs.getD i 0 = x at *
      generalize BD.getD z 0 = y at *
      by_cases h0 : i = 0 ∨ z = 0
      · have hguard : ((i : Int) == 0) = true ∨ (((i : Int) == 0) = false ∧ ((z : Int) == 0) = true) := by
          rcases h0 with h | h
          · exact .inl (by simp [h])
          · by_cases e : i = 0
            · exact .inl (by simp [e])
            · exact .inr ⟨by simp; omega, by simp [h]⟩
        rcases hguard with hg | ⟨hg, hg2⟩
        · clear HCASE h0
          go_wp2_with (first
            | (refine wpList_load_row rfl 22 (.tmp 4) rfl w.heap.size rfl 22 (key.map byteV).toArray (0, 0) _ HX.out.kn.kb.heap Tryd.underlying22 rfl (size_a32 HK.out) ?_)
            | (refine wpList_load_row rfl 64 (.tmp 5) rfl (w.heap.size + 1) rfl 64 (nonce.map byteV).toArray (0, 0) _ HX.out.kn.nb.heap Tryd.underlying64 rfl (size_a12 HN.out) ?_)
            | (go_at_call 53; refine (HBK.out _).mono ?_; rintro e w4 ⟨rfl, ho4⟩; have HX4 := Lib.hid (HX.out.keep ho4); clear ho4)
            | (refine wpList_store_row rfl 86 (.tmp 11) (.tmp 50) rfl (w.heap.size + 1 + 1 + 1) (BD.map byteV).toArray rfl rfl 86 (B.map byteV).toArray HX4.out.blk.heap (size_a64 HBL.out) (by simp [HX4.out.len, HBL.out]) (oneCell_bytes _) ?_
               have hx5 := HX4.out.store HBL.out
               generalize w4.setRow (w.heap.size + 1 + 1 + 1) (BD.map byteV).toArray = w5 at *
               obtain ⟨c1, c2, hr5, hs5, hn5⟩ := HFIN.out w5 hx5
               have HR5 := Lib.hid hr5; have HS5 := Lib.hid hs5; have HN5 := Lib.hid hn5
               clear hr5 hs5 hn5 hx5))
          go_region_law (refine step_append_bytes (by rfl) _ _ (by rfl) (.slice oa i oc) (.slice (some ⟨w5.heap.size, 0, none⟩) 1 1) i (xs.map byteV) rfl rfl HR5.out HS5.out (by have := hlen.le; simp; omega) ?_; intro a1 c1' w6 hr6 hg6 hat6; have HN6 := Lib.hid (HN5.out a1 c1' w6 hr6 hg6 hat6); clear hr6 hg6 hat6)
          go_wp2
          all_goals exact ⟨HN6.out, by simp [intOf]; omega⟩
        · clear HCASE h0
          go_wp2_with (first
            | (refine wpList_load_row rfl 22 (.tmp 4) rfl w.heap.size rfl 22 (key.map byteV).toArray (0, 0) _ HX.out.kn.kb.heap Tryd.underlying22 rfl (size_a32 HK.out) ?_)
            | (refine wpList_load_row rfl 64 (.tmp 5) rfl (w.heap.size + 1) rfl 64 (nonce.map byteV).toArray (0, 0) _ HX.out.kn.nb.heap Tryd.underlying64 rfl (size_a12 HN.out) ?_)
            | (go_at_call 53; refine (HBK.out _).mono ?_; rintro e w4 ⟨rfl, ho4⟩; have HX4 := Lib.hid (HX.out.keep ho4); clear ho4)
            | (refine wpList_store_row rfl 86 (.tmp 11) (.tmp 50) rfl (w.heap.size + 1 + 1 + 1) (BD.map byteV).toArray rfl rfl 86 (B.map byteV).toArray HX4.out.blk.heap (size_a64 HBL.out) (by simp [HX4.out.len, HBL.out]) (oneCell_bytes _) ?_
               have hx5 := HX4.out.store HBL.out
               generalize w4.setRow (w.heap.size + 1 + 1 + 1) (BD.map byteV).toArray = w5 at *
               obtain ⟨c1, c2, hr5, hs5, hn5⟩ := HFIN.out w5 hx5
               have HR5 := Lib.hid hr5; have HS5 := Lib.hid hs5; have HN5 := Lib.hid hn5
               clear hr5 hs5 hn5 hx5))
          go_region_law (refine step_append_bytes (by rfl) _ _ (by rfl) (.slice oa i oc) (.slice (some ⟨w5.heap.size, 0, none⟩) 1 1) i (xs.map byteV) rfl rfl HR5.out HS5.out (by have := hlen.le; simp; omega) ?_; intro a1 c1' w6 hr6 hg6 hat6; have HN6 := Lib.hid (HN5.out a1 c1' w6 hr6 hg6 hat6); clear hr6 hg6 hat6)
          go_wp2
          all_goals exact ⟨HN6.out, by simp [intOf]; omega⟩
      · have hg : ((i : Int) == 0) = false := by simp; omega
        have hg2 : ((z : Int) == 0) = false := by simp; omega
        have hB : BD = B := by
          rcases HCASE.out with h | h | h
          · exact absurd (.inl h) h0
          · exact absurd (.inr h) h0
          · exact h
        rw [← hB] at HX
        clear HBK HCASE h0
        go_wp2
        obtain ⟨c1, c2, hr5, hs5, hn5⟩ := HFIN.out wr HX.out
        have HR5 := Lib.hid hr5; have HS5 := Lib.hid hs5; have HN5 := Lib.hid hn5
        clear hr5 hs5 hn5
        go_region_law (refine step_append_bytes (by rfl) _ _ (by rfl) (.slice oa i oc) (.slice (some ⟨wr.heap.size, 0, none⟩) 1 1) i (xs.map byteV) rfl rfl HR5.out HS5.out (by have := hlen.le; simp; omega) ?_; intro a1 c1' w6 hr6 hg6 hat6; have HN6 := Lib.hid (HN5.out a1 c1' w6 hr6 hg6 hat6); clear hr6 hg6 hat6)
        go_wp2
        all_goals exact ⟨HN6.out, by simp [intOf]; omega⟩
    · obtain rfl : i = bs.length := by omega
      have hxl := hup.len
      obtain ⟨oa, oc, rfl⟩ := row_shape hx.row
      have hrow : Row w wr (.slice oa bs.length oc) (Ch.xor key nonce p bs) := by
        have e := hup.eq
        rw [List.take_length] at e
        have h1 := hx.row
        have h2 := hx.own
        rw [hxl] at h1 h2
        refine ⟨by rw [Ch.xor_length, e]; exact h1, fun q hq => by have := h2 q hq; omega, hx.kn.only⟩
      have HROW := Lib.hid hrow
      rw [hxl]
      clear hx hup hho hrow hxl
      go_wp2
      go_ret2
      exact ⟨oa, oc, rfl, HROW.out⟩

end Go.Proofs.YtgdnmbchhfbjoaaDoor

namespace Go.Proofs.YtgdnmbchhfbjoaaDoor
open Go.RowKit

namespace Wi
def num (n : Int) : List UInt8 := (List.range 8).map fun i => UInt8.ofNat ((n / 256 ^ (7 - i)) % 256).toNat
def be (l : List UInt8) : Nat := l.foldl (fun a x => a * 256 + x.toNat) 0
theorem num_len (n : Int) : (num n).length = 8 := by simp [num]
theorem num_get (n : Int) {i : Nat} (h : i < 8) : (num n)[i]? = some (UInt8.ofNat ((n / 256 ^ (7 - i)) % 256).toNat) := by simp [num, h]
theorem be_succ (l : List UInt8) {i : Nat} (h : i < l.length) : be (l.take (i + 1)) = be (l.take i) * 256 + (l.getD i 0).toNat := by
  unfold be
  rw [List.take_succ_eq_append_getElem h, List.foldl_append]
  simp [h]
theorem be_lt (l : List UInt8) : ∀ i, i ≤ l.length → be (l.take i) < 256 ^ i := by
  intro i
  induction i with
  | zero => intro _; simp [be]
  | succ i ih =>
    intro h
    have h1 := ih (by omega)
    have h2 := (l.getD i 0).toNat_lt
    rw [be_succ l (by omega), Nat.pow_succ]
    omega
theorem be_all (l : List UInt8) : be (l.take l.length) = be l := by rw [List.take_length]
theorem be_num {n : Int} (h0 : -9223372036854775808 ≤ n) (h1 : n ≤ 9223372036854775807) : wrap64 (be (num n) : Int) = n := by
  have e : num n = [UInt8.ofNat ((n / 72057594037927936) % 256).toNat, UInt8.ofNat ((n / 281474976710656) % 256).toNat, UInt8.ofNat ((n / 1099511627776) % 256).toNat, UInt8.ofNat ((n / 4294967296) % 256).toNat, UInt8.ofNat ((n / 16777216) % 256).toNat, UInt8.ofNat ((n / 65536) % 256).toNat, UInt8.ofNat ((n / 256) % 256).toNat, UInt8.ofNat (n % 256).toNat] := by
    simp [num, List.range, List.range.loop]
  have low : ∀ m : Int, ((UInt8.ofNat (m % 256).toNat).toNat : Int) = m % 256 := u8_low
  rw [e]
  unfold be
  simp only [List.foldl_cons, List.foldl_nil, Int.natCast_add, Int.natCast_mul, low]
  obtain ⟨n1, e1⟩ : ∃ x, n / 256 = x := ⟨_, rfl⟩
  obtain ⟨n2, e2⟩ : ∃ x, n1 / 256 = x := ⟨_, rfl⟩
  obtain ⟨n3, e3⟩ : ∃ x, n2 / 256 = x := ⟨_, rfl⟩
  obtain ⟨n4, e4⟩ : ∃ x, n3 / 256 = x := ⟨_, rfl⟩
  obtain ⟨n5, e5⟩ : ∃ x, n4 / 256 = x := ⟨_, rfl⟩
  obtain ⟨n6, e6⟩ : ∃ x, n5 / 256 = x := ⟨_, rfl⟩
  obtain ⟨n7, e7⟩ : ∃ x, n6 / 256 = x := ⟨_, rfl⟩
  have d2 : n / 65536 = n2 := by rw [← e2, ← e1]; omega
  have d3 : n / 16777216 = n3 := by rw [show n / 16777216 = n / 65536 / 256 by omega, d2, e3]
  have d4 : n / 4294967296 = n4 := by rw [show n / 4294967296 = n / 16777216 / 256 by omega, d3, e4]
  have d5 : n / 1099511627776 = n5 := by rw [show n / 1099511627776 = n / 4294967296 / 256 by omega, d4, e5]
  have d6 : n / 281474976710656 = n6 := by rw [show n / 281474976710656 = n / 1099511627776 / 256 by omega, d5, e6]
  have d7 : n / 72057594037927936 = n7 := by rw [show n / 72057594037927936 = n / 281474976710656 / 256 by omega, d6, e7]
  rw [d7, d6, d5, d4, d3, d2, e1]
  have s1 : ((0 : Nat) : Int) * ((256 : Nat) : Int) + n7 % 256 = n7 % 256 := by omega
  rw [s1]
  have s2 : n7 % 256 * ((256 : Nat) : Int) + n6 % 256 = n6 % 65536 := by omega
  rw [s2]
  have s3 : n6 % 65536 * ((256 : Nat) : Int) + n5 % 256 = n5 % 16777216 := by omega
  rw [s3]
  have s4 : n5 % 16777216 * ((256 : Nat) : Int) + n4 % 256 = n4 % 4294967296 := by omega
  rw [s4]
  have s5 : n4 % 4294967296 * ((256 : Nat) : Int) + n3 % 256 = n3 % 1099511627776 := by omega
  rw [s5]
  have s6 : n3 % 1099511627776 * ((256 : Nat) : Int) + n2 % 256 = n2 % 281474976710656 := by omega
  rw [s6]
  have s7 : n2 % 281474976710656 * ((256 : Nat) : Int) + n1 % 256 = n1 % 72057594037927936 := by omega
  rw [s7]
  have s8 : n1 % 72057594037927936 * ((256 : Nat) : Int) + n % 256 = n % 18446744073709551616 := by omega
  rw [s8]
  clear d2 d3 d4 d5 d6 d7 e1 e2 e3 e4 e5 e6 e7 s1 s2 s3 s4 s5 s6 s7 s8
  unfold wrap64
  omega
end Wi

theorem ofInt_wrap64 (z : Int) : BitVec.ofInt 64 (wrap64 z) = BitVec.ofInt 64 z := by
  apply BitVec.eq_of_toNat_eq
  rw [BitVec.toNat_ofInt, BitVec.toNat_ofInt]
  unfold wrap64
  omega

theorem or_step (X c : Nat) (hX : X < 72057594037927936) (hc : c < 256) : bits .or .i64 (wrap64 (wrap64 (X : Int) * 256)) (wrap64 (c : Int)) = wrap64 ((X * 256 + c : Nat) : Int) := by
  have e1 : wrap64 (X : Int) = (X : Int) := IntWalk.wrap64_in _ (by omega)
  have e2 : wrap64 (c : Int) = (c : Int) := IntWalk.wrap64_in _ (by omega)
  have e3 : (X : Int) * 256 = ((X * 256 : Nat) : Int) := by omega
  rw [e1, e2, e3]
  have e : (BitVec.ofNat 64 (X * 256) ||| BitVec.ofNat 64 c).toNat = X * 256 + c := by
    rw [BitVec.toNat_or, BitVec.toNat_ofNat, BitVec.toNat_ofNat, Nat.mod_eq_of_lt (by omega), Nat.mod_eq_of_lt (by omega)]
    have := Nat.shiftLeft_add_eq_or_of_lt (show c < 2 ^ 8 by omega) X
    rw [Nat.shiftLeft_eq] at this
    exact this.symm
  show IntKind.i64.wrap (((BitVec.ofInt 64 (wrap64 ((X * 256 : Nat) : Int)) ||| BitVec.ofInt 64 (c : Int)).toNat : Nat) : Int) = _
  rw [ofInt_wrap64, BitVec.ofInt_natCast, BitVec.ofInt_natCast, e, IntWalk.i64_left]

theorem make_8 (w : World) : (Instr.makeSlice 23 (.int .i64 8) (.int .i64 8)).run Tryd.prog w = .ok (.slice (some ⟨w.heap.size, 0, none⟩) 8 8) (w.alloc (.cells (ocells 8 []).toArray 5)) := by
  obtain ⟨i0, hi0, hz0, hz1, hz2⟩ := info_parts info_u8
  rw [run_make w 23 5 i0 _ Tryd.underlying23 hi0 hz0 .i64 .i64 8 8 (by decide) (by decide) (by rw [hz2]; decide) (by decide), hz1]
  have e : madeCells (Value.int .u8 0).cells ((8 : Int).toNat * 1) = (ocells 8 []).toArray := by kernel_rfl
  rw [e]
  rfl

/-- A whole block as a row of one's own. -/
theorem Row.of_blk {w wr : World} {bs : List UInt8} {n : Nat} (hb : Blk wr w.heap.size (bs.map byteV) 5) (hn : bs.length = n) (ho : Only (fun _ => False) w wr) (hn8 : n ≤ 1024) : Row w wr (.slice (some ⟨w.heap.size, 0, none⟩) n n) bs := by
  subst hn
  refine ⟨⟨by simp, .inr ⟨w.heap.size, bs.length, (bs.map byteV).toArray, rfl, Nat.zero_le _, hb, Nat.le_refl _, ?_, by simp, by simp [List.take_of_length_le]⟩⟩, fun q hq => ?_, ho⟩
  · unfold maxLen; omega
  · have : w.heap.size = q := Option.some.inj hq
    omega

end Go.Proofs.YtgdnmbchhfbjoaaDoor

namespace Go.Proofs.YtgdnmbchhfbjoaaDoor
open Go.RowKit

set_option maxRecDepth 100000 in
set_option maxHeartbeats 1000000 in
theorem r4Var_any {w : World} {n : Nat} (hn : n < 9223372036854775808) :
    Calls Tryd.prog 52 #[.int .i64 (n : Int)] w fun e w' => ∃ a c, e = .returned (.slice a (Wi.var n).length c) ∧ Row w w' (.slice a (Wi.var n).length c) (Wi.var n) := by
  have hvl : (Wi.var n).length ≤ 9 := Wi.var_length 8 n (by simpa using hn)
  obtain ⟨R, hR⟩ : ∃ R, R = Wi.var n := ⟨_, rfl⟩
  rw [← hR] at hvl ⊢
  have HRl := Lib.hid hvl
  have HREL : Hid (R = [] ++ Wi.var n) := hR
  clear hvl hR
  go_enter Tryd.func52, Tryd.ntmps52
  go_wp2
  go_loopw [0, 3] (fun iv ov wr => ∃ (m : Nat) (ys : List UInt8), iv = .int .i64 m ∧ m < 9223372036854775808 ∧ Row w wr ov ys ∧ R = ys ++ Wi.var m) (fun iv _ _ => (intOf iv).toNat)
  case atStart => exact ⟨n, [], rfl, hn, Row.nil w, HREL.out⟩
  case round =>
    obtain ⟨m, ys, rfl, hm, hr, he⟩ := hrel
    obtain ⟨ra, rc, rfl⟩ := hr.shape
    have HR := Lib.hid hr
    have HE := Lib.hid he
    have HROW : Hid (∀ x, (wr.alloc x).ownsRow 0 5 1 (.slice ra ys.length rc) ys.length (ys.map byteV)) := fun x => hr.row.alloc x
    have HYL : Hid (ys.length + 1 ≤ 140737488355328) := by
      have := Wi.var_pos m; rw [he, List.length_append] at HRl; have := HRl.out; unfold Hid; omega
    have h0 : (m : Int) ≥ 0 := by omega
    clear hr he
    by_cases hlt : m < 128
    · have hq : (m : Int) / 128 = 0 := by omega
      have hz : ((m : Int) / 128 == 0) = true := by simp; omega
      have hd : (m : Int) % 128 = (m : Int) := by omega
      have HSRC : Hid (BytesAt (wr.alloc (.cells #[.int .u8 (m : Int)] 5)) (fun k => k = wr.heap.size) (.slice (some ⟨wr.heap.size, 0, none⟩) 1 1) [UInt8.ofNat m]) := one_byte_of (by unfold byteV; rw [byte_of_nat]; congr 1; omega)
      go_wp2_with (at_builtin; refine wpList_append_bytes _ rfl _ _ rfl (.slice ra ys.length rc) (.slice (some ⟨wr.heap.size, 0, none⟩) 1 1) ys.length (ys.map byteV) rfl rfl (HROW.out _) HSRC.out HYL.out ?_; intro a1 c1 w1 hr1 hg1 hat1; have HN := Lib.hid (HR.out.app (Only.alloc _) rfl hr1 hg1 hat1); clear hr1 hg1 hat1)
      go_ret
      have e : R = ys ++ [UInt8.ofNat m] := by rw [HE.out, Wi.var_small hlt]
      refine ⟨a1, c1, ?_, ?_⟩
      · rw [e]; simp
      · rw [e]; simpa using HN.out
    · obtain ⟨q, hq⟩ : ∃ q, m / 128 = q := ⟨_, rfl⟩
      obtain ⟨d, hd⟩ : ∃ d, m % 128 = d := ⟨_, rfl⟩
      have hq' : (m : Int) / 128 = (q : Int) := by omega
      have hd' : (m : Int) % 128 = (d : Int) := by omega
      have hz : ((q : Int) == 0) = false := by simp; omega
      have HSRC : Hid (BytesAt (wr.alloc (.cells #[.int .u8 ((d : Int) + 128)] 5)) (fun k => k = wr.heap.size) (.slice (some ⟨wr.heap.size, 0, none⟩) 1 1) [UInt8.ofNat (m % 128 + 128)]) := one_byte_of (by unfold byteV; rw [byte_of_nat]; congr 1; omega)
      have hd128 : d < 128 := by omega
      go_wp2_with (at_builtin; refine wpList_append_bytes _ rfl _ _ rfl (.slice ra ys.length rc) (.slice (some ⟨wr.heap.size, 0, none⟩) 1 1) ys.length (ys.map byteV) rfl rfl (HROW.out _) HSRC.out HYL.out ?_; intro a1 c1 w1 hr1 hg1 hat1; have HN := Lib.hid (HR.out.app (Only.alloc _) rfl hr1 hg1 hat1); clear hr1 hg1 hat1)
      refine ⟨⟨q, ys ++ [UInt8.ofNat (m % 128 + 128)], rfl, by omega, HN.out, ?_⟩, by simp [intOf]; omega⟩
      rw [HE.out, Wi.var_big (by omega), hq]; simp

theorem r4Var_neg {w : World} {n : Int} (hn : n < 0) : Calls Tryd.prog 52 #[.int .i64 n] w fun e w' => e = .returned (.slice none 0 0) ∧ w' = w := by
  have h : ¬ n ≥ 0 := by omega
  clear hn
  go_enter Tryd.func52, Tryd.ntmps52
  go_wp2
  go_loopw [0] (fun iv wr => iv = .int .i64 n ∧ wr = w) (fun _ _ => 0)
  case atStart => exact ⟨rfl, rfl⟩
  case round =>
    obtain ⟨rfl, rfl⟩ := hrel
    go_wp2
    go_ret
    exact ⟨rfl, rfl⟩

/-- The row from its end on. -/
def lastCells (n : Int) (j : Nat) : List Value := List.replicate (8 - j) (byteV 0) ++ ((Wi.num n).drop (8 - j)).map byteV
theorem lastCells_zero (n : Int) : lastCells n 0 = ocells 8 [] := by simp [lastCells, ocells, Wi.num_len]
theorem lastCells_all (n : Int) : lastCells n 8 = (Wi.num n).map byteV := by simp [lastCells]
theorem lastCells_set (n : Int) {j : Nat} (h : j < 8) : (lastCells n j).set (7 - j) (byteV (UInt8.ofNat ((n / 256 ^ j) % 256).toNat)) = lastCells n (j + 1) := by
  unfold lastCells
  rw [show 8 - j = (7 - j) + 1 by omega, List.replicate_succ', List.append_assoc, show 8 - (j + 1) = 7 - j by omega, List.set_append_right _ _ (by simp)]
  simp only [List.length_replicate, Nat.sub_self, List.cons_append, List.nil_append, List.set_cons_zero]
  congr 1
  have hl : 7 - j < (Wi.num n).length := by rw [Wi.num_len]; omega
  rw [List.drop_eq_getElem_cons hl, List.map_cons]
  congr 1
  have := Wi.num_get n (i := 7 - j) (by omega)
  rw [List.getElem?_eq_getElem hl, show 7 - (7 - j) = j by omega] at this
  rw [Option.some.inj this]
theorem lastCells_get (n : Int) {j : Nat} (h : j < 8) : (lastCells n j)[7 - j]? = some (.int .u8 0) := by
  unfold lastCells
  rw [List.getElem?_append_left (by simp; omega)]
  simp [List.getElem?_replicate, byteV]
  omega

theorem low_byte (n : Int) {j : Nat} (h : j < 8) : n % 18446744073709551616 / 256 ^ j % 256 = n / 256 ^ j % 256 := by
  match j, h with
  | 0, _ => simp
  | 1, _ => simp; omega
  | 2, _ => simp; omega
  | 3, _ => simp; omega
  | 4, _ => simp; omega
  | 5, _ => simp; omega
  | 6, _ => simp; omega
  | 7, _ => simp; omega

end Go.Proofs.YtgdnmbchhfbjoaaDoor

namespace Go.Proofs.YtgdnmbchhfbjoaaDoor
open Go.RowKit

set_option maxRecDepth 100000 in
set_option maxHeartbeats 2000000 in
theorem r4pack_any {w : World} {S : Nat → Prop} {v : Value} {fs : List (List UInt8)} (hv : PartsAt w S v fs) (hS : ∀ k, S k → k < w.heap.size) (hp : Parts fs) :
    Calls Tryd.prog 35 #[v] w fun e w' => ∃ a c, e = .returned (.slice a (Wi.pack fs).length c) ∧ Row w w' (.slice a (Wi.pack fs).length c) (Wi.pack fs) := by
  obtain ⟨va, vc, rfl, hcp, -⟩ := id hv
  have HV := Lib.hid hv; have HS := Lib.hid hS
  have hcnt := hp.cnt
  clear hv hS hcp
  go_enter Tryd.func35, Tryd.ntmps35
  go_wp2
  go_loopw [3, 4] (fun ov iv wr => ∃ j : Nat, j ≤ fs.length ∧ iv = .int .i64 j ∧ Row w wr ov (Wi.pack (fs.take j))) (fun _ iv _ => fs.length - (intOf iv).toNat)
  case atStart => exact ⟨0, Nat.zero_le _, rfl, by simpa [Wi.pack] using Row.nil w⟩
  case round =>
    obtain ⟨j, hj, rfl, hrow⟩ := hrel
    by_cases hjlt : j < fs.length
    · obtain ⟨ad, ua, uc, rfl, hsb, hc, hby⟩ := HV.out.get hjlt
      have hcell : ∀ W, Only (fun _ => False) w W → W.cell? (ad.add j) = some (.slice ua fs[j].length uc) := fun W ho => by
        rw [World.cell?_of_block (w := w) (by rw [add_block]; exact ho.block _ (HS.out _ hsb) (fun x => x))]; exact hc
      have q0 : wr.cell? (ad.add j) = some (.slice ua fs[j].length uc) := hcell wr hrow.only
      have HCELL := Lib.hid hcell
      have HBY := Lib.hid hby
      have hpl := hp.packLen j
      have hpl1 := hp.packLen (j + 1)
      have h1 := hp.one hjlt
      have HPT := Lib.hid (Wi.pack_take hjlt)
      rw [HPT.out, List.length_append, List.length_append] at hpl1
      have HL1 : Hid ((Wi.pack (fs.take j)).length + (Wi.var fs[j].length).length ≤ 140737488355328) := by unfold Hid; omega
      have HL2 : Hid ((Wi.pack (fs.take j) ++ Wi.var fs[j].length).length + fs[j].length ≤ 140737488355328) := by unfold Hid; rw [List.length_append]; omega
      have HRV : Hid (∀ w1 : World, Calls Tryd.prog 52 #[.int .i64 (fs[j].length : Int)] w1 fun e w' => ∃ a c, e = .returned (.slice a (Wi.var fs[j].length).length c) ∧ Row w1 w' (.slice a (Wi.var fs[j].length).length c) (Wi.var fs[j].length)) := fun w1 => r4Var_any (by omega)
      have pz : 0 ≤ (j : Int) := by omega
      have mz : (j : Int) < (fs.length : Int) := by omega
      have g1 : ¬ (fs[j].length : Int) > 67108864 := by omega
      obtain ⟨oa, oc, rfl⟩ := hrow.shape
      have HROW := Lib.hid hrow
      clear hrow hc hby hpl hpl1 hsb hcell h1
      generalize Wi.var fs[j].length = V at *
      generalize hX : Wi.pack (fs.take j) = X at *
      generalize fs[j] = f at *
      go_wp2_with fail
      go_region_held3 (fun W => W.cell? (ad.add j) = some (.slice ua f.length uc)) (first | exact q0 | exact q5 | exact q6 | exact q7)
        (first
          | (go_simp; go_at_call 52; refine (HRV.out _).mono ?_; rintro e w5 ⟨a5, c5, rfl, hr5⟩; have HR5 := Lib.hid (HROW.out.kept (Only.drew.trans hr5.only)); have HB5 := Lib.hid hr5.bytes; have q5 := HCELL.out _ HR5.out.only; clear hr5)
          | (refine step_append_bytes (by rfl) _ _ (by rfl) (.slice oa X.length oc) (.slice a5 V.length c5) X.length (X.map byteV) rfl rfl HR5.out.row HB5.out HL1.out ?_; intro a6 c6 w6 hr6 hg6 hat6; have HR6 := Lib.hid (HR5.out.app (Only.refl _ _) rfl hr6 hg6 hat6); have HB6 := Lib.hid (HBY.out.here HR6.out.only HS.out); have q6 := HCELL.out _ HR6.out.only; clear hr6 hg6 hat6)
          | (refine step_append_bytes (by rfl) _ _ (by rfl) (.slice a6 (X.length + V.length) c6) (.slice ua f.length uc) (X.length + V.length) ((X ++ V).map byteV) rfl rfl (by have := HR6.out.row; rwa [List.length_append] at this) HB6.out (by have := HL2.out; rwa [List.length_append] at this) ?_; intro a7 c7 w7 hr7 hg7 hat7; have HR7 := Lib.hid (HR6.out.app (Only.refl _ _) (by rw [List.length_append]) hr7 hg7 hat7); have q7 := HCELL.out _ HR7.out.only; clear hr7 hg7 hat7))
      clear q0 q5 q6 q7
      go_wp2_with fail
      exact ⟨⟨j + 1, by omega, by go_num, by rw [HPT.out]; exact HR7.out⟩, by simp [intOf]; omega⟩
    · have e : fs.take j = fs := List.take_of_length_le (by omega)
      rw [e] at hrow
      obtain ⟨oa, oc, rfl⟩ := hrow.shape
      have HRF := Lib.hid hrow
      clear hrow e
      go_wp2
      go_ret
      exact ⟨oa, oc, rfl, HRF.out⟩

end Go.Proofs.YtgdnmbchhfbjoaaDoor
