/- Pure: by an irreducible polynomial of degree n, a to the power 2^n is a. Conditions: none. -/
import Derived.Test.YtobiajjcnpflgaaGfPrime
namespace Go.Proofs.Ytobiajjcnpflgaa.Gf

/-- a and b are the same by p. -/
def Cg (p a b : Nat) : Prop := Dvd p (a ^^^ b)
theorem Cg.refl (p a : Nat) : Cg p a a := by unfold Cg; rw [Nat.xor_self]; exact Dvd.zero p
theorem Cg.symm {p a b : Nat} (h : Cg p a b) : Cg p b a := by unfold Cg at *; rwa [Nat.xor_comm]
theorem Cg.trans {p a b c : Nat} (h : Cg p a b) (g : Cg p b c) : Cg p a c := by
  have := Dvd.xor h g
  unfold Cg
  rwa [Nat.xor_assoc, ← Nat.xor_assoc b b c, Nat.xor_self, Nat.zero_xor] at this
theorem Cg.mul {p a b c d : Nat} (h : Cg p a b) (g : Cg p c d) : Cg p (Gf.mul a c) (Gf.mul b d) := by
  refine Cg.trans (b := Gf.mul b c) ?_ ?_
  · unfold Cg at *
    rw [← mul_xor_left, mul_comm]
    exact Dvd.mul h c
  · unfold Cg at *
    rw [← mul_xor_right]
    exact Dvd.mul g b
theorem Cg.xor {p a b c d : Nat} (h : Cg p a b) (g : Cg p c d) : Cg p (a ^^^ c) (b ^^^ d) := by
  have := Dvd.xor h g
  unfold Cg
  rwa [four] at this
theorem Cg.pw {p a b : Nat} (h : Cg p a b) (n : Nat) : Cg p (Gf.pw a n) (Gf.pw b n) := by
  induction n with
  | zero => exact Cg.refl _ _
  | succ n ih => exact ih.mul h
theorem Rem.cg {m p r : Nat} (h : Rem m p r) : Cg m p r := h.1

/-- A small multiple is none. -/
theorem small_dvd {p n a : Nat} (hp : Top n p) (ha : a < 2 ^ n) (h : Dvd p a) : a = 0 := by
  obtain ⟨q, e⟩ := h
  by_cases hq : q = 0
  · rw [e, hq, zero_mul]
  · obtain ⟨k, hk⟩ := top_some hq
    have ht := (mul_top hk hp).1
    rw [← e] at ht
    have : 2 ^ n ≤ 2 ^ (k + n) := Nat.pow_le_pow_right (by omega) (by omega)
    omega
theorem small_cg {p n a b : Nat} (hp : Top n p) (ha : a < 2 ^ n) (hb : b < 2 ^ n) (h : Cg p a b) : a = b :=
  xor_cancel (small_dvd hp (Nat.xor_lt_two_pow ha hb) h)

theorem perm_of_sub : ∀ (l m : List Nat), l.Nodup → (∀ x ∈ l, x ∈ m) → m.length ≤ l.length → l.Perm m
  | [], m, _, _, h => by
    have : m = [] := List.eq_nil_of_length_eq_zero (by simpa using h)
    rw [this]
  | a :: l, m, hn, hs, hl => by
    have ha : a ∈ m := hs a (by simp)
    have hn' := List.nodup_cons.1 hn
    refine ((perm_of_sub l (m.erase a) hn'.2 (fun x hx => ?_) ?_).cons a).trans (List.perm_cons_erase ha).symm
    · have hne : x ≠ a := fun e => hn'.1 (e ▸ hx)
      exact (List.mem_erase_of_ne hne).2 (hs x (by simp [hx]))
    · rw [List.length_erase_of_mem ha]
      simp at hl
      omega

theorem prod_cg {p x : Nat} {f : Nat → Nat} : ∀ (l : List Nat), (∀ r ∈ l, Cg p (mul x r) (f r)) → Cg p (mul (pw x l.length) (prod l)) (prod (l.map f))
  | [], _ => by simp [prod, pw, mul_one]; exact Cg.refl _ _
  | a :: l, h => by
    have h1 := h a (by simp)
    have h2 := prod_cg l (fun r hr => h r (by simp [hr]))
    have e : mul (pw x (a :: l).length) (prod (a :: l)) = mul (mul x a) (mul (pw x l.length) (prod l)) := by
      simp only [List.length_cons, pw, prod]
      rw [mul_comm (pw x l.length) x, mul_assoc, mul_assoc]
      congr 1
      rw [← mul_assoc, ← mul_assoc, mul_comm (pw x l.length) a]
    rw [e]
    exact h1.mul h2
theorem prod_prime {p : Nat} (hp : Irr p) : ∀ (l : List Nat), (∀ r ∈ l, ¬ Dvd p r) → ¬ Dvd p (prod l)
  | [], _, h => by
    have h2 := hp.1
    obtain ⟨n, hn⟩ := top_some (y := p) (by omega)
    have hn0 : 1 ≤ n := by
      rcases Nat.eq_zero_or_pos n with h0 | h0
      · subst h0; have := hn.2; simp at this; omega
      · exact h0
    have : (1 : Nat) = 0 := small_dvd hn (Nat.one_lt_two_pow (by omega)) h
    cases this
  | a :: l, hl, h => by
    rcases hp.prime (a := a) (b := prod l) h with h1 | h1
    · exact hl a (by simp) h1
    · exact prod_prime hp l (fun r hr => hl r (by simp [hr])) h1

/-- Fermat's little theorem, by an irreducible polynomial. -/
theorem fermat {p n a : Nat} (hp : Irr p) (hn : Top n p) (ha : ¬ Dvd p a) : Cg p (pw a (2 ^ n - 1)) 1 := by
  have hp0 : p ≠ 0 := by have := hp.1; omega
  obtain ⟨f, hf⟩ := Classical.skolem.1 (fun r => rem_some hp0 (mul a r))
  have hpos := Nat.two_pow_pos n
  have hmem : ∀ r, r ∈ List.range' 1 (2 ^ n - 1) ↔ r ≠ 0 ∧ r < 2 ^ n := fun r => by
    rw [List.mem_range'_1]; omega
  have hnd : ∀ r, r ≠ 0 → r < 2 ^ n → ¬ Dvd p r := fun r h0 h1 h => h0 (small_dvd hn h1 h)
  have hfl : ∀ r, f r < 2 ^ n := fun r => (hf r).2 n hn
  have hf0 : ∀ r, r ≠ 0 → r < 2 ^ n → f r ≠ 0 := fun r h0 h1 h => by
    have := ((hf r).zero_iff hp0).1 h
    rcases hp.prime this with h2 | h2
    · exact ha h2
    · exact hnd r h0 h1 h2
  have hinj : ∀ r s, r < 2 ^ n → s < 2 ^ n → f r = f s → r = s := fun r s hr hs e => by
    have h1 : Cg p (mul a r) (mul a s) := (hf r).cg.trans (e ▸ (hf s).cg.symm)
    unfold Cg at h1
    rw [← mul_xor_right] at h1
    rcases hp.prime h1 with h2 | h2
    · exact (ha h2).elim
    · exact small_cg hn hr hs h2
  have hperm : ((List.range' 1 (2 ^ n - 1)).map f).Perm (List.range' 1 (2 ^ n - 1)) := by
    refine perm_of_sub _ _ ?_ (fun x hx => ?_) (by simp)
    · unfold List.Nodup
      rw [List.pairwise_map]
      refine List.Pairwise.imp_of_mem ?_ (List.nodup_range' (s := 1) (n := 2 ^ n - 1))
      intro r s hr hs hne e
      exact hne (hinj r s ((hmem r).1 hr).2 ((hmem s).1 hs).2 e)
    · obtain ⟨r, hr, rfl⟩ := List.mem_map.1 hx
      have := (hmem r).1 hr
      exact (hmem _).2 ⟨hf0 r this.1 this.2, hfl r⟩
  have h1 := prod_cg (p := p) (x := a) (f := f) (List.range' 1 (2 ^ n - 1)) (fun r _ => (hf r).cg)
  rw [prod_perm hperm, List.length_range'] at h1
  have h2 : Dvd p (mul (pw a (2 ^ n - 1) ^^^ 1) (prod (List.range' 1 (2 ^ n - 1)))) := by
    rw [mul_xor_left, one_mul]
    exact h1
  rcases hp.prime h2 with h3 | h3
  · exact h3
  · exact (prod_prime hp _ (fun r hr => hnd r ((hmem r).1 hr).1 ((hmem r).1 hr).2) h3).elim

theorem fermat_all {p n : Nat} (hp : Irr p) (hn : Top n p) (a : Nat) : Cg p (pw a (2 ^ n)) a := by
  have hpos := Nat.two_pow_pos n
  rw [show 2 ^ n = (2 ^ n - 1) + 1 by omega, pw]
  by_cases ha : Dvd p a
  · unfold Cg
    exact (ha.mul _).xor ha
  · have := (fermat hp hn ha).mul (Cg.refl p a)
    rwa [one_mul] at this

end Go.Proofs.Ytobiajjcnpflgaa.Gf
