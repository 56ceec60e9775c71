/- Pure: greatest common divisors, irreducible polynomials, powers. Conditions: none. -/
import Derived.Test.YtobiajjcnpflgaaGfPure
namespace Go.Proofs.Ytobiajjcnpflgaa.Gf

theorem unit_one {q q' : Nat} (h : mul q q' = 1) : q = 1 := by
  have hq : q ≠ 0 := by rintro rfl; rw [zero_mul] at h; cases h
  have hq' : q' ≠ 0 := by rintro rfl; rw [mul_zero] at h; cases h
  obtain ⟨i, hi⟩ := top_some hq
  obtain ⟨j, hj⟩ := top_some hq'
  have ht := mul_top hi hj
  rw [h] at ht
  have h0 : i + j = 0 := top_one ht (show Top 0 1 by unfold Top; omega)
  have hi0 : i = 0 := by omega
  subst hi0
  have h1 := hi.1; have h2 := hi.2
  simp at h1 h2
  omega
theorem mul_cancel {a b m : Nat} (hm : m ≠ 0) (h : mul a m = mul b m) : a = b := by
  apply xor_cancel
  rcases Nat.eq_zero_or_pos (a ^^^ b) with h0 | h0
  · exact h0
  · have e : mul (a ^^^ b) m = 0 := by rw [mul_xor_left, h, Nat.xor_self]
    exact (mul_ne (by omega) hm e).elim
theorem dvd_antisymm {a b : Nat} (h : Dvd a b) (g : Dvd b a) : a = b := by
  obtain ⟨q, hq⟩ := h
  obtain ⟨q', hq'⟩ := g
  by_cases ha : a = 0
  · subst ha; rw [hq, mul_zero]
  · have e : mul 1 a = mul (mul q' q) a := by rw [one_mul, mul_assoc, ← hq, ← hq']
    have e1 := mul_cancel ha e
    have : q = 1 := unit_one (q' := q') (by rw [mul_comm]; exact e1.symm)
    rw [this, one_mul] at hq
    exact hq.symm

/-- r is the remainder of p by m. -/
def Rem (m p r : Nat) : Prop := Dvd m (p ^^^ r) ∧ ∀ d, Top d m → r < 2 ^ d
theorem rem_some {m : Nat} (hm : m ≠ 0) (p : Nat) : ∃ r, Rem m p r := by
  obtain ⟨d, hd⟩ := top_some hm
  obtain ⟨q, r, e, hr⟩ := div_some hd p
  refine ⟨r, ⟨q, ?_⟩, fun d' hd' => by rw [top_one hd' hd]; exact hr⟩
  rw [e, Nat.xor_assoc, Nat.xor_self, Nat.xor_zero]
theorem Rem.one {m p r r' : Nat} (hm : m ≠ 0) (h : Rem m p r) (g : Rem m p r') : r = r' := by
  obtain ⟨d, hd⟩ := top_some hm
  obtain ⟨q, e⟩ := h.1
  obtain ⟨q', e'⟩ := g.1
  refine (rem_one (q := q) (q' := q') hd (h.2 d hd) (g.2 d hd) ?_).2
  rw [← e, ← e', Nat.xor_assoc, Nat.xor_self, Nat.xor_assoc, Nat.xor_self]
theorem Rem.zero_iff {m p : Nat} (hm : m ≠ 0) {r : Nat} (h : Rem m p r) : r = 0 ↔ Dvd m p := by
  constructor
  · rintro rfl
    have := h.1
    rwa [Nat.xor_zero] at this
  · intro hd
    refine h.one hm ⟨by rwa [Nat.xor_zero], fun d _ => Nat.two_pow_pos d⟩

/-- g is a greatest common divisor: it divides both, and is a sum of multiples. -/
structure IsGcd (a b g : Nat) : Prop where
  left : Dvd g a
  right : Dvd g b
  sum : ∃ s t, g = mul s a ^^^ mul t b

theorem IsGcd.base (a : Nat) : IsGcd a 0 a := ⟨Dvd.refl a, Dvd.zero a, 1, 0, by rw [one_mul, zero_mul, Nat.xor_zero]⟩
theorem IsGcd.step {a b r g : Nat} (hr : Dvd b (a ^^^ r)) (h : IsGcd b r g) : IsGcd a b g := by
  obtain ⟨q, e⟩ := hr
  have ea : a = mul q b ^^^ r := by rw [← e, Nat.xor_assoc, Nat.xor_self, Nat.xor_zero]
  refine ⟨?_, h.left, ?_⟩
  · rw [ea]; exact (h.left.mul q).xor h.right
  · obtain ⟨s, t, e2⟩ := h.sum
    have er : r = a ^^^ mul q b := by rw [ea, Nat.xor_comm (mul q b) r, Nat.xor_assoc, Nat.xor_self, Nat.xor_zero]
    refine ⟨t, s ^^^ mul t q, ?_⟩
    rw [e2, er, mul_xor_right, mul_xor_left, ← mul_assoc]
    rw [Nat.xor_comm (mul s b), Nat.xor_assoc, Nat.xor_comm (mul (mul t q) b)]
theorem IsGcd.of_dvd {a b g c : Nat} (h : IsGcd a b g) (ha : Dvd c a) (hb : Dvd c b) : Dvd c g := by
  obtain ⟨s, t, e⟩ := h.sum
  rw [e]; exact (ha.mul s).xor (hb.mul t)
theorem IsGcd.one {a b g g' : Nat} (h : IsGcd a b g) (h' : IsGcd a b g') : g = g' := dvd_antisymm (h'.of_dvd h.left h.right) (h.of_dvd h'.left h'.right)
theorem IsGcd.comm {a b g : Nat} (h : IsGcd a b g) : IsGcd b a g := by
  obtain ⟨s, t, e⟩ := h.sum
  exact ⟨h.right, h.left, t, s, by rw [e, Nat.xor_comm]⟩
theorem gcd_some (a b : Nat) : ∃ g, IsGcd a b g := by
  induction b using Nat.strongRecOn generalizing a with
  | _ b ih =>
    by_cases h : b = 0
    · subst h; exact ⟨a, IsGcd.base a⟩
    · obtain ⟨r, hr⟩ := rem_some h a
      obtain ⟨d, hd⟩ := top_some h
      obtain ⟨g, hg⟩ := ih r (Nat.lt_of_lt_of_le (hr.2 d hd) hd.1) b
      exact ⟨g, hg.step hr.1⟩

/-- Irreducible: of degree 1 or more, and no product but by 1. -/
def Irr (p : Nat) : Prop := 2 ≤ p ∧ ∀ a b, p = mul a b → a = 1 ∨ b = 1

theorem Irr.gcd {p a g : Nat} (h : Irr p) (hg : IsGcd p a g) : g = 1 ∨ g = p := by
  obtain ⟨q, e⟩ := hg.left
  rcases h.2 q g e with h1 | h1
  · rw [h1, one_mul] at e; exact .inr e.symm
  · exact .inl h1
/-- What is irreducible is prime. -/
theorem Irr.prime {p a b : Nat} (h : Irr p) (hd : Dvd p (mul a b)) : Dvd p a ∨ Dvd p b := by
  obtain ⟨g, hg⟩ := gcd_some p a
  rcases h.gcd hg with rfl | rfl
  · obtain ⟨s, t, e⟩ := hg.sum
    refine .inr ?_
    have eb : b = mul b (mul s p ^^^ mul t a) := by rw [← e, mul_one]
    rw [eb, mul_xor_right]
    refine (((Dvd.refl p).mul s).mul b).xor ?_
    rw [mul_comm b, mul_assoc]
    exact hd.mul t
  · exact .inl hg.right

/-- Powers. -/
def pw (a : Nat) : Nat → Nat
  | 0 => 1
  | n + 1 => mul (pw a n) a
theorem pw_add (a m n : Nat) : pw a (m + n) = mul (pw a m) (pw a n) := by
  induction n with
  | zero => rw [Nat.add_zero, pw, mul_one]
  | succ n ih => rw [← Nat.add_assoc, pw, ih, pw, mul_assoc]

/-- Squares are additive. -/
theorem sq_xor (a b : Nat) : mul (a ^^^ b) (a ^^^ b) = mul a a ^^^ mul b b := by
  rw [mul_xor_left, mul_xor_right, mul_xor_right, mul_comm b a]
  rw [Nat.xor_assoc, ← Nat.xor_assoc (mul a b), Nat.xor_self, Nat.zero_xor]

/-- The product of a row. -/
def prod : List Nat → Nat
  | [] => 1
  | a :: l => mul a (prod l)
theorem prod_perm {l l' : List Nat} (h : l.Perm l') : prod l = prod l' := by
  induction h with
  | nil => rfl
  | cons x _ ih => simp [prod, ih]
  | swap x y l => simp only [prod]; rw [← mul_assoc, ← mul_assoc, mul_comm x y]
  | trans _ _ i1 i2 => rw [i1, i2]

end Go.Proofs.Ytobiajjcnpflgaa.Gf
