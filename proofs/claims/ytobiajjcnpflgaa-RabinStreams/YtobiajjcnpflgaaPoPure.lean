/- Pure facts on words: lengths, pairs of words, remainders and divisors as functions. Conditions: none. -/
import Derived.Test.YtobiajjcnpflgaaGfStep
import Derived.Test.YtobiajjcnpflgaaGfBits
import Derived.Lib.ItoaNum
namespace Go.Proofs.Ytobiajjcnpflgaa
namespace Gf

theorem len_top {p : Nat} (h0 : p ≠ 0) (h : p < 18446744073709551616) : 1 ≤ Lib.bitLen p ∧ Top (Lib.bitLen p - 1) p := by
  have hb := Lib.bitLenAux_bounds 64 p h h0
  unfold Lib.bitLen
  refine ⟨hb.1, hb.2.1, ?_⟩
  rw [Nat.sub_add_cancel hb.1]
  exact hb.2.2
theorem len_zero : Lib.bitLen 0 = 0 := by decide
theorem len_le {p : Nat} (h : p < 18446744073709551616) : Lib.bitLen p ≤ 64 := Lib.bitLen_le p 64 (by omega) h
theorem len_of {p k : Nat} (h : Top k p) (hp : p < 18446744073709551616) : Lib.bitLen p = k + 1 := by
  have h1 := len_top (by have := top_pos h; omega) hp
  have := top_one h1.2 h
  omega
theorem len_lt {p d : Nat} (hp : p < 18446744073709551616) (h : Lib.bitLen p ≤ d) : p < 2 ^ d := by
  by_cases h0 : p = 0
  · subst h0; exact Nat.two_pow_pos d
  · have h1 := len_top h0 hp
    have h2 := h1.2.2
    have : 2 ^ (Lib.bitLen p - 1 + 1) ≤ 2 ^ d := Nat.pow_le_pow_right (by omega) (by omega)
    omega

/-- Two words as one number. -/
def pr (hi lo : Nat) : Nat := hi * 18446744073709551616 + lo
theorem pr_xor {h l h' l' : Nat} (hl : l < 18446744073709551616) (hl' : l' < 18446744073709551616) : pr (h ^^^ h') (l ^^^ l') = pr h l ^^^ pr h' l' := by
  unfold pr
  rw [Nat.mul_comm _ 18446744073709551616, Nat.mul_comm _ 18446744073709551616, Nat.mul_comm _ 18446744073709551616]
  apply Nat.eq_of_testBit_eq
  intro j
  have e : (18446744073709551616 : Nat) = 2 ^ 64 := by decide
  rw [e] at *
  have hx : l ^^^ l' < 2 ^ 64 := Nat.xor_lt_two_pow hl hl'
  rw [Nat.testBit_xor, Nat.testBit_two_pow_mul_add _ hx, Nat.testBit_two_pow_mul_add _ hl, Nat.testBit_two_pow_mul_add _ hl']
  split <;> rw [Nat.testBit_xor]
theorem pr_split (P : Nat) : pr (P / 18446744073709551616) (P % 18446744073709551616) = P := by
  unfold pr; omega
theorem pr_lo (l : Nat) : pr 0 l = l := by unfold pr; omega
theorem xor64 {a b : Nat} (ha : a < 18446744073709551616) (hb : b < 18446744073709551616) : a ^^^ b < 18446744073709551616 := Nat.xor_lt_two_pow (n := 64) ha hb
theorem pr_inj {h l h' l' : Nat} (hl : l < 18446744073709551616) (hl' : l' < 18446744073709551616) (e : pr h l = pr h' l') : h = h' ∧ l = l' := by
  unfold pr at e; omega
theorem pr_lt {h l : Nat} (hh : h < 18446744073709551616) (hl : l < 18446744073709551616) : pr h l < 2 ^ 128 := by
  unfold pr; rw [show (2 : Nat) ^ 128 = 340282366920938463463374607431768211456 by decide]; omega

/-- Two of one degree: their sum has a lesser one. -/
theorem top_two {k x y : Nat} (hx : Top k x) (hy : Top k y) : x ^^^ y < 2 ^ k := by
  rcases Nat.lt_or_ge (x ^^^ y) (2 ^ k) with h | h
  · exact h
  · have h1 := top_bit ⟨h, Nat.xor_lt_two_pow hx.2 hy.2⟩
    rw [Nat.testBit_xor, top_bit hx, top_bit hy] at h1
    cases h1
theorem top_shift {k x : Nat} (n : Nat) (h : Top k x) : Top (k + n) (x * 2 ^ n) := by
  refine ⟨?_, ?_⟩
  · rw [Nat.pow_add]; exact Nat.mul_le_mul_right _ h.1
  · rw [show k + n + 1 = (k + 1) + n by omega, Nat.pow_add 2 (k + 1) n]; exact Nat.mul_lt_mul_of_pos_right h.2 (Nat.two_pow_pos n)
theorem top_div {k n x : Nat} (h : Top (k + n) x) : Top k (x / 2 ^ n) := by
  have hp := Nat.two_pow_pos n
  refine ⟨?_, ?_⟩
  · rw [Nat.le_div_iff_mul_le hp, ← Nat.pow_add]; exact h.1
  · rw [Nat.div_lt_iff_lt_mul hp, ← Nat.pow_add, show k + 1 + n = k + n + 1 by omega]; exact h.2

/-- The bits below the next one. -/
theorem mul_bit_next (a b k : Nat) : mul a (b % 2 ^ (k + 1)) = mul a (b % 2 ^ k) ^^^ (if b / 2 ^ k % 2 = 1 then a * 2 ^ k else 0) := by
  have hlt := Nat.mod_lt b (Nat.two_pow_pos k)
  have e : b % 2 ^ (k + 1) = 2 ^ k * (b / 2 ^ k % 2) + b % 2 ^ k := by
    rw [Nat.pow_succ, Nat.mod_mul]; omega
  have e2 : 2 ^ k * (b / 2 ^ k % 2) + b % 2 ^ k = (2 ^ k * (b / 2 ^ k % 2)) ^^^ (b % 2 ^ k) := by
    apply Nat.eq_of_testBit_eq
    intro j
    rw [Nat.testBit_xor, Nat.testBit_two_pow_mul_add _ hlt, Nat.testBit_two_pow_mul]
    by_cases hj : j < k
    · have : ¬ j ≥ k := by omega
      simp [hj, this]
    · have : (b % 2 ^ k).testBit j = false := Nat.testBit_lt_two_pow (Nat.lt_of_lt_of_le hlt (Nat.pow_le_pow_right (by omega) (by omega)))
      simp [hj, this, show k ≤ j by omega]
  rw [e, e2, mul_xor_right, Nat.xor_comm]
  congr 1
  rcases Nat.mod_two_eq_zero_or_one (b / 2 ^ k) with h | h
  · simp [h, mul_zero]
  · simp [h, mul_shift]

/-- The remainder and the greatest common divisor, as functions. -/
noncomputable def rm (m p : Nat) : Nat := if h : m = 0 then 0 else Classical.choose (rem_some h p)
theorem rm_rem {m : Nat} (h : m ≠ 0) (p : Nat) : Rem m p (rm m p) := by
  unfold rm; rw [dif_neg h]; exact Classical.choose_spec (rem_some h p)
theorem rm_of {m p r : Nat} (hm : m ≠ 0) (h : Rem m p r) : rm m p = r := (rm_rem hm p).one hm h
theorem rm_cg {m a b : Nat} (hm : m ≠ 0) (h : Cg m a b) : rm m a = rm m b := rm_of hm (rem_cg h (rm_rem hm b))
theorem rm_lt {m d : Nat} (p : Nat) (hd : Top d m) : rm m p < 2 ^ d := (rm_rem (by have := top_pos hd; omega) p).2 d hd
theorem rm_le {m : Nat} (p : Nat) (hm : m ≠ 0) : rm m p < m := by
  obtain ⟨d, hd⟩ := top_some hm
  exact Nat.lt_of_lt_of_le (rm_lt p hd) hd.1
theorem rm_64 {m : Nat} (p : Nat) (hm : m < 18446744073709551616) : rm m p < 18446744073709551616 := by
  by_cases h : m = 0
  · subst h; simp [rm]
  · have := rm_le p h; omega
theorem cg_rm {m : Nat} (hm : m ≠ 0) (p : Nat) : Cg m p (rm m p) := (rm_rem hm p).1
theorem rm_mul {m : Nat} (hm : m ≠ 0) (a b : Nat) : rm m (mul (rm m a) b) = rm m (mul a b) := rm_cg hm ((cg_rm hm a).symm.mul (Cg.refl m b))
theorem rm_mul2 {m : Nat} (hm : m ≠ 0) (a b : Nat) : rm m (mul (rm m a) (rm m b)) = rm m (mul a b) := rm_cg hm ((cg_rm hm a).symm.mul (cg_rm hm b).symm)
theorem rm_rm {m : Nat} (hm : m ≠ 0) (a : Nat) : rm m (rm m a) = rm m a := rm_cg hm (cg_rm hm a).symm

noncomputable def gc (a b : Nat) : Nat := Classical.choose (gcd_some a b)
theorem gc_is (a b : Nat) : IsGcd a b (gc a b) := Classical.choose_spec (gcd_some a b)
theorem gc_of {a b g : Nat} (h : IsGcd a b g) : gc a b = g := (gc_is a b).one h
theorem gc_zero (a : Nat) : gc a 0 = a := gc_of (IsGcd.base a)
theorem gc_step {a b : Nat} (hb : b ≠ 0) : gc a b = gc b (rm b a) := gc_of (IsGcd.step (rm_rem hb a).1 (gc_is b (rm b a)))
theorem gc_64 {a b : Nat} (ha : a < 18446744073709551616) (hb : b < 18446744073709551616) : gc a b < 18446744073709551616 := by
  induction b using Nat.strongRecOn generalizing a with
  | _ b ih =>
    by_cases h : b = 0
    · subst h; rw [gc_zero]; exact ha
    · rw [gc_step h]; exact ih _ (rm_le a h) hb (rm_64 a hb)
end Gf

end Go.Proofs.Ytobiajjcnpflgaa
