/- Pure: polynomials over the field of two elements as numbers: bit i is the coefficient of x^i; sums are exclusive or. Products, degrees, remainders. Conditions: none. -/
import Derived.Test.YtobiajjcnpflgaaGBase
namespace Go.Proofs.Ytobiajjcnpflgaa.Gf

theorem dbl_xor (a b : Nat) : 2 * (a ^^^ b) = (2 * a) ^^^ (2 * b) := by
  have h := Nat.shiftLeft_xor_distrib (i := 1) (a := a) (b := b)
  simpa [Nat.shiftLeft_eq, Nat.mul_comm] using h
theorem xor_half (a b : Nat) : (a ^^^ b) / 2 = (a / 2) ^^^ (b / 2) := by
  have := Nat.shiftRight_xor_distrib (i := 1) (a := a) (b := b)
  simpa [Nat.shiftRight_eq_div_pow] using this
theorem xor_parity (a b : Nat) : (a ^^^ b) % 2 = (a % 2) ^^^ (b % 2) := by
  have h := Nat.testBit_xor a b 0
  simp only [Nat.testBit_zero] at h
  rcases Nat.mod_two_eq_zero_or_one a with h1 | h1 <;> rcases Nat.mod_two_eq_zero_or_one b with h2 | h2 <;> rcases Nat.mod_two_eq_zero_or_one (a ^^^ b) with h3 | h3 <;> simp [h1, h2, h3] at h ⊢

theorem odd_xor (a : Nat) : (2 * a) ^^^ 1 = 2 * a + 1 := by
  have h1 := xor_half (2 * a) 1
  have h2 := xor_parity (2 * a) 1
  rw [show 2 * a / 2 = a by omega, show 1 / 2 = 0 by decide, Nat.xor_zero] at h1
  rw [show 2 * a % 2 = 0 by omega, show 1 % 2 = 1 by decide, Nat.zero_xor] at h2
  omega
theorem split_bit (b : Nat) : b = (2 * (b / 2)) ^^^ (b % 2) := by
  rcases Nat.mod_two_eq_zero_or_one b with h | h
  · rw [h, Nat.xor_zero]; omega
  · rw [h, odd_xor]; omega
/-- One bit times a polynomial. -/
def bit (r a : Nat) : Nat := if r % 2 = 1 then a else 0
/-- The product. -/
def mul (a b : Nat) : Nat := if h : b = 0 then 0 else bit b a ^^^ (2 * mul a (b / 2))
termination_by b
decreasing_by omega

theorem mul_zero (a : Nat) : mul a 0 = 0 := by rw [mul]; simp
theorem mul_step (a b : Nat) : mul a b = bit b a ^^^ (2 * mul a (b / 2)) := by
  by_cases h : b = 0
  · subst h; simp [mul_zero, bit]
  · rw [mul, dif_neg h]
theorem bit_xor_left (r a c : Nat) : bit r (a ^^^ c) = bit r a ^^^ bit r c := by unfold bit; split <;> simp
theorem bit_xor_right (r s a : Nat) : bit (r ^^^ s) a = bit r a ^^^ bit s a := by
  unfold bit
  rw [xor_parity]
  rcases Nat.mod_two_eq_zero_or_one r with h1 | h1 <;> rcases Nat.mod_two_eq_zero_or_one s with h2 | h2 <;> simp [h1, h2]
theorem bit_dbl (r a : Nat) : bit r (2 * a) = 2 * bit r a := by unfold bit; split <;> simp
theorem bit_even (b a : Nat) : bit (2 * b) a = 0 := by unfold bit; simp

theorem four (a b c d : Nat) : (a ^^^ b) ^^^ (c ^^^ d) = (a ^^^ c) ^^^ (b ^^^ d) := by
  rw [Nat.xor_assoc, Nat.xor_assoc, ← Nat.xor_assoc b c d, Nat.xor_comm b c, Nat.xor_assoc c b d]

theorem zero_mul (b : Nat) : mul 0 b = 0 := by
  induction b using Nat.strongRecOn with
  | _ b ih =>
    by_cases h : b = 0
    · rw [h, mul_zero]
    · rw [mul_step, ih (b / 2) (by omega)]; simp [bit]
theorem mul_xor_left (a c b : Nat) : mul (a ^^^ c) b = mul a b ^^^ mul c b := by
  induction b using Nat.strongRecOn with
  | _ b ih =>
    by_cases h : b = 0
    · subst h; simp [mul_zero]
    · rw [mul_step, mul_step a b, mul_step c b, ih (b / 2) (by omega), bit_xor_left, dbl_xor, four]
theorem dbl_mul (a b : Nat) : mul (2 * a) b = 2 * mul a b := by
  induction b using Nat.strongRecOn with
  | _ b ih =>
    by_cases h : b = 0
    · subst h; simp [mul_zero]
    · rw [mul_step, mul_step a b, ih (b / 2) (by omega), bit_dbl, dbl_xor]
theorem mul_dbl (a b : Nat) : mul a (2 * b) = 2 * mul a b := by
  rw [mul_step, bit_even, Nat.zero_xor, show 2 * b / 2 = b by omega]
theorem mul_one (a : Nat) : mul a 1 = a := by rw [mul_step]; simp [bit, mul_zero]
theorem one_mul (b : Nat) : mul 1 b = b := by
  induction b using Nat.strongRecOn with
  | _ b ih =>
    by_cases h : b = 0
    · subst h; exact mul_zero 1
    · rw [mul_step, ih (b / 2) (by omega)]
      have := split_bit b
      rcases Nat.mod_two_eq_zero_or_one b with h1 | h1
      · simp [bit, h1]; omega
      · simp only [bit, h1, if_true]
        rw [Nat.xor_comm, odd_xor]; omega
theorem mul_xor_right (a b c : Nat) : mul a (b ^^^ c) = mul a b ^^^ mul a c := by
  induction b using Nat.strongRecOn generalizing c with
  | _ b ih =>
    by_cases h : b = 0
    · subst h; simp [mul_zero]
    · rw [mul_step, mul_step a b, mul_step a c, xor_half, ih (b / 2) (by omega), bit_xor_right, dbl_xor, four]
theorem mul_bit (r b : Nat) (hr : r < 2) : mul r b = bit r b := by
  rcases (show r = 0 ∨ r = 1 by omega) with rfl | rfl
  · simp [zero_mul, bit]
  · simp [one_mul, bit]
/-- Products are commutative, associative and distributive. -/
theorem mul_comm (a b : Nat) : mul a b = mul b a := by
  induction a using Nat.strongRecOn with
  | _ a ih =>
    by_cases h : a = 0
    · subst h; rw [zero_mul, mul_zero]
    · rw [mul_step b a, ← ih (a / 2) (by omega)]
      conv => lhs; rw [split_bit a]
      rw [mul_xor_left, dbl_mul, mul_bit (a % 2) b (by omega), Nat.xor_comm]
      congr 1
      unfold bit; simp
theorem mul_assoc (a b c : Nat) : mul (mul a b) c = mul a (mul b c) := by
  induction c using Nat.strongRecOn with
  | _ c ih =>
    by_cases h : c = 0
    · subst h; simp [mul_zero]
    · rw [mul_step (mul a b) c, mul_step b c, ih (c / 2) (by omega), mul_xor_right, mul_dbl]
      congr 1
      unfold bit; split <;> simp [mul_zero]

theorem top_bit {k y : Nat} (h : 2 ^ k ≤ y ∧ y < 2 ^ (k + 1)) : y.testBit k = true := by
  rw [Nat.testBit_eq_decide_div_mod_eq]
  have h1 : y / 2 ^ k = 1 := by
    have hp := Nat.two_pow_pos k
    rw [Nat.pow_succ] at h
    apply Nat.div_eq_of_lt_le <;> omega
  simp [h1]

/-- The degree is k. -/
def Top (k y : Nat) : Prop := 2 ^ k ≤ y ∧ y < 2 ^ (k + 1)

theorem top_xor {k x y : Nat} (h : Top k y) (hx : x < 2 ^ k) : Top k (x ^^^ y) := by
  have h1 : x < 2 ^ (k + 1) := by rw [Nat.pow_succ]; omega
  refine ⟨?_, Nat.xor_lt_two_pow h1 h.2⟩
  rcases Nat.lt_or_ge (x ^^^ y) (2 ^ k) with hlt | hge
  · have h2 := Nat.xor_lt_two_pow hx hlt
    rw [← Nat.xor_assoc, Nat.xor_self, Nat.zero_xor] at h2
    have := h.1
    omega
  · exact hge
theorem top_dbl {k y : Nat} (h : Top k y) : Top (k + 1) (2 * y) := by
  unfold Top at *
  rw [Nat.pow_succ 2 (k + 1), Nat.pow_succ 2 k] at *
  omega
theorem top_half {k y : Nat} (h : Top (k + 1) y) : Top k (y / 2) := by
  unfold Top at *
  rw [Nat.pow_succ 2 (k + 1), Nat.pow_succ 2 k] at *
  omega
theorem top_pos {k y : Nat} (h : Top k y) : 0 < y := Nat.lt_of_lt_of_le (Nat.two_pow_pos k) h.1
theorem top_some {y : Nat} (h : y ≠ 0) : ∃ k, Top k y := by
  induction y using Nat.strongRecOn with
  | _ y ih =>
    by_cases h1 : y = 1
    · exact ⟨0, by unfold Top; omega⟩
    · obtain ⟨k, hk⟩ := ih (y / 2) (by omega) (by omega)
      refine ⟨k + 1, ?_⟩
      unfold Top at *
      rw [Nat.pow_succ 2 (k + 1), Nat.pow_succ 2 k] at *
      omega
theorem top_le {i j y z : Nat} (hi : Top i y) (hj : Top j z) (h : y ≤ z) : i ≤ j := by
  rcases Nat.lt_or_ge j i with hlt | hge
  · have : 2 ^ (j + 1) ≤ 2 ^ i := Nat.pow_le_pow_right (by omega) hlt
    have := hi.1; have := hj.2; omega
  · exact hge
theorem top_one {i j y : Nat} (hi : Top i y) (hj : Top j y) : i = j := Nat.le_antisymm (top_le hi hj (Nat.le_refl _)) (top_le hj hi (Nat.le_refl _))

/-- The degree of a product is the sum of the degrees. -/
theorem mul_top {i j a b : Nat} (ha : Top i a) (hb : Top j b) : Top (i + j) (mul a b) := by
  induction j generalizing b with
  | zero =>
    have : b = 1 := by have h1 := hb.1; have h2 := hb.2; simp at h1 h2; omega
    subst this
    rw [mul_one]; exact ha
  | succ j ih =>
    rw [mul_step]
    refine top_xor (top_dbl (ih (top_half hb))) ?_
    have h1 : a < 2 ^ (i + j + 1) := Nat.lt_of_lt_of_le ha.2 (Nat.pow_le_pow_right (by omega) (by omega))
    unfold bit
    split
    · exact h1
    · exact Nat.two_pow_pos _
theorem mul_ne {a b : Nat} (ha : a ≠ 0) (hb : b ≠ 0) : mul a b ≠ 0 := by
  obtain ⟨i, hi⟩ := top_some ha
  obtain ⟨j, hj⟩ := top_some hb
  have := top_pos (mul_top hi hj)
  omega

theorem xor_cancel {a b : Nat} (h : a ^^^ b = 0) : a = b := by
  have : (a ^^^ b) ^^^ b = b := by rw [h, Nat.zero_xor]
  rwa [Nat.xor_assoc, Nat.xor_self, Nat.xor_zero] at this

/-- Division with a remainder. -/
theorem div_some {d m : Nat} (hm : Top d m) (p : Nat) : ∃ q r, p = mul q m ^^^ r ∧ r < 2 ^ d := by
  induction p using Nat.strongRecOn with
  | _ p ih =>
    by_cases h : p < 2 ^ d
    · exact ⟨0, p, by rw [zero_mul, Nat.zero_xor], h⟩
    · obtain ⟨k, hk⟩ := top_some (y := p) (by have := Nat.two_pow_pos d; omega)
      have hdk : d ≤ k := by
        rcases Nat.lt_or_ge k d with hlt | hge
        · have : 2 ^ (k + 1) ≤ 2 ^ d := Nat.pow_le_pow_right (by omega) hlt
          have := hk.2; omega
        · exact hge
      have hs : Top (k - d) (2 ^ (k - d)) := ⟨Nat.le_refl _, by rw [Nat.pow_succ]; have := Nat.two_pow_pos (k - d); omega⟩
      have ht := mul_top hs hm
      rw [show k - d + d = k by omega] at ht
      have hlt : p ^^^ mul (2 ^ (k - d)) m < 2 ^ k := by
        have h1 : p ^^^ mul (2 ^ (k - d)) m < 2 ^ (k + 1) := Nat.xor_lt_two_pow hk.2 ht.2
        rcases Nat.lt_or_ge (p ^^^ mul (2 ^ (k - d)) m) (2 ^ k) with h2 | h2
        · exact h2
        · have b1 : p.testBit k = true := top_bit hk
          have b2 : (mul (2 ^ (k - d)) m).testBit k = true := top_bit ht
          have b3 : (p ^^^ mul (2 ^ (k - d)) m).testBit k = true := top_bit ⟨h2, h1⟩
          rw [Nat.testBit_xor, b1, b2] at b3
          cases b3
      obtain ⟨q, r, e, hr⟩ := ih _ (Nat.lt_of_lt_of_le hlt hk.1)
      refine ⟨q ^^^ 2 ^ (k - d), r, ?_, hr⟩
      have e2 : p = (mul q m ^^^ r) ^^^ mul (2 ^ (k - d)) m := by rw [← e, Nat.xor_assoc, Nat.xor_self, Nat.xor_zero]
      rw [mul_xor_left, Nat.xor_assoc, Nat.xor_comm (mul (2 ^ (k - d)) m) r, ← Nat.xor_assoc]
      exact e2

/-- The remainder is one. -/
theorem rem_one {d m q q' r r' : Nat} (hm : Top d m) (hr : r < 2 ^ d) (hr' : r' < 2 ^ d) (h : mul q m ^^^ r = mul q' m ^^^ r') : q = q' ∧ r = r' := by
  have e : mul (q ^^^ q') m = r ^^^ r' := by
    rw [mul_xor_left]
    apply xor_cancel
    rw [four, h, Nat.xor_self]
  have hlt : r ^^^ r' < 2 ^ d := Nat.xor_lt_two_pow hr hr'
  by_cases h0 : q ^^^ q' = 0
  · rw [h0, zero_mul] at e
    exact ⟨xor_cancel h0, xor_cancel e.symm⟩
  · obtain ⟨k, hk⟩ := top_some h0
    have ht := (mul_top hk hm).1
    rw [e] at ht
    have : 2 ^ d ≤ 2 ^ (k + d) := Nat.pow_le_pow_right (by omega) (by omega)
    omega

/-- m divides p. -/
def Dvd (m p : Nat) : Prop := ∃ q, p = mul q m
theorem Dvd.refl (m : Nat) : Dvd m m := ⟨1, (one_mul m).symm⟩
theorem Dvd.zero (m : Nat) : Dvd m 0 := ⟨0, (zero_mul m).symm⟩
theorem Dvd.xor {m p q : Nat} (h : Dvd m p) (g : Dvd m q) : Dvd m (p ^^^ q) := by
  obtain ⟨a, rfl⟩ := h
  obtain ⟨b, rfl⟩ := g
  exact ⟨a ^^^ b, (mul_xor_left a b m).symm⟩
theorem Dvd.mul {m p : Nat} (h : Dvd m p) (c : Nat) : Dvd m (Gf.mul c p) := by
  obtain ⟨a, rfl⟩ := h
  exact ⟨Gf.mul c a, (mul_assoc c a m).symm⟩
theorem Dvd.trans {a b c : Nat} (h : Dvd a b) (g : Dvd b c) : Dvd a c := by
  obtain ⟨q, rfl⟩ := g
  exact h.mul q

end Go.Proofs.Ytobiajjcnpflgaa.Gf
