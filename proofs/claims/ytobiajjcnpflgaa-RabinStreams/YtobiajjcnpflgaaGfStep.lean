/- Pure: trial of divisors; products and remainders bit by bit; powers by squares. Conditions: none. -/
import Derived.Test.YtobiajjcnpflgaaGfBenOr
namespace Go.Proofs.Ytobiajjcnpflgaa.Gf

/-- By trying all divisors of half the degree. -/
theorem trial_irr {p n : Nat} (hn : Top n p) (h1 : 1 ≤ n) : Irr p ↔ ∀ q k, 2 ≤ q → Top k q → 2 * k ≤ n → ¬ Dvd q p := by
  have hp2 : 2 ≤ p := by
    have h := hn.1
    have : 2 ^ 1 ≤ 2 ^ n := Nat.pow_le_pow_right (by omega) h1
    omega
  constructor
  · rintro hp q k hq hk hkn ⟨c, e⟩
    rcases hp.2 c q e with h | h
    · rw [h, one_mul] at e
      subst e
      have := top_one hk hn
      omega
    · omega
  · intro h
    refine ⟨hp2, fun a b e => ?_⟩
    rcases Nat.lt_or_ge a 2 with ha | ha
    · rcases (show a = 0 ∨ a = 1 by omega) with rfl | rfl
      · rw [zero_mul] at e; omega
      · exact .inl rfl
    · rcases Nat.lt_or_ge b 2 with hb | hb
      · rcases (show b = 0 ∨ b = 1 by omega) with rfl | rfl
        · rw [mul_zero] at e; omega
        · exact .inr rfl
      · obtain ⟨i, hi⟩ := top_some (y := a) (by omega)
        obtain ⟨j, hj⟩ := top_some (y := b) (by omega)
        have ht := mul_top hi hj
        rw [← e] at ht
        have hij := top_one hn ht
        rcases Nat.le_total i j with h2 | h2
        · exact (h a i ha hi (by omega) ⟨b, by rw [e, mul_comm]⟩).elim
        · exact (h b j hb hj (by omega) ⟨a, e⟩).elim

/-- What is irreducible has no common divisor with what it does not divide. -/
theorem gcd_irr {a b g : Nat} (ha : Irr a) (hg : IsGcd a b g) : g = 1 ↔ ¬ Dvd a b := by
  constructor
  · rintro rfl h
    have h1 := hg.of_dvd (Dvd.refl a) h
    obtain ⟨n, hn⟩ := top_some (y := a) (by have := ha.1; omega)
    have hn0 : n ≠ 0 := by rintro rfl; have := hn.2; have := ha.1; simp at *; omega
    have := small_dvd hn (Nat.one_lt_two_pow hn0) h1
    cases this
  · intro h
    rcases ha.gcd hg with h1 | h1
    · exact h1
    · subst h1; exact (h hg.right).elim

theorem mul_lt {a b i j : Nat} (ha : a < 2 ^ i) (hb : b < 2 ^ (j + 1)) : mul a b < 2 ^ (i + j) := by
  by_cases h0 : a = 0
  · subst h0; rw [zero_mul]; exact Nat.two_pow_pos _
  · by_cases h1 : b = 0
    · subst h1; rw [mul_zero]; exact Nat.two_pow_pos _
    · obtain ⟨k, hk⟩ := top_some h0
      obtain ⟨l, hl⟩ := top_some h1
      have h2 : k < i := by
        rcases Nat.lt_or_ge k i with h | h
        · exact h
        · have : 2 ^ i ≤ 2 ^ k := Nat.pow_le_pow_right (by omega) h
          have := hk.1; omega
      have h3 : l < j + 1 := by
        rcases Nat.lt_or_ge l (j + 1) with h | h
        · exact h
        · have : 2 ^ (j + 1) ≤ 2 ^ l := Nat.pow_le_pow_right (by omega) h
          have := hl.1; omega
      exact Nat.lt_of_lt_of_le (mul_top hk hl).2 (Nat.pow_le_pow_right (by omega) (by omega))

/-- A product, taken in by one more bit. -/
theorem mul_next (a h b : Nat) (hb : b < 2) : mul a (2 * h + b) = (2 * mul a h) ^^^ bit b a := by
  rw [mul_step, Nat.xor_comm, show (2 * h + b) / 2 = h by omega]
  congr 1
  unfold bit
  rw [show (2 * h + b) % 2 = b % 2 by omega]
theorem mul_shift (a k : Nat) : mul a (2 ^ k) = a * 2 ^ k := by
  induction k with
  | zero => simp [mul_one]
  | succ k ih => rw [Nat.pow_succ, Nat.mul_comm (2 ^ k) 2, mul_dbl, ih]; ac_rfl

theorem add_bit (h b : Nat) (hb : b < 2) : 2 * h + b = (2 * h) ^^^ b := by
  rcases (show b = 0 ∨ b = 1 by omega) with rfl | rfl
  · simp
  · rw [odd_xor]
theorem dbl_eq (a : Nat) : 2 * a = mul 2 a := by
  rw [mul_comm, show (2 : Nat) = 2 * 1 from rfl, mul_dbl, mul_one]

/-- A remainder, taken in by one more bit. -/
theorem rem_next {m d h r b : Nat} (hd : Top d m) (hr : Rem m h r) (hb : b < 2) :
    (2 * r + b < 2 ^ d → Rem m (2 * h + b) (2 * r + b)) ∧ (2 ^ d ≤ 2 * r + b → Rem m (2 * h + b) ((2 * r + b) ^^^ m)) := by
  have hlt := hr.2 d hd
  have hdv : Dvd m ((2 * h + b) ^^^ (2 * r + b)) := by
    rw [add_bit h b hb, add_bit r b hb, four, Nat.xor_self, Nat.xor_zero, ← dbl_xor, dbl_eq]
    exact hr.1.mul 2
  constructor
  · intro hl
    exact ⟨hdv, fun d' hd' => by rw [top_one hd' hd]; exact hl⟩
  · intro hl
    refine ⟨?_, fun d' hd' => ?_⟩
    · rw [← Nat.xor_assoc]; exact hdv.xor (Dvd.refl m)
    · rw [top_one hd' hd]
      have ht : Top d (2 * r + b) := ⟨hl, by rw [Nat.pow_succ]; omega⟩
      have h1 : (2 * r + b) ^^^ m < 2 ^ (d + 1) := Nat.xor_lt_two_pow ht.2 hd.2
      rcases Nat.lt_or_ge ((2 * r + b) ^^^ m) (2 ^ d) with h2 | h2
      · exact h2
      · have b1 := top_bit ht
        have b2 := top_bit hd
        have b3 := top_bit ⟨h2, h1⟩
        rw [Nat.testBit_xor, b1, b2] at b3
        cases b3
theorem rem_zero (m : Nat) : Rem m 0 0 := ⟨by rw [Nat.xor_self]; exact Dvd.zero m, fun d _ => Nat.two_pow_pos d⟩
theorem rem_small {m d p : Nat} (hd : Top d m) (h : p < 2 ^ d) : Rem m p p := ⟨by rw [Nat.xor_self]; exact Dvd.zero m, fun d' hd' => by rw [top_one hd' hd]; exact h⟩
/-- One step of a division from the top. -/
theorem rem_sub {m p q r : Nat} (h : Rem m (p ^^^ mul q m) r) : Rem m p r := by
  refine ⟨?_, h.2⟩
  have := h.1.xor ((Dvd.refl m).mul q)
  rwa [Nat.xor_assoc, Nat.xor_comm r, ← Nat.xor_assoc, Nat.xor_assoc p, Nat.xor_self, Nat.xor_zero] at this
/-- Remainders of products. -/
theorem rem_mul {m a a' b r : Nat} (ha : Cg m a a') (h : Rem m (mul a' b) r) : Rem m (mul a b) r := ⟨(ha.mul (Cg.refl m b)).trans h.1, h.2⟩
theorem rem_cg {m a b r : Nat} (h : Cg m a b) (hr : Rem m b r) : Rem m a r := ⟨h.trans hr.1, hr.2⟩

/-- Powers by squares. -/
theorem pw_even (a k : Nat) : pw a (2 * k) = pw (mul a a) k := by
  induction k with
  | zero => rfl
  | succ k ih => rw [show 2 * (k + 1) = 2 * k + 1 + 1 by omega, pw, pw, ih, pw, mul_assoc]
theorem pw_odd (a k : Nat) : pw a (2 * k + 1) = mul (pw (mul a a) k) a := by rw [pw, pw_even]
theorem pw_two (n : Nat) : pw 2 n = 2 ^ n := by
  induction n with
  | zero => rfl
  | succ n ih => rw [pw, ih, show mul (2 ^ n) 2 = mul (2 ^ n) (2 * 1) from rfl, mul_dbl, mul_one, Nat.pow_succ]; omega

end Go.Proofs.Ytobiajjcnpflgaa.Gf
