/- The document's own Deg, Mul, Mod. Conditions: none. -/
import Derived.Test.YtobiajjcnpflgaaPoDeg
namespace Go.Proofs.Ytobiajjcnpflgaa
open Go.RowKit

theorem r6deg_any {x : Nat} (hx : x < 18446744073709551616) (w : World) : Calls Try.prog 39 #[.int .u64 (x : Int)] w fun e w' => e = .returned (.int .i64 ((Lib.bitLen x : Int) - 1)) ∧ w = w' := by
  have hle := Gf.len_le hx
  go_enter Try.func39, Try.ntmps39
  go_wp2
  go_loop [0, 3] (fun pv dv => ∃ (p j : Nat), pv = .int .u64 (p : Int) ∧ dv = .int .i64 ((j : Int) - 1) ∧ p < 18446744073709551616 ∧ Lib.bitLen x = j + Lib.bitLen p) (fun pv _ => (intOf pv).toNat)
  case atStart => exact ⟨x, 0, rfl, rfl, hx, by omega⟩
  case round =>
    obtain ⟨p, j, rfl, rfl, hp, he⟩ := hrel
    by_cases h0 : p = 0
    · subst h0
      rw [Gf.len_zero] at he
      have he' : j = Lib.bitLen x := by omega
      subst he'
      clear he
      go_wp2
      go_ret
      exact ⟨rfl, rfl⟩
    · have h0' : ¬ (p : Int) = 0 := by omega
      have hh := Lib.bitLen_half p h0 hp
      go_wp2
      go_round
      case rel => exact ⟨p / 2, j + 1, by simp, by congr 1; omega, by omega, by omega⟩
      case measure => simp [intOf]; omega

namespace Gf
/-- The bits of a number of N bits that were taken, and those that are left. -/
theorem taken_gen {P i N : Nat} (hi : i < N) : P / 2 ^ (N - (i + 1)) = 2 * (P / 2 ^ (N - i)) + (P * 2 ^ i % 2 ^ N) / 2 ^ (N - 1) ∧ (P * 2 ^ i % 2 ^ N) / 2 ^ (N - 1) < 2 ∧ P * 2 ^ (i + 1) % 2 ^ N = P * 2 ^ i % 2 ^ N * 2 % 2 ^ N := by
  have e1 : (2 : Nat) ^ N = 2 ^ (N - i) * 2 ^ i := by rw [← Nat.pow_add]; congr 1; omega
  have e2 : (2 : Nat) ^ (N - 1) = 2 ^ (N - (i + 1)) * 2 ^ i := by rw [← Nat.pow_add]; congr 1; omega
  have e3 : (2 : Nat) ^ (N - i) = 2 * 2 ^ (N - (i + 1)) := by rw [show N - i = (N - (i + 1)) + 1 by omega, Nat.pow_succ, Nat.mul_comm]
  have hb : (P * 2 ^ i % 2 ^ N) / 2 ^ (N - 1) = (P % 2 ^ (N - i)) / 2 ^ (N - (i + 1)) := by
    rw [e1, Nat.mul_mod_mul_right, e2, Nat.mul_div_mul_right _ _ (Nat.two_pow_pos i)]
  have hpos := Nat.two_pow_pos (N - (i + 1))
  refine ⟨?_, ?_, ?_⟩
  · rw [hb, e3]
    generalize (2 : Nat) ^ (N - (i + 1)) = A at *
    have h1 : P = (2 * A) * (P / (2 * A)) + P % (2 * A) := (Nat.div_add_mod P (2 * A)).symm
    generalize P / (2 * A) = q at *
    generalize P % (2 * A) = r at *
    rw [h1, show 2 * A * q = A * (2 * q) by rw [Nat.mul_comm 2 A, Nat.mul_assoc], Nat.mul_add_div hpos]
  · rw [hb, e3]
    have := Nat.mod_lt P (show 0 < 2 * 2 ^ (N - (i + 1)) by omega)
    exact Nat.div_lt_of_lt_mul (by rw [Nat.mul_comm (2 ^ (N - (i + 1))) 2]; exact this)
  · rw [Nat.pow_succ, ← Nat.mul_assoc, Nat.mod_mul_mod]

/-- Two words, doubled, are two words. -/
theorem dbl_words {H L : Nat} (hL : L < 18446744073709551616) : ∃ H' L' : Nat,
    bits .or .u64 (IntKind.u64.wrap ((H : Int) * 2)) ((L : Int) / 9223372036854775808) = (H' : Int) ∧ IntKind.u64.wrap ((L : Int) * 2) = (L' : Int) ∧
    H' < 18446744073709551616 ∧ L' < 18446744073709551616 ∧ pr H' L' = pr H L * 2 % 2 ^ 128 ∧ H / 9223372036854775808 = pr H L / 2 ^ 127 ∧ L' % 2 = 0 := by
  obtain ⟨h1, h2, h3⟩ := pair_dbl (hi := H) hL
  have hm : H * 2 % 18446744073709551616 < 18446744073709551616 := Nat.mod_lt _ (by decide)
  refine ⟨(H * 2 % 18446744073709551616) ||| (L / 9223372036854775808), L * 2 % 18446744073709551616, ?_, ?_, h3, Nat.mod_lt _ (by decide), ?_, ?_, by omega⟩
  · rw [← bits_or_u64 _ _ hm (by omega)]
    congr 1
  · simp [IntKind.wrap, IntKind.bits, IntKind.signed]
  · unfold pr
    rw [h1, show (2 : Nat) ^ 128 = 340282366920938463463374607431768211456 by decide, Nat.mul_comm 2]
  · unfold pr
    rw [h2, show (2 : Nat) ^ 127 = 170141183460469231731687303715884105728 by decide]

theorem xor_even {L a H : Nat} (hL : L < 18446744073709551616) (ha : a < 18446744073709551616) : pr H (L ^^^ a) = pr H L ^^^ a := by
  have := pr_xor (h := H) (h' := 0) hL ha
  rwa [Nat.xor_zero, pr_lo] at this

/-- One round of the document's product. -/
theorem mul_round {a b k H L H' L' B : Nat} (ha : a < 18446744073709551616) (hb : b < 18446744073709551616) (hk : k < 64) (hB : B = b * 2 ^ k % 18446744073709551616)
    (he : pr H L = mul a (b / 2 ^ (64 - k))) (hd : pr H' L' = pr H L * 2 % 2 ^ 128) (hL' : L' < 18446744073709551616) :
    (B / 9223372036854775808 = 0 → pr H' L' = mul a (b / 2 ^ (64 - (k + 1)))) ∧ (B / 9223372036854775808 = 1 → pr H' (L' ^^^ a) = mul a (b / 2 ^ (64 - (k + 1)))) ∧ b * 2 ^ (k + 1) % 18446744073709551616 = B * 2 % 18446744073709551616 := by
  obtain ⟨t1, t2, t3⟩ := taken_gen (P := b) hk
  rw [show (2 : Nat) ^ (64 - 1) = 9223372036854775808 by decide, show (2 : Nat) ^ 64 = 18446744073709551616 by decide, ← hB] at t1 t2
  rw [show (2 : Nat) ^ 64 = 18446744073709551616 by decide, ← hB] at t3
  have hq : b / 2 ^ (64 - k) < 2 ^ (62 + 1) := by
    have h1 : b / 2 ^ (64 - k) < 2 ^ k := by
      rw [Nat.div_lt_iff_lt_mul (Nat.two_pow_pos _), ← Nat.pow_add, show k + (64 - k) = 64 by omega]; exact hb
    exact Nat.lt_of_lt_of_le h1 (Nat.pow_le_pow_right (by omega) (by omega))
  have hlt := mul_lt (i := 64) (j := 62) (a := a) ha hq
  rw [he, Nat.mod_eq_of_lt (by rw [show (2 : Nat) ^ 128 = 2 ^ (64 + 62) * 4 by decide]; omega), Nat.mul_comm] at hd
  have hn := mul_next a (b / 2 ^ (64 - k)) (B / 9223372036854775808) t2
  refine ⟨fun h => ?_, fun h => ?_, t3⟩
  · rw [t1, hn, hd, h]; simp [bit]
  · rw [xor_even hL' ha, t1, hn, hd, h]; simp [bit]

/-- One round of the document's remainder. -/
theorem mod_round {m P k H L r D : Nat} (hm : Top D m) (hk : k < 128) (hD : 1 ≤ D)
    (he : pr H L = P * 2 ^ k % 2 ^ 128) (hr : r = rm m (P / 2 ^ (128 - k))) (hb : H / 9223372036854775808 = pr H L / 2 ^ 127) :
    (r / 2 ^ (D - 1) % 2 = 0 → 2 * r + H / 9223372036854775808 = rm m (P / 2 ^ (128 - (k + 1)))) ∧ (r / 2 ^ (D - 1) % 2 = 1 → (2 * r + H / 9223372036854775808) ^^^ m = rm m (P / 2 ^ (128 - (k + 1)))) ∧ r < 2 ^ D ∧ H / 9223372036854775808 < 2 ∧ P * 2 ^ (k + 1) % 2 ^ 128 = pr H L * 2 % 2 ^ 128 := by
  obtain ⟨t1, t2, t3⟩ := taken_gen (P := P) hk
  rw [← he] at t1 t2 t3
  rw [show 128 - 1 = 127 from rfl, ← hb] at t1 t2
  have hm0 : m ≠ 0 := by have := top_pos hm; omega
  have hrm := rm_rem hm0 (P / 2 ^ (128 - k))
  rw [← hr] at hrm
  have hlt := hrm.2 D hm
  obtain ⟨n1, n2⟩ := rem_next hm hrm t2
  rw [← t1] at n1 n2
  obtain ⟨E, rfl⟩ : ∃ E, D = E + 1 := ⟨D - 1, by omega⟩
  rw [Nat.add_sub_cancel]
  have hp := Nat.two_pow_pos E
  rw [Nat.pow_succ] at n1 n2 hlt
  refine ⟨fun h => ?_, fun h => ?_, by rw [Nat.pow_succ]; exact hlt, t2, t3⟩
  · have h1 : r / 2 ^ E < 1 := by
      have : r / 2 ^ E < 2 := by rw [Nat.div_lt_iff_lt_mul hp]; omega
      generalize r / 2 ^ E = q at h this; omega
    rw [Nat.div_lt_iff_lt_mul hp] at h1
    exact (rm_of hm0 (n1 (by omega))).symm
  · have h1 : 1 ≤ r / 2 ^ E := by generalize r / 2 ^ E = q at h; omega
    rw [Nat.le_div_iff_mul_le hp] at h1
    exact (rm_of hm0 (n2 (by omega))).symm
theorem rm_one (P : Nat) : rm 1 P = 0 := by
  have := rm_le P (m := 1) (by omega); omega
end Gf

set_option maxRecDepth 100000 in
theorem r6mul_any {a b : Nat} (ha : a < 18446744073709551616) (hb : b < 18446744073709551616) (w : World) : Calls Try.prog 51 #[.int .u64 (a : Int), .int .u64 (b : Int)] w (Pair w (Gf.mul a b)) := by
  go_enter Try.func51, Try.ntmps51
  go_wp2
  go_loop [1, 6, 7, 8] (fun bv hv lv iv => ∃ (B H L k : Nat), bv = .int .u64 (B : Int) ∧ hv = .int .u64 (H : Int) ∧ lv = .int .u64 (L : Int) ∧ iv = .int .i64 (k : Int) ∧ B = b * 2 ^ k % 18446744073709551616 ∧ H < 18446744073709551616 ∧ L < 18446744073709551616 ∧ k ≤ 64 ∧ Gf.pr H L = Gf.mul a (b / 2 ^ (64 - k))) (fun _ _ _ iv => 64 - (intOf iv).toNat)
  case atStart => exact ⟨b, 0, 0, 0, rfl, rfl, rfl, rfl, by rw [Nat.pow_zero, Nat.mul_one, Nat.mod_eq_of_lt hb], by omega, by omega, by omega, by rw [show b / 2 ^ (64 - 0) = 0 from Nat.div_eq_of_lt hb]; simp [Gf.pr, Gf.mul_zero]⟩
  case round =>
    obtain ⟨B, H, L, k, rfl, rfl, rfl, rfl, hB, hH, hL, hk, he⟩ := hrel
    have HE := Lib.hid he
    have HB := Lib.hid hB
    have hB64 : B < 18446744073709551616 := by rw [hB]; exact Nat.mod_lt _ (by decide)
    rcases (show k = 64 ∨ k < 64 by omega) with rfl | hk'
    · clear he hB
      go_wp2
      go_ret2
      refine ⟨H, L, rfl, ?_, hH, hL, Only.refl _ _⟩
      rw [HE.out]; simp
    · have h1 : (k : Int) < 64 := by omega
      obtain ⟨H', L', eh, el, hH', hL', hd, _, _⟩ := Gf.dbl_words (H := H) hL
      have HR := Lib.hid (Gf.mul_round ha hb hk' hB he hd hL')
      have ex := bits_xor_u64 L' a hL' ha
      have hX := Gf.xor64 hL' ha
      generalize hXX : L' ^^^ a = X at *
      have eb : IntKind.u64.wrap ((B : Int) * 2) = ((B * 2 % 18446744073709551616 : Nat) : Int) := by simp [IntKind.wrap, IntKind.bits, IntKind.signed]
      generalize hB' : B * 2 % 18446744073709551616 = B' at *
      clear he hB hd
      rcases (show B / 9223372036854775808 = 0 ∨ B / 9223372036854775808 = 1 by omega) with hbit | hbit
      · have hbt : (B : Int) / 9223372036854775808 = 0 := by omega
        go_wp2
        go_round
        case rel =>
          refine ⟨B', H', L', k + 1, ?_, rfl, rfl, by simp, by rw [HR.out.2.2], hH', hL', by omega, HR.out.1 hbit⟩
          first | rfl | (congr 1; omega)
        case measure => simp [intOf]; omega
      · have hbt : (B : Int) / 9223372036854775808 = 1 := by omega
        go_wp2
        go_round
        case rel =>
          refine ⟨B', H', X, k + 1, ?_, rfl, rfl, by simp, by rw [HR.out.2.2], hH', hX, by omega, HR.out.2.1 hbit⟩
          first | rfl | (congr 1; omega)
        case measure => simp [intOf]; omega

end Go.Proofs.Ytobiajjcnpflgaa
