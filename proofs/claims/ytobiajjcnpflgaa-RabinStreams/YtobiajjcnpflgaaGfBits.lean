/- Words of 64 bits as numbers: exclusive or, or, and. Conditions: both below 2^64. -/
import Derived.Test.YtobiajjcnpflgaaGMem
namespace Go.Proofs.Ytobiajjcnpflgaa
open Go.RowKit

theorem wrap_u64_nat (n : Nat) (h : n < 18446744073709551616) : IntKind.u64.wrap (n : Int) = (n : Int) := by
  simp [IntKind.wrap, IntKind.bits, IntKind.signed]
  omega
theorem bits_xor_u64 (a b : Nat) (ha : a < 18446744073709551616) (hb : b < 18446744073709551616) : bits .xor .u64 (a : Int) (b : Int) = ((a ^^^ b : Nat) : Int) := by
  have hl : a ^^^ b < 2 ^ 64 := Nat.xor_lt_two_pow (n := 64) ha hb
  show IntKind.u64.wrap (((BitVec.ofInt 64 (a : Int) ^^^ BitVec.ofInt 64 (b : Int)).toNat : Nat) : Int) = _
  rw [BitVec.ofInt_natCast, BitVec.ofInt_natCast, BitVec.toNat_xor, BitVec.toNat_ofNat, BitVec.toNat_ofNat, Nat.mod_eq_of_lt ha, Nat.mod_eq_of_lt hb]
  exact wrap_u64_nat _ hl
theorem bits_or_u64 (a b : Nat) (ha : a < 18446744073709551616) (hb : b < 18446744073709551616) : bits .or .u64 (a : Int) (b : Int) = ((a ||| b : Nat) : Int) := by
  have hl : a ||| b < 2 ^ 64 := Nat.or_lt_two_pow (n := 64) ha hb
  show IntKind.u64.wrap (((BitVec.ofInt 64 (a : Int) ||| BitVec.ofInt 64 (b : Int)).toNat : Nat) : Int) = _
  rw [BitVec.ofInt_natCast, BitVec.ofInt_natCast, BitVec.toNat_or, BitVec.toNat_ofNat, BitVec.toNat_ofNat, Nat.mod_eq_of_lt ha, Nat.mod_eq_of_lt hb]
  exact wrap_u64_nat _ hl
theorem bits_and_u64 (a b : Nat) (ha : a < 18446744073709551616) (hb : b < 18446744073709551616) : bits .and .u64 (a : Int) (b : Int) = ((a &&& b : Nat) : Int) := by
  have hl : a &&& b < 2 ^ 64 := Nat.and_lt_two_pow _ hb
  show IntKind.u64.wrap (((BitVec.ofInt 64 (a : Int) &&& BitVec.ofInt 64 (b : Int)).toNat : Nat) : Int) = _
  rw [BitVec.ofInt_natCast, BitVec.ofInt_natCast, BitVec.toNat_and, BitVec.toNat_ofNat, BitVec.toNat_ofNat, Nat.mod_eq_of_lt ha, Nat.mod_eq_of_lt hb]
  exact wrap_u64_nat _ hl

namespace Gf
theorem or_bit (x b : Nat) (hb : b < 2) : (2 * x) ||| b = 2 * x + b := by
  have := Nat.shiftLeft_add_eq_or_of_lt (i := 1) (b := b) (by simpa using hb) x
  rw [Nat.shiftLeft_eq, Nat.pow_one, Nat.mul_comm] at this
  exact this.symm
/-- Two words as one number, doubled: what the upper word becomes, and the bit that goes. -/
theorem pair_dbl {hi lo : Nat} (hl : lo < 18446744073709551616) :
    ((hi * 2 % 18446744073709551616) ||| (lo / 9223372036854775808)) * 18446744073709551616 + lo * 2 % 18446744073709551616 = (2 * (hi * 18446744073709551616 + lo)) % 340282366920938463463374607431768211456 ∧
    hi / 9223372036854775808 = (hi * 18446744073709551616 + lo) / 170141183460469231731687303715884105728 ∧
    ((hi * 2 % 18446744073709551616) ||| (lo / 9223372036854775808)) < 18446744073709551616 := by
  have e : hi * 2 % 18446744073709551616 = 2 * (hi % 9223372036854775808) := by omega
  rw [e, or_bit _ _ (by omega)]
  refine ⟨?_, ?_, ?_⟩ <;> omega
/-- The bits that were taken, and those that are left. -/
theorem taken_next {P i : Nat} (hi : i < 128) : P / 2 ^ (127 - i) = 2 * (P / 2 ^ (128 - i)) + (P * 2 ^ i % 2 ^ 128) / 2 ^ 127 ∧ (P * 2 ^ i % 2 ^ 128) / 2 ^ 127 < 2 ∧ P * 2 ^ (i + 1) % 2 ^ 128 = 2 * (P * 2 ^ i % 2 ^ 128) % 2 ^ 128 := by
  have e1 : (2 : Nat) ^ 128 = 2 ^ (128 - i) * 2 ^ i := by rw [← Nat.pow_add]; congr 1; omega
  have e2 : (2 : Nat) ^ 127 = 2 ^ (127 - i) * 2 ^ i := by rw [← Nat.pow_add]; congr 1; omega
  have e3 : (2 : Nat) ^ (128 - i) = 2 * 2 ^ (127 - i) := by rw [show 128 - i = (127 - i) + 1 by omega, Nat.pow_succ, Nat.mul_comm]
  have hb : (P * 2 ^ i % 2 ^ 128) / 2 ^ 127 = (P % 2 ^ (128 - i)) / 2 ^ (127 - i) := by
    rw [e1, Nat.mul_mod_mul_right, e2, Nat.mul_div_mul_right _ _ (Nat.two_pow_pos i)]
  have hpos := Nat.two_pow_pos (127 - i)
  refine ⟨?_, ?_, ?_⟩
  · rw [hb, e3]
    generalize (2 : Nat) ^ (127 - i) = A at *
    have h1 : P = (2 * A) * (P / (2 * A)) + P % (2 * A) := (Nat.div_add_mod P (2 * A)).symm
    generalize P / (2 * A) = q at *
    generalize P % (2 * A) = r at *
    rw [h1, show 2 * A * q = A * (2 * q) by rw [Nat.mul_comm 2 A, Nat.mul_assoc], Nat.mul_add_div hpos]
  · rw [hb, e3]
    have := Nat.mod_lt P (show 0 < 2 * 2 ^ (127 - i) by omega)
    exact Nat.div_lt_of_lt_mul (by rw [Nat.mul_comm (2 ^ (127 - i)) 2]; exact this)
  · rw [Nat.pow_succ, ← Nat.mul_assoc, Nat.mul_comm 2, Nat.mod_mul_mod]
end Gf

end Go.Proofs.Ytobiajjcnpflgaa
