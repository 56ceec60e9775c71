/- wire.ReadVar. Conditions: none. -/
import Derived.Test.YtgdnmbchhfbjoaaDoorWiVar
namespace Go.Proofs.YtgdnmbchhfbjoaaDoor
open Go.RowKit

/-- The i-th byte of a row. -/
theorem BytesAt.byte {w : World} {S : Nat → Prop} {va : Option Addr} {n vc i : Nat} {bs : List UInt8} (h : BytesAt w S (.slice va n vc) bs) (hi : i < bs.length) : ∃ ad, va = some ad ∧ w.cell? (ad.add i) = some (.int .u8 ((bs.getD i 0).toNat : Int)) := by
  rcases h with ⟨_, e⟩ | ⟨ad, c, e, _, _, h3⟩
  · rw [e] at hi; simp at hi
  · obtain ⟨e1, _, _⟩ := Value.slice.inj e
    refine ⟨ad, e1, ?_⟩
    rw [h3 i _ (List.getElem?_eq_getElem hi)]
    simp [byteV, hi]

theorem bits_or_i64 (a b : Nat) (ha : a < 9223372036854775808) (hb : b < 9223372036854775808) : bits .or .i64 (a : Int) (b : Int) = ((a ||| b : Nat) : Int) := by
  have e : (BitVec.ofNat 64 a ||| BitVec.ofNat 64 b).toNat = a ||| b := by
    rw [BitVec.toNat_or, BitVec.toNat_ofNat, BitVec.toNat_ofNat, Nat.mod_eq_of_lt (by omega), Nat.mod_eq_of_lt (by omega)]
  have hor : a ||| b < 2 ^ 63 := Nat.or_lt_two_pow (n := 63) ha hb
  show IntKind.i64.wrap (((BitVec.ofInt 64 (a : Int) ||| BitVec.ofInt 64 (b : Int)).toNat : Nat) : Int) = _
  rw [BitVec.ofInt_natCast, BitVec.ofInt_natCast, e, IntKind.wrap_i64]
  omega

theorem u8_and (a : Nat) (h : a < 256) : bits .and .u8 (a : Int) 127 = ((a % 128 : Nat) : Int) := by
  have : ∀ b : Fin 256, bits .and .u8 ((b.val : Nat) : Int) 127 = ((b.val % 128 : Nat) : Int) := by decide +kernel
  exact this ⟨a, h⟩

theorem p128 (i : Nat) : 128 ^ i = 2 ^ (7 * i) := by rw [Nat.pow_mul]

/-- One digit more. -/
structure Digit (i acc d acc2 : Nat) : Prop where
  small : d < 128
  eq : acc2 = acc + d * 128 ^ i
  lt : acc2 < 128 ^ (i + 1)
  top : acc2 < 9223372036854775808

theorem digit_of {i acc d : Nat} (hi : i < 9) (ha : acc < 128 ^ i) (hd : d < 128) : Digit i acc d (acc + d * 128 ^ i) := by
  have h1 : acc + d * 128 ^ i < 128 ^ (i + 1) := by
    rw [Nat.pow_succ]
    have : d * 128 ^ i ≤ 127 * 128 ^ i := Nat.mul_le_mul_right _ (by omega)
    omega
  have h2 := Nat.pow_le_pow_right (n := 128) (by omega) (show i + 1 ≤ 9 by omega)
  exact ⟨hd, rfl, h1, Nat.lt_of_lt_of_le h1 (by simpa using h2)⟩

theorem Digit.shl {i acc d acc2 : Nat} (h : Digit i acc d acc2) : IntKind.i64.wrap ((d : Int) * 2 ^ (7 * i)) = ((d * 128 ^ i : Nat) : Int) := by
  have h1 := h.eq
  have h2 := h.top
  have e : (d : Int) * 2 ^ (7 * i) = ((d * 128 ^ i : Nat) : Int) := by rw [p128]; simp
  rw [e]
  exact IntWalk.i64_in _ (by omega)

theorem Digit.or {i acc d acc2 : Nat} (h : Digit i acc d acc2) (ha : acc < 128 ^ i) : bits .or .i64 (acc : Int) ((d * 128 ^ i : Nat) : Int) = (acc2 : Int) := by
  have h1 := h.eq
  have h2 := h.top
  rw [bits_or_i64 _ _ (by omega) (by omega), h1]
  congr 1
  rw [p128] at ha ⊢
  have := Nat.shiftLeft_add_eq_or_of_lt ha d
  rw [Nat.shiftLeft_eq] at this
  rw [Nat.or_comm, ← this, Nat.add_comm]

end Go.Proofs.YtgdnmbchhfbjoaaDoor
