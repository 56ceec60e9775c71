/- wire.ReadVar. Conditions: none. -/
import Derived.Test.YtlfbdhgppmmahaaWiVar
namespace Go.Proofs.Ytlfbdhgppmmahaa
open Go.RowKit

/-- The i-th byte of a row. -/
theorem BytesAt.byte {w : World} {S : Nat → Prop} {va : Option Addr} {n vc i : Nat} {bs : List UInt8} (h : BytesAt w S (.slice va n vc) bs) (hi : i < bs.length) : ∃ ad, va = some ad ∧ w.cell? (ad.add i) = some (.int .u8 ((bs.getD i 0).toNat : Int)) := by
  rcases h with ⟨_, e⟩ | ⟨ad, c, e, _, _, h3⟩
  · rw [e] at hi; simp at hi
  · obtain ⟨e1, _, _⟩ := Value.slice.inj e
    refine ⟨ad, e1, ?_⟩
    rw [h3 i _ (List.getElem?_eq_getElem hi)]
    simp [byteV, hi]

theorem bits_or_i64 (a b : Nat) (ha : a < 9223372036854775808) (hb : b < 9223372036854775808) : bits .or .i64 (a : Int) (b : Int) = ((a ||| b : Nat) : Int) := by
  have e : (BitVec.ofNat 64 a ||| BitVec.ofNat 64 b).toNat = a ||| b := by
    rw [BitVec.toNat_or, BitVec.toNat_ofNat, BitVec.toNat_ofNat, Nat.mod_eq_of_lt (by omega), Nat.mod_eq_of_lt (by omega)]
  have hor : a ||| b < 2 ^ 63 := Nat.or_lt_two_pow (n := 63) ha hb
  show IntKind.i64.wrap (((BitVec.ofInt 64 (a : Int) ||| BitVec.ofInt 64 (b : Int)).toNat : Nat) : Int) = _
  rw [BitVec.ofInt_natCast, BitVec.ofInt_natCast, e, IntKind.wrap_i64]
  omega

theorem u8_and (a : Nat) (h : a < 256) : bits .and .u8 (a : Int) 127 = ((a % 128 : Nat) : Int) := by
  have : ∀ b : Fin 256, bits .and .u8 ((b.val : Nat) : Int) 127 = ((b.val % 128 : Nat) : Int) := by decide +kernel
  exact this ⟨a, h⟩

theorem p128 (i : Nat) : 128 ^ i = 2 ^ (7 * i) := by rw [Nat.pow_mul]

/-- One digit more. -/
structure Digit (i acc d acc2 : Nat) : Prop where
  small : d < 128
  eq : acc2 = acc + d * 128 ^ i
  lt : acc2 < 128 ^ (i + 1)
  top : acc2 < 9223372036854775808

theorem digit_of {i acc d : Nat} (hi : i < 9) (ha : acc < 128 ^ i) (hd : d < 128) : Digit i acc d (acc + d * 128 ^ i) := by
  have h1 : acc + d * 128 ^ i < 128 ^ (i + 1) := by
    rw [Nat.pow_succ]
    have : d * 128 ^ i ≤ 127 * 128 ^ i := Nat.mul_le_mul_right _ (by omega)
    omega
  have h2 := Nat.pow_le_pow_right (n := 128) (by omega) (show i + 1 ≤ 9 by omega)
  exact ⟨hd, rfl, h1, Nat.lt_of_lt_of_le h1 (by simpa using h2)⟩

theorem Digit.shl {i acc d acc2 : Nat} (h : Digit i acc d acc2) : IntKind.i64.wrap ((d : Int) * 2 ^ (7 * i)) = ((d * 128 ^ i : Nat) : Int) := by
  have h1 := h.eq
  have h2 := h.top
  have e : (d : Int) * 2 ^ (7 * i) = ((d * 128 ^ i : Nat) : Int) := by rw [p128]; simp
  rw [e]
  exact IntWalk.i64_in _ (by omega)

theorem Digit.or {i acc d acc2 : Nat} (h : Digit i acc d acc2) (ha : acc < 128 ^ i) : bits .or .i64 (acc : Int) ((d * 128 ^ i : Nat) : Int) = (acc2 : Int) := by
  have h1 := h.eq
  have h2 := h.top
  rw [bits_or_i64 _ _ (by omega) (by omega), h1]
  congr 1
  rw [p128] at ha ⊢
  have := Nat.shiftLeft_add_eq_or_of_lt ha d
  rw [Nat.shiftLeft_eq] at this
  rw [Nat.or_comm, ← this, Nat.add_comm]

set_option maxRecDepth 100000 in
set_option maxHeartbeats 1000000 in
theorem readVar_any {w : World} {S : Nat → Prop} {v : Value} {bs : List UInt8} (hv : BytesAt w S v bs) (hlen : bs.length ≤ 140737488355328) :
    Calls Try.prog 14 #[v] w fun e w' => w' = w ∧ ((∃ n k, Wi.readVar bs = some (n, k) ∧ e = .returned (.tuple #[.int .i64 (n : Int), .int .i64 (k : Int), .nilIface])) ∨ (Wi.readVar bs = none ∧ e = .returned (.tuple #[.int .i64 0, .int .i64 0, .iface 54 (.int .i64 9)]))) := by
  obtain ⟨va, vc, rfl⟩ := hv.shape
  have HV := Lib.hid hv
  obtain ⟨mm, hmm⟩ : ∃ mm, min bs.length 9 = mm := ⟨_, rfl⟩
  have hmin : ∀ (ts : Array TypeId) (t : TypeId) (W : World), (Builtin.min_ ts t #[.int .i64 (bs.length : Int), .int .i64 9]).run Try.prog W = .ok (.int .i64 (mm : Int)) W := fun ts t W => by
    rw [run_min_int2]
    congr 2
    split <;> omega
  clear hv
  go_enter Try.func14, Try.ntmps14
  go_wp2
  go_loopw [5, 11] (fun nv iv wr => ∃ i acc : Nat, nv = .int .i64 acc ∧ iv = .int .i64 i ∧ i ≤ mm ∧ acc < 128 ^ i ∧ Wi.readVar bs = Wi.rv i acc (bs.drop i) ∧ wr = w) (fun _ iv _ => mm - (intOf iv).toNat)
  case atStart => exact ⟨0, 0, rfl, rfl, Nat.zero_le _, by simp, rfl, rfl⟩
  case round =>
    obtain ⟨i, acc, rfl, rfl, hi, hacc, hrv, rfl⟩ := hrel
    by_cases hlt : i < mm
    · obtain ⟨ad, rfl, hc⟩ := HV.out.byte (i := i) (by omega)
      have pz : 0 ≤ (i : Int) := by omega
      have mz : (i : Int) < (bs.length : Int) := by omega
      have hst := Wi.rv_step (b := bs) (i := i) (acc := acc) (by omega) (by omega)
      have hx := (bs.getD i 0).toNat_lt
      obtain ⟨X, hX⟩ : ∃ X, (bs.getD i 0).toNat = X := ⟨_, rfl⟩
      rw [hX] at hc hst hx
      rw [hst] at hrv
      obtain ⟨d, hd⟩ : ∃ d, X % 128 = d := ⟨_, rfl⟩
      obtain ⟨acc2, hacc2⟩ : ∃ acc2, acc2 = acc + d * 128 ^ i := ⟨_, rfl⟩
      have hdig : Digit i acc d acc2 := by rw [hacc2]; exact digit_of (by omega) hacc (by omega)
      have hand : bits .and .u8 (X : Int) 127 = (d : Int) := by rw [← hd]; exact u8_and X hx
      have hshl := hdig.shl
      rw [IntWalk.i64_left] at hshl
      have hor := hdig.or hacc
      have hd128 := hdig.small
      have HDIG := Lib.hid hdig
      have HRV := Lib.hid hrv
      obtain ⟨P, hP⟩ : ∃ P, P = d * 128 ^ i := ⟨_, rfl⟩
      rw [← hP] at hshl hor
      have HACC : Hid (acc2 = acc + d * 128 ^ i) := hacc2
      clear hst hrv hacc hacc2 hdig hP
      have hlt' : (i : Int) < (mm : Int) := by omega
      by_cases hbig : 128 ≤ X
      · have hne : ((X : Int) == (d : Int)) = false := by simp; omega
        rw [if_pos hbig, hd, ← HACC.out] at HRV
        go_wp2
        exact ⟨⟨i + 1, acc2, rfl, by go_num, by omega, HDIG.out.lt, HRV.out, trivial⟩, by simp [intOf]; omega⟩
      · have hne : ((X : Int) == (d : Int)) = true := by simp; omega
        have hnn : ((X : Int) != (d : Int)) = false := by simp; omega
        have hXd : X = d := by omega
        rw [if_neg hbig, hXd, ← HACC.out] at HRV
        clear hXd
        by_cases hz : d = 0 ∧ 0 < i
        · have hz1 : ((d : Int) == 0) = true := by simp; omega
          have hz2 : (i : Int) > 0 := by omega
          rw [if_pos hz] at HRV
          go_wp2
          go_ret3
          exact ⟨rfl, .inr ⟨HRV.out, rfl⟩⟩
        · rw [if_neg hz] at HRV
          have hz1 : ((d : Int) == 0) = false ∨ (((d : Int) == 0) = true ∧ i = 0) := by simp; omega
          clear hz
          rcases hz1 with hz1 | ⟨hz1, hi0⟩
          · go_wp2
            go_ret3
            exact ⟨rfl, .inl ⟨acc2, i + 1, HRV.out, rfl⟩⟩
          · have hz2 : ¬ (i : Int) > 0 := by omega
            clear hi0
            go_wp2
            go_ret3
            exact ⟨rfl, .inl ⟨acc2, i + 1, HRV.out, rfl⟩⟩
    · have HEND : Hid (Wi.readVar bs = none) := by rw [Hid, hrv]; exact Wi.rv_end (by omega)
      clear hrv hacc
      go_wp2
      go_ret3
      exact ⟨rfl, .inr ⟨HEND.out, rfl⟩⟩

end Go.Proofs.Ytlfbdhgppmmahaa
