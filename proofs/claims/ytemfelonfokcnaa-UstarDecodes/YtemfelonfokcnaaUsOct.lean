/- ustar.putOctal, octal, fitsOctal, FitsId, FitsTime; Id, Time of the document. Conditions: numbers below 2^62. -/
import Derived.Test.YtemfelonfokcnaaUsBack
namespace Go.Proofs.Ytemfelonfokcnaa
open Go.RowKit

theorem bits_and7 (n : Nat) (hn : n < 9223372036854775808) : bits .and .i64 (n : Int) 7 = ((n % 8 : Nat) : Int) := by
  show IntKind.i64.wrap (((BitVec.ofInt 64 (n : Int) &&& BitVec.ofInt 64 ((7 : Nat) : Int)).toNat : Nat) : Int) = _
  rw [BitVec.ofInt_natCast, BitVec.ofInt_natCast, BitVec.toNat_and, BitVec.toNat_ofNat, BitVec.toNat_ofNat, Nat.mod_eq_of_lt (by omega : n < 2 ^ 64), Nat.mod_eq_of_lt (by decide : 7 < 2 ^ 64), show (7 : Nat) = 2 ^ 3 - 1 from rfl, Nat.and_two_pow_sub_one_eq_mod]
  simp [IntKind.wrap, IntKind.bits, IntKind.signed]
  omega

theorem u8_and7 (a : Nat) (h : a < 256) : bits .and .u8 (a : Int) 7 = ((a % 8 : Nat) : Int) := by
  have : ∀ b : Fin 256, bits .and .u8 ((b.val : Nat) : Int) 7 = ((b.val % 8 : Nat) : Int) := by decide +kernel
  exact this ⟨a, h⟩

theorem or8 (a b : Nat) (hb : b < 8) (hs : a * 8 + b < 9223372036854775808) : bits .or .i64 ((a * 8 : Nat) : Int) (b : Int) = ((a * 8 + b : Nat) : Int) := by
  have h1 := Nat.shiftLeft_add_eq_or_of_lt (i := 3) (b := b) (by omega) a
  rw [Nat.shiftLeft_eq] at h1
  have h2 : a * 8 ||| b = a * 8 + b := h1.symm
  show IntKind.i64.wrap (((BitVec.ofInt 64 ((a * 8 : Nat) : Int) ||| BitVec.ofInt 64 (b : Int)).toNat : Nat) : Int) = _
  rw [BitVec.ofInt_natCast, BitVec.ofInt_natCast, BitVec.toNat_or, BitVec.toNat_ofNat, BitVec.toNat_ofNat, Nat.mod_eq_of_lt (by omega : a * 8 < 2 ^ 64), Nat.mod_eq_of_lt (by omega : b < 2 ^ 64), h2]
  simp [IntKind.wrap, IntKind.bits, IntKind.signed]
  omega

namespace Us
theorem oct_cons (i : Nat) : ∀ n, oct (i + 1) n = UInt8.ofNat (48 + n / 8 ^ i % 8) :: oct i n := by
  induction i with
  | zero => intro n; simp [oct]
  | succ i ih =>
    intro n
    rw [oct, ih (n / 8), oct, Nat.div_div_eq_div_mul, Nat.pow_succ, Nat.mul_comm 8]
    rfl
theorem splice_set1 {α : Type} (L : List α) (k : Nat) (cs : List α) (v : α) (h : k + 1 + cs.length ≤ L.length) : (splice L (k + 1) cs).set k v = splice L k (v :: cs) := by
  unfold splice
  rw [List.take_add_one, List.getElem?_eq_getElem (by omega)]
  have e : k + 1 + cs.length = k + (v :: cs).length := by simp; omega
  rw [e, List.set_append_left _ _ (by simp; omega), Option.toList_some, List.set_append_right _ _ (by simp; omega)]
  simp [List.length_take, show min k L.length = k by omega]
theorem octv_snoc (l : By) (c : UInt8) : octv (l ++ [c]) = octv l * 8 + c.toNat % 8 := by
  unfold octv; rw [List.foldl_append]; rfl
theorem octv_lt (l : By) : ∀ i, i ≤ l.length → octv (l.take i) < 8 ^ i := by
  intro i
  induction i with
  | zero => intro _; simp [octv]
  | succ i ih =>
    intro h
    rw [List.take_succ_eq_append_getElem (by omega), octv_snoc, Nat.pow_succ]
    have := ih (by omega)
    omega
end Us

set_option maxRecDepth 100000 in
set_option maxHeartbeats 1000000 in
theorem putOctal_any {w : World} {g o d c : Nat} {L : List Value} {t : TypeId} (hb : Blk w g L t) (hd : o + d ≤ L.length) (hL : L.length ≤ 4096) (n : Nat) (hn : n < 9223372036854775808) :
    Calls Try.prog 28 #[.slice (some ⟨g, o, none⟩) d c, .int .i64 (n : Int)] w fun e w' => e = .returned (.tuple #[]) ∧ Blk w' g (splice L o ((Us.oct d n).map byteV)) t ∧ Only (fun k => k = g) w w' := by
  have HB0 := Lib.hid hb; have HL := Lib.hid hL
  have hd4 : d ≤ 4096 := by omega
  have ho4 : o ≤ 4096 := by omega
  clear hb hL
  go_enter Try.func28, Try.ntmps28
  go_wp2
  go_loopw [1, 4] (fun nv iv wr => ∃ i : Nat, i ≤ d ∧ nv = .int .i64 ((n / 8 ^ i : Nat) : Int) ∧ iv = .int .i64 ((d : Int) - 1 - i) ∧ Blk wr g (splice L (o + (d - i)) ((Us.oct i n).map byteV)) t ∧ Only (fun k => k = g) w wr) (fun _ iv _ => (intOf iv + 1).toNat)
  case atStart => exact ⟨0, Nat.zero_le _, by simp, by simp, by
    have := HB0.out
    have e : splice L (o + (d - 0)) ((Us.oct 0 n).map byteV) = L := by simp [splice, Us.oct]
    rw [e]; exact this, Only.refl _ _⟩
  case round =>
    obtain ⟨i, hi, rfl, rfl, hb, ho⟩ := hrel
    by_cases hlt : i < d
    · obtain ⟨k, hk⟩ : ∃ k, d - i = k + 1 := ⟨d - i - 1, by omega⟩
      have hk1 : (d : Int) - 1 - i = (k : Int) := by omega
      rw [hk1]
      rw [hk, ← Nat.add_assoc] at hb
      have hlen : (splice L (o + k + 1) ((Us.oct i n).map byteV)).length = L.length := length_splice _ _ _ (by simp [Us.oct_len]; omega)
      have f1 := hb.frozen (o + k)
      have c1 : wr.cell? ⟨g, o + k, none⟩ = some ((splice L (o + k + 1) ((Us.oct i n).map byteV))[o + k]'(by rw [hlen]; omega)) := by rw [hb.cell]; exact List.getElem?_eq_getElem _
      generalize (splice L (o + k + 1) ((Us.oct i n).map byteV))[o + k]'(by rw [hlen]; omega) = old at c1
      have hs := hb.set (o + k) (byteV (UInt8.ofNat (48 + n / 8 ^ i % 8)))
      rw [Us.splice_set1 _ _ _ _ (by simp [Us.oct_len]; omega), ← List.map_cons, ← Us.oct_cons] at hs
      have HS := Lib.hid hs
      have HO := Lib.hid ho
      have hN := Nat.div_le_self n (8 ^ i)
      have hdd : n / 8 ^ i / 8 = n / 8 ^ (i + 1) := by rw [Nat.div_div_eq_div_mul, Nat.pow_succ]
      have HDD := Lib.hid hdd
      have hkd : k < d := by omega
      have hki : k + 1 + i = d := by omega
      have ev : byteV (UInt8.ofNat (48 + n / 8 ^ i % 8)) = .int .u8 (48 + ((n / 8 ^ i % 8 : Nat) : Int)) := by
        unfold byteV; rw [Us.digit_val]; push_cast; rfl
      rw [ev] at HS
      clear hb ho hs hlen hdd ev
      generalize n / 8 ^ i = N at *
      have hand := bits_and7 N (by omega)
      have hr : N % 8 < 8 := Nat.mod_lt _ (by decide)
      generalize hR : N % 8 = R at *
      have e1 : IntKind.u8.wrap (R : Int) = R := by rw [IntKind.wrap_u8]; omega
      have e2 : IntKind.u8.wrap (48 + (R : Int)) = 48 + R := by rw [IntKind.wrap_u8]; omega
      go_wp2
      refine ⟨⟨i + 1, by omega, by rw [← HDD.out]; rfl, by congr 1; omega, ?_, HO.out.trans (Only.setCell ⟨g, o + k, none⟩ _)⟩, by simp [intOf]⟩
      have e4 : d - (i + 1) = k := by omega
      rw [e4]
      exact HS.out
    · obtain rfl : i = d := by omega
      have e1 : (i : Int) - 1 - i = -1 := by omega
      rw [e1]
      rw [Nat.sub_self, Nat.add_zero] at hb
      have HB := Lib.hid hb
      have HO := Lib.hid ho
      clear hb ho
      go_wp2
      go_end0
      exact ⟨rfl, HB.out, HO.out⟩

/-- ustar.octal. -/
theorem octal_any {w : World} {S : Nat → Prop} {v : Value} {bs : List UInt8} (h : BytesAt w S v bs) (hl : bs.length ≤ 20) :
    Calls Try.prog 43 #[v] w fun e w' => e = .returned (.int .i64 ((Us.octv bs : Nat) : Int)) ∧ w' = w := by
  obtain ⟨va, vc, rfl⟩ := h.shape
  have HV := Lib.hid h
  clear h
  go_enter Try.func43, Try.ntmps43
  go_wp2
  go_loopw [3, 8] (fun nv iv wr => ∃ i : Nat, i ≤ bs.length ∧ nv = .int .i64 ((Us.octv (bs.take i) : Nat) : Int) ∧ iv = .int .i64 (i : Int) ∧ wr = w) (fun _ iv _ => bs.length - (intOf iv).toNat)
  case atStart => exact ⟨0, Nat.zero_le _, rfl, rfl, rfl⟩
  case round =>
    obtain ⟨i, hi, rfl, rfl, hw⟩ := hrel
    subst hw
    by_cases hlt : i < bs.length
    · have hlt2 := Us.octv_lt bs i hi
      have hp : (8 : Nat) ^ i ≤ 8 ^ 20 := Nat.pow_le_pow_right (by decide) (by omega)
      have hs := Us.octv_snoc (bs.take i) bs[i]
      rw [← List.take_succ_eq_append_getElem hlt] at hs
      obtain ⟨ad, rfl⟩ : ∃ ad, va = some ad := by
        rcases HV.out with ⟨e, h0⟩ | ⟨ad, c, e, _⟩
        · subst h0; simp at hlt
        · exact ⟨ad, (Value.slice.inj e).1⟩
      have c1 : wr.cell? (ad.add i) = some (byteV bs[i]) := by
        rcases HV.out with ⟨e, _⟩ | ⟨ad2, c, e, _, _, hc⟩
        · cases e
        · obtain ⟨e1, _, _⟩ := Value.slice.inj e
          cases e1
          exact hc i _ (List.getElem?_eq_getElem hlt)
      have hu := bs[i].toNat_lt
      have h7 := u8_and7 bs[i].toNat hu
      have h8 : bs[i].toNat % 8 < 8 := Nat.mod_lt _ (by decide)
      unfold byteV at c1
      generalize bs[i].toNat = x at *
      generalize x % 8 = r at *
      generalize Us.octv (bs.take i) = N at *
      have hN : N < 1152921504606846976 := by omega
      have HS := Lib.hid hs
      have e1 : IntKind.i64.wrap ((N : Int) * 8) = ((N * 8 : Nat) : Int) := by rw [IntWalk.i64_in _ (by omega)]; omega
      have e2 : bits .or .i64 ((N * 8 : Nat) : Int) (r : Int) = ((N * 8 + r : Nat) : Int) := or8 N r h8 (by omega)
      clear hs hp hlt2
      go_wp2
      exact ⟨⟨i + 1, by omega, by rw [HS.out, ← e2]; simp, by go_num, trivial⟩, by simp [intOf]; omega⟩
    · have hi2 : i = bs.length := by omega
      subst hi2
      rw [List.take_length]
      go_wp2
      go_ret
      exact ⟨rfl, rfl⟩

theorem fitsOctal_7 (n : Int) (w : World) : Calls Try.prog 35 #[.int .i64 n, .int .i64 7] w fun e w' => e = .returned (.bool (Us.okId n)) ∧ w' = w := by
  unfold Us.okId
  by_cases h0 : 0 ≤ n
  · by_cases h1 : n < 2097152
    · have e : (decide (0 ≤ n) && decide (n < 2097152)) = true := by simp [h0, h1]
      rw [e]
      go_enter Try.func35, Try.ntmps35
      go_wp2
      go_ret
      exact ⟨rfl, rfl⟩
    · have e : (decide (0 ≤ n) && decide (n < 2097152)) = false := by simp [h1]
      rw [e]
      go_enter Try.func35, Try.ntmps35
      go_wp2
      go_ret
      exact ⟨rfl, rfl⟩
  · have e : (decide (0 ≤ n) && decide (n < 2097152)) = false := by simp [h0]
    rw [e]
    go_enter Try.func35, Try.ntmps35
    go_wp2
    go_ret
    exact ⟨rfl, rfl⟩

theorem fitsOctal_11 (n : Int) (w : World) : Calls Try.prog 35 #[.int .i64 n, .int .i64 11] w fun e w' => e = .returned (.bool (Us.okTime n)) ∧ w' = w := by
  unfold Us.okTime
  by_cases h0 : 0 ≤ n
  · by_cases h1 : n < 8589934592
    · have e : (decide (0 ≤ n) && decide (n < 8589934592)) = true := by simp [h0, h1]
      rw [e]
      go_enter Try.func35, Try.ntmps35
      go_wp2
      go_ret
      exact ⟨rfl, rfl⟩
    · have e : (decide (0 ≤ n) && decide (n < 8589934592)) = false := by simp [h1]
      rw [e]
      go_enter Try.func35, Try.ntmps35
      go_wp2
      go_ret
      exact ⟨rfl, rfl⟩
  · have e : (decide (0 ≤ n) && decide (n < 8589934592)) = false := by simp [h0]
    rw [e]
    go_enter Try.func35, Try.ntmps35
    go_wp2
    go_ret
    exact ⟨rfl, rfl⟩

theorem fitsId_any (n : Int) (w : World) : Calls Try.prog 16 #[.int .i64 n] w fun e w' => e = .returned (.bool (Us.okId n)) ∧ w' = w := by
  have H := Lib.hid (fun W => fitsOctal_7 n W)
  go_enter Try.func16, Try.ntmps16
  go_wp2_with (go_at_call 35; refine (H.out _).mono ?_; rintro e w' ⟨rfl, rfl⟩)
  go_ret
  exact ⟨rfl, rfl⟩
theorem fitsTime_any (n : Int) (w : World) : Calls Try.prog 18 #[.int .i64 n] w fun e w' => e = .returned (.bool (Us.okTime n)) ∧ w' = w := by
  have H := Lib.hid (fun W => fitsOctal_11 n W)
  go_enter Try.func18, Try.ntmps18
  go_wp2_with (go_at_call 35; refine (H.out _).mono ?_; rintro e w' ⟨rfl, rfl⟩)
  go_ret
  exact ⟨rfl, rfl⟩

theorem r10id_any (n : Int) (w : World) : Calls Try.prog 17 #[.int .i64 n] w fun e w' => e = .returned (.bool (Us.okId n)) ∧ w' = w := by
  unfold Us.okId
  by_cases h0 : 0 ≤ n
  · by_cases h1 : n ≤ 2097151
    · have e : (decide (0 ≤ n) && decide (n < 2097152)) = true := by simp [h0]; omega
      rw [e]
      go_enter Try.func17, Try.ntmps17
      go_wp2
      go_ret
      exact ⟨rfl, rfl⟩
    · have e : (decide (0 ≤ n) && decide (n < 2097152)) = false := by simp; omega
      rw [e]
      go_enter Try.func17, Try.ntmps17
      go_wp2
      go_ret
      exact ⟨rfl, rfl⟩
  · have e : (decide (0 ≤ n) && decide (n < 2097152)) = false := by simp [h0]
    rw [e]
    go_enter Try.func17, Try.ntmps17
    go_wp2
    go_ret
    exact ⟨rfl, rfl⟩

theorem r10time_any (n : Int) (w : World) : Calls Try.prog 19 #[.int .i64 n] w fun e w' => e = .returned (.bool (Us.okTime n)) ∧ w' = w := by
  unfold Us.okTime
  by_cases h0 : 0 ≤ n
  · by_cases h1 : n ≤ 8589934591
    · have e : (decide (0 ≤ n) && decide (n < 8589934592)) = true := by simp [h0]; omega
      rw [e]
      go_enter Try.func19, Try.ntmps19
      go_wp2
      go_ret
      exact ⟨rfl, rfl⟩
    · have e : (decide (0 ≤ n) && decide (n < 8589934592)) = false := by simp; omega
      rw [e]
      go_enter Try.func19, Try.ntmps19
      go_wp2
      go_ret
      exact ⟨rfl, rfl⟩
  · have e : (decide (0 ≤ n) && decide (n < 8589934592)) = false := by simp [h0]
    rw [e]
    go_enter Try.func19, Try.ntmps19
    go_wp2
    go_ret
    exact ⟨rfl, rfl⟩

end Go.Proofs.Ytemfelonfokcnaa
