/- The document's own Mod. Conditions: none. -/
import Derived.Test.YtobiajjcnpflgaaPoRef
import Derived.Test.YtobiajjcnpflgaaPoRem
namespace Go.Proofs.Ytobiajjcnpflgaa
open Go.RowKit

theorem or_word {r b : Nat} (hr : 2 * r < 18446744073709551616) (hb : b < 2) : bits .or .u64 ((r : Int) * 2) (b : Int) = ((2 * r + b : Nat) : Int) := by
  have := bits_or_u64 (2 * r) b hr (by omega)
  rw [Gf.or_bit r b hb] at this
  rw [← this, show ((2 * r : Nat) : Int) = (r : Int) * 2 by omega]

set_option maxRecDepth 100000 in
/-- The document's remainder by what isn't 0. -/
theorem r6mod_any {hi lo m : Nat} (hh : hi < 18446744073709551616) (hl : lo < 18446744073709551616) (h64 : m < 18446744073709551616) (hm : m ≠ 0) (w : World) :
    Calls Try.prog 37 #[.int .u64 (hi : Int), .int .u64 (lo : Int), .int .u64 (m : Int)] w (Word w (Gf.rm m (Gf.pr hi lo))) := by
  obtain ⟨hl1, htop⟩ := Gf.len_top hm h64
  have hle := Gf.len_le h64
  obtain ⟨D, hD⟩ : ∃ D, D = Lib.bitLen m - 1 := ⟨_, rfl⟩
  rw [← hD] at htop
  have HD : Hid (∀ W : World, Calls Try.prog 39 #[.int .u64 (m : Int)] W fun e w' => e = .returned (.int .i64 (D : Int)) ∧ W = w') := fun W =>
    (r6deg_any h64 W).mono fun e w' ⟨he, hw⟩ => ⟨by rw [he, show (Lib.bitLen m : Int) - 1 = (D : Int) by omega], hw⟩
  have hD64 : D ≤ 63 := by omega
  have hPlt := Gf.pr_lt hh hl
  have HT := Lib.hid htop
  obtain ⟨P, hP⟩ : ∃ P, P = Gf.pr hi lo := ⟨_, rfl⟩
  rw [← hP] at hPlt ⊢
  have HP := Lib.hid hP
  clear htop hle hl1 hD hP
  go_enter Try.func37, Try.ntmps37
  go_wp2_with (go_at_call 39; refine (HD.out _).mono ?_; rintro e w' ⟨rfl, rfl⟩)
  go_loop [0, 1, 8, 9] (fun hv lv rv iv => ∃ (H L r k : Nat), hv = .int .u64 (H : Int) ∧ lv = .int .u64 (L : Int) ∧ rv = .int .u64 (r : Int) ∧ iv = .int .i64 (k : Int) ∧ Gf.pr H L = P * 2 ^ k % 2 ^ 128 ∧ H < 18446744073709551616 ∧ L < 18446744073709551616 ∧ k ≤ 128 ∧ r = Gf.rm m (P / 2 ^ (128 - k))) (fun _ _ _ iv => 128 - (intOf iv).toNat)
  case atStart =>
    refine ⟨hi, lo, 0, 0, rfl, rfl, rfl, rfl, by rw [Nat.pow_zero, Nat.mul_one, Nat.mod_eq_of_lt hPlt, HP.out], hh, hl, by omega, ?_⟩
    rw [show P / 2 ^ (128 - 0) = 0 from Nat.div_eq_of_lt hPlt]
    exact (Gf.rm_of hm (Gf.rem_zero m)).symm
  case round =>
    obtain ⟨H, L, r, k, rfl, rfl, rfl, rfl, he, hH, hL, hk, hr⟩ := hrel
    have HE := Lib.hid he
    have HRR := Lib.hid hr
    rcases (show k = 128 ∨ k < 128 by omega) with rfl | hk'
    · clear he hr
      go_wp2
      go_ret
      refine ⟨?_, Only.refl _ _⟩
      have := HRR.out
      rw [show P / 2 ^ (128 - 128) = P by simp] at this
      rw [this]; rfl
    · have h1 : (k : Int) < 128 := by omega
      obtain ⟨H', L', eh, el, hH', hL', hd, hbit, _⟩ := Gf.dbl_words (H := H) hL
      have eb : (H : Int) / 9223372036854775808 = ((H / 9223372036854775808 : Nat) : Int) := by simp
      rcases (show D = 0 ∨ 1 ≤ D by omega) with hD0 | hD1
      · subst hD0
        have hm1 : m = 1 := by have h2 := HT.out.1; have h3 := HT.out.2; simp at h2 h3; omega
        have HN := Lib.hid (Gf.taken_gen (P := P) hk').2.2
        have HDD := Lib.hid hd
        clear he hr hd hbit eb
        go_wp2
        go_round
        case rel =>
          refine ⟨H', L', r, k + 1, rfl, rfl, rfl, by simp, by rw [HDD.out, HE.out, HN.out], hH', hL', by omega, ?_⟩
          rw [HRR.out, hm1, Gf.rm_one, Gf.rm_one]
        case measure => simp [intOf]; omega
      · have HR := Lib.hid (Gf.mod_round HT.out hk' hD1 he hr hbit)
        have HDD := Lib.hid hd
        have hrlt := HR.out.2.2.1
        have hblt := HR.out.2.2.2.1
        have hr63 : 2 * r < 18446744073709551616 := by
          have : 2 ^ D ≤ 2 ^ 63 := Nat.pow_le_pow_right (by omega) hD64
          rw [show (2 : Nat) ^ 63 = 9223372036854775808 by decide] at this
          omega
        have hr64 : r < 18446744073709551616 := by omega
        have et := bit_at hr64 (D - 1)
        generalize hB : H / 9223372036854775808 = B at *
        have eo := or_word hr63 hblt
        have hs : 2 * r + B < 18446744073709551616 := by omega
        have ex := bits_xor_u64 (2 * r + B) m hs h64
        have hX := Gf.xor64 hs h64
        generalize hXX : (2 * r + B) ^^^ m = X at *
        generalize hSS : 2 * r + B = S at *
        clear he hr hd hbit
        have hDn : ¬ (D : Int) = 0 := by omega
        rcases Nat.mod_two_eq_zero_or_one (r / 2 ^ (D - 1)) with ht | ht
        · rw [ht] at et
          go_wp2
          go_round
          case rel => exact ⟨H', L', S, k + 1, rfl, rfl, rfl, by simp, by rw [HDD.out, HR.out.2.2.2.2], hH', hL', by omega, HR.out.1 ht⟩
          case measure => simp [intOf]; omega
        · rw [ht] at et
          go_wp2
          go_round
          case rel => exact ⟨H', L', X, k + 1, rfl, rfl, rfl, by simp, by rw [HDD.out, HR.out.2.2.2.2], hH', hL', by omega, HR.out.2.1 ht⟩
          case measure => simp [intOf]; omega

end Go.Proofs.Ytobiajjcnpflgaa
