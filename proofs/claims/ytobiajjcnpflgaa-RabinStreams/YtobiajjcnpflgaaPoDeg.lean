/- poly.Deg, raised, Mul. Conditions: none. -/
import Derived.Test.YtobiajjcnpflgaaPoPure
import Derived.Test.YtobiajjcnpflgaaPoLen
namespace Go.Proofs.Ytobiajjcnpflgaa
open Go.RowKit

theorem deg_any {x : Nat} (hx : x < 18446744073709551616) (w : World) : Calls Try.prog 32 #[.int .u64 (x : Int)] w fun e w' => e = .returned (.int .i64 ((Lib.bitLen x : Int) - 1)) ∧ w = w' := by
  have hl := Gf.len_le hx
  go_enter Try.func32, Try.ntmps32
  go_wp2_with (go_at_call 44; refine (len64_any hx _).mono ?_; rintro e w' ⟨rfl, rfl⟩)
  go_ret
  refine ⟨?_, rfl⟩
  congr 2

theorem shl_word (p n : Nat) : (p : Int) * 2 ^ min n 64 % 18446744073709551616 = ((p * 2 ^ n % 18446744073709551616 : Nat) : Int) := by
  rcases Nat.lt_or_ge n 64 with h | h
  · rw [Nat.min_eq_left (by omega)]; simp
  · rw [Nat.min_eq_right h, show n = 64 + (n - 64) by omega, Nat.pow_add]
    have : p * (2 ^ 64 * 2 ^ (n - 64)) = 18446744073709551616 * (p * 2 ^ (n - 64)) := by
      rw [show (2 : Nat) ^ 64 = 18446744073709551616 by decide]; ac_rfl
    rw [this, Nat.mul_mod_right, show (2 : Int) ^ 64 = 18446744073709551616 by decide]
    omega
theorem shr_word (p n : Nat) (hp : p < 18446744073709551616) : (p : Int) / 2 ^ min n 64 = ((p / 2 ^ n : Nat) : Int) := by
  rcases Nat.lt_or_ge n 64 with h | h
  · rw [Nat.min_eq_left (by omega)]; simp
  · rw [Nat.min_eq_right h]
    have h1 : p / 2 ^ n = 0 := Nat.div_eq_of_lt (Nat.lt_of_lt_of_le hp (by rw [show 18446744073709551616 = 2 ^ 64 by decide]; exact Nat.pow_le_pow_right (by omega) h))
    rw [h1, show (2 : Int) ^ 64 = 18446744073709551616 by decide]
    omega

theorem wrap_shl (p n : Nat) : IntKind.u64.wrap ((p : Int) * 2 ^ min n 64) = ((p * 2 ^ n % 18446744073709551616 : Nat) : Int) := by
  rw [← shl_word]
  simp [IntKind.wrap, IntKind.bits, IntKind.signed]

theorem raise_split {p n : Nat} (h : 64 ≤ n) : p * 2 ^ n = 18446744073709551616 * (p * 2 ^ (n - 64)) := by
  rw [show n = 64 + (n - 64) by omega, Nat.pow_add, show (2 : Nat) ^ 64 = 18446744073709551616 by decide, show 64 + (n - 64) - 64 = n - 64 by omega]; ac_rfl
theorem high_part {p n : Nat} (h : 64 ≤ n) (hb : p * 2 ^ n < 2 ^ 128) : p * 2 ^ (n - 64) % 18446744073709551616 = p * 2 ^ n / 18446744073709551616 := by
  rw [raise_split h] at hb ⊢
  rw [show (2 : Nat) ^ 128 = 18446744073709551616 * 18446744073709551616 by decide] at hb
  generalize p * 2 ^ (n - 64) = q at *
  omega
theorem low_part {p n : Nat} (h : 64 ≤ n) : p * 2 ^ n % 18446744073709551616 = 0 := by
  rw [raise_split h]; omega
theorem high_small {p n : Nat} (h : n < 64) : p / 2 ^ (64 - n) = p * 2 ^ n / 18446744073709551616 := by
  rw [show 18446744073709551616 = 2 ^ (64 - n) * 2 ^ n by rw [← Nat.pow_add, show 64 - n + n = 64 by omega], Nat.mul_div_mul_right _ _ (Nat.two_pow_pos n)]

/-- Nothing that lay has turned. -/
abbrev Quiet (w w' : World) : Prop := Only (fun _ => False) w w'

/-- Two words are answered, which are the number P. -/
def Pair (w : World) (P : Nat) (e : Ending) (w' : World) : Prop := ∃ h l : Nat, e = .returned (.tuple #[.int .u64 (h : Int), .int .u64 (l : Int)]) ∧ Gf.pr h l = P ∧ h < 18446744073709551616 ∧ l < 18446744073709551616 ∧ Quiet w w'

theorem pair_of {P : Nat} (h : P < 2 ^ 128) : Gf.pr (P / 18446744073709551616) (P % 18446744073709551616) = P ∧ P / 18446744073709551616 < 18446744073709551616 ∧ P % 18446744073709551616 < 18446744073709551616 := by
  rw [show (2 : Nat) ^ 128 = 340282366920938463463374607431768211456 by decide] at h
  exact ⟨Gf.pr_split P, by omega, by omega⟩

theorem raised_any {p n : Nat} (hp : p < 18446744073709551616) (hn : n < 9223372036854775808) (hb : p * 2 ^ n < 2 ^ 128) (w : World) : Calls Try.prog 56 #[.int .u64 (p : Int), .int .i64 (n : Int)] w (Pair w (p * 2 ^ n)) := by
  have hP := pair_of hb
  rcases Nat.lt_or_ge n 64 with h | h
  · have h1 : ¬ (n : Int) ≥ 64 := by omega
    have h2 : ¬ (64 - (n : Int)) < 0 := by omega
    have e1 := shr_word p (64 - n) hp
    have e2 := wrap_shl p n
    rw [Nat.min_eq_left (by omega)] at e1 e2
    rw [high_small h] at e1
    go_enter Try.func56, Try.ntmps56
    go_wp2
    go_region
    all_goals (try go_wp2)
    go_ret2
    exact ⟨p * 2 ^ n / 18446744073709551616, p * 2 ^ n % 18446744073709551616, by first | rfl | rw [e1, e2] | rw [e1], hP.1, hP.2.1, hP.2.2, Only.drew⟩
  · have h1 : (n : Int) ≥ 64 := by omega
    go_enter Try.func56, Try.ntmps56
    go_wp2
    go_ret2
    have e1 : IntKind.u64.wrap ((p : Int) * 2 ^ min (n - 64) 64) = ((p * 2 ^ n / 18446744073709551616 : Nat) : Int) := by
      rw [wrap_shl, high_part h hb]
    exact ⟨_, _, by rw [← e1, low_part h]; rfl, hP.1, hP.2.1, hP.2.2, Only.refl _ _⟩

theorem bit_at {b : Nat} (hb : b < 18446744073709551616) (k : Nat) : bits .and .u64 ((b : Int) / 2 ^ k) 1 = ((b / 2 ^ k % 2 : Nat) : Int) := by
  have h1 : b / 2 ^ k < 18446744073709551616 := Nat.lt_of_le_of_lt (Nat.div_le_self _ _) hb
  have := bits_and_u64 (b / 2 ^ k) 1 h1 (by omega)
  rw [Nat.and_one_is_mod] at this
  rw [← this]
  simp

set_option maxRecDepth 100000 in
/-- poly.Mul is the product. -/
theorem mul_any {a b : Nat} (ha : a < 18446744073709551616) (hb : b < 18446744073709551616) (w : World) : Calls Try.prog 57 #[.int .u64 (a : Int), .int .u64 (b : Int)] w (Pair w (Gf.mul a b)) := by
  have HR : Hid (∀ (k : Nat) (W : World), k < 64 → Calls Try.prog 56 #[.int .u64 (a : Int), .int .i64 (k : Int)] W (Pair W (a * 2 ^ k))) := fun k W hk =>
    raised_any ha (by omega) (by
      rw [show (2 : Nat) ^ 128 = 18446744073709551616 * 2 ^ 64 by decide]
      exact Nat.lt_of_lt_of_le (Nat.mul_lt_mul_of_pos_right ha (Nat.two_pow_pos k)) (Nat.mul_le_mul_left _ (Nat.pow_le_pow_right (by omega) (by omega)))) W
  go_enter Try.func57, Try.ntmps57
  go_wp2
  go_loopw [6, 7, 11] (fun hv lv iv wr => ∃ (H L k : Nat), hv = .int .u64 (H : Int) ∧ lv = .int .u64 (L : Int) ∧ iv = .int .i64 (k : Int) ∧ H < 18446744073709551616 ∧ L < 18446744073709551616 ∧ k ≤ 64 ∧ Gf.pr H L = Gf.mul a (b % 2 ^ k) ∧ Quiet w wr) (fun _ _ iv _ => 64 - (intOf iv).toNat)
  case atStart => exact ⟨0, 0, 0, rfl, rfl, rfl, by omega, by omega, by omega, by simp [Gf.pr, Nat.mod_one, Gf.mul_zero], Only.refl _ _⟩
  case round =>
    obtain ⟨H, L, k, rfl, rfl, rfl, hH, hL, hk, he, hq⟩ := hrel
    have HE := Lib.hid he
    have HQ := Lib.hid hq
    have hbt := bit_at hb k
    have HN := Lib.hid (Gf.mul_bit_next a b k)
    clear he hq
    rcases (show k = 64 ∨ k < 64 by omega) with rfl | hk'
    · go_wp2
      go_ret2
      refine ⟨H, L, rfl, ?_, hH, hL, HQ.out⟩
      rw [HE.out, Nat.mod_eq_of_lt hb]
    · have h1 : (k : Int) < 64 := by omega
      rcases Nat.mod_two_eq_zero_or_one (b / 2 ^ k) with hbit | hbit
      · rw [hbit] at hbt
        go_wp2
        go_roundw
        case rel =>
          refine ⟨H, L, k + 1, rfl, rfl, by simp, hH, hL, by omega, ?_, HQ.out⟩
          rw [HE.out, HN.out, hbit]; simp
        case measure => simp [intOf]; omega
      · rw [hbit] at hbt
        go_wp2_with (go_at_call 56; refine (HR.out k _ hk').mono ?_; rintro e w' ⟨h, l, rfl, hP, hh, hl, hq2⟩; have HP := Lib.hid hP; have HQ2 := Lib.hid hq2; have ex1 := bits_xor_u64 H h hH hh; have ex2 := bits_xor_u64 L l hL hl; clear hP hq2)
        go_roundw
        case rel =>
          refine ⟨H ^^^ h, L ^^^ l, k + 1, rfl, rfl, by simp, Gf.xor64 hH hh, Gf.xor64 hL hl, by omega, ?_, HQ.out.trans HQ2.out⟩
          rw [Gf.pr_xor hL hl, HE.out, HP.out, HN.out, hbit]; simp
        case measure => simp [intOf]; omega

end Go.Proofs.Ytobiajjcnpflgaa
