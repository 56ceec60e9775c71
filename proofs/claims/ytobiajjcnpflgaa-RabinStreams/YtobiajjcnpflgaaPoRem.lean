/- poly.remainder, Mod, times. Conditions: none. -/
import Derived.Test.YtobiajjcnpflgaaPoDeg
namespace Go.Proofs.Ytobiajjcnpflgaa
open Go.RowKit

/-- A word is answered. -/
def Word (w : World) (n : Nat) (e : Ending) (w' : World) : Prop := e = .returned (.int .u64 (n : Int)) ∧ Quiet w w'

/-- One step of the division: the degree of the upper word goes down. -/
theorem rem_high {m H L : Nat} (hm : m ≠ 0) (h64 : m < 18446744073709551616) (hH : H < 18446744073709551616) (hL : L < 18446744073709551616) (h0 : H ≠ 0) {h l : Nat}
    (hp : Gf.pr h l = m * 2 ^ (64 + Lib.bitLen H - Lib.bitLen m)) (hl : l < 18446744073709551616) :
    H ^^^ h < H ∧ Gf.Cg m (Gf.pr H L) (Gf.pr (H ^^^ h) (L ^^^ l)) := by
  obtain ⟨h1, ht⟩ := Gf.len_top h0 hH
  obtain ⟨h2, hd⟩ := Gf.len_top hm h64
  have hle := Gf.len_le h64
  have hs := Gf.top_shift (64 + Lib.bitLen H - Lib.bitLen m) hd
  rw [← hp, show Lib.bitLen m - 1 + (64 + Lib.bitLen H - Lib.bitLen m) = (Lib.bitLen H - 1) + 64 by omega] at hs
  have hq := Gf.top_div hs
  have e : Gf.pr h l / 2 ^ 64 = h := by
    rw [show (2 : Nat) ^ 64 = 18446744073709551616 by decide]; unfold Gf.pr; omega
  rw [e] at hq
  refine ⟨Nat.lt_of_lt_of_le (Gf.top_two ht hq) ht.1, ?_⟩
  rw [Gf.pr_xor hL hl, hp]
  unfold Gf.Cg
  rw [← Nat.xor_assoc, Nat.xor_self, Nat.zero_xor, ← Gf.mul_shift, Gf.mul_comm]
  exact (Gf.Dvd.refl m).mul _
theorem rem_high_fits {m H : Nat} (hm : m ≠ 0) (h64 : m < 18446744073709551616) (hH : H < 18446744073709551616) (h0 : H ≠ 0) : m * 2 ^ (64 + Lib.bitLen H - Lib.bitLen m) < 2 ^ 128 := by
  obtain ⟨h1, ht⟩ := Gf.len_top h0 hH
  obtain ⟨h2, hd⟩ := Gf.len_top hm h64
  have hle := Gf.len_le h64
  have hle2 := Gf.len_le hH
  have hs := (Gf.top_shift (64 + Lib.bitLen H - Lib.bitLen m) hd).2
  exact Nat.lt_of_lt_of_le hs (Nat.pow_le_pow_right (by omega) (by omega))
theorem rem_low {m L : Nat} (hm : m ≠ 0) (h64 : m < 18446744073709551616) (hL : L < 18446744073709551616) (hd : Lib.bitLen m ≤ Lib.bitLen L) :
    m * 2 ^ (Lib.bitLen L - Lib.bitLen m) < 18446744073709551616 ∧ L ^^^ (m * 2 ^ (Lib.bitLen L - Lib.bitLen m)) < L ∧ Gf.Cg m L (L ^^^ (m * 2 ^ (Lib.bitLen L - Lib.bitLen m))) := by
  obtain ⟨h2, ht⟩ := Gf.len_top hm h64
  have h0 : L ≠ 0 := by rintro rfl; rw [Gf.len_zero] at hd; omega
  obtain ⟨h3, hl⟩ := Gf.len_top h0 hL
  have hle := Gf.len_le hL
  have hs := Gf.top_shift (Lib.bitLen L - Lib.bitLen m) ht
  rw [show Lib.bitLen m - 1 + (Lib.bitLen L - Lib.bitLen m) = Lib.bitLen L - 1 by omega] at hs
  refine ⟨?_, Nat.lt_of_lt_of_le (Gf.top_two hl hs) hl.1, ?_⟩
  · refine Nat.lt_of_lt_of_le hs.2 ?_
    rw [show 18446744073709551616 = 2 ^ 64 by decide]
    exact Nat.pow_le_pow_right (by omega) (by omega)
  · unfold Gf.Cg
    rw [← Nat.xor_assoc, Nat.xor_self, Nat.zero_xor, ← Gf.mul_shift, Gf.mul_comm]
    exact (Gf.Dvd.refl m).mul _
theorem rem_end {m P L : Nat} (hm : m ≠ 0) (h64 : m < 18446744073709551616) (hL : L < 18446744073709551616) (hd : Lib.bitLen L < Lib.bitLen m) (hc : Gf.Cg m P L) : Gf.rm m P = L := by
  obtain ⟨h2, ht⟩ := Gf.len_top hm h64
  exact Gf.rm_of hm (Gf.rem_cg hc (Gf.rem_small ht (Gf.len_lt hL (by omega))))

set_option maxRecDepth 100000 in
/-- The remainder by what isn't 0. -/
theorem remainder_any {hi lo m : Nat} (hh : hi < 18446744073709551616) (hl : lo < 18446744073709551616) (h64 : m < 18446744073709551616) (hm : m ≠ 0) (w : World) :
    Calls Try.prog 49 #[.int .u64 (hi : Int), .int .u64 (lo : Int), .int .u64 (m : Int)] w (Word w (Gf.rm m (Gf.pr hi lo))) := by
  have HD : Hid (∀ (x : Nat) (W : World), x < 18446744073709551616 → Calls Try.prog 32 #[.int .u64 (x : Int)] W fun e w' => e = .returned (.int .i64 ((Lib.bitLen x : Int) - 1)) ∧ W = w') := fun x W hx => deg_any hx W
  have HR : Hid (∀ (H : Nat) (W : World), H < 18446744073709551616 → H ≠ 0 → Calls Try.prog 56 #[.int .u64 (m : Int), .int .i64 ((64 + Lib.bitLen H - Lib.bitLen m : Nat) : Int)] W (Pair W (m * 2 ^ (64 + Lib.bitLen H - Lib.bitLen m)))) := fun H W hH h0 =>
    raised_any h64 (by have := Gf.len_le hH; omega) (rem_high_fits hm h64 hH h0) W
  have hdm := Gf.len_le h64
  have hdm1 := (Gf.len_top hm h64).1
  go_enter Try.func49, Try.ntmps49
  go_wp2_with (go_at_call 32; refine (HD.out m _ h64).mono ?_; rintro e w' ⟨rfl, rfl⟩)
  go_loopw [0, 1] (fun hv lv wr => ∃ (H L : Nat), hv = .int .u64 (H : Int) ∧ lv = .int .u64 (L : Int) ∧ H < 18446744073709551616 ∧ L < 18446744073709551616 ∧ Gf.Cg m (Gf.pr hi lo) (Gf.pr H L) ∧ Quiet w wr) (fun hv _ _ => (intOf hv).toNat)
  case atStart => exact ⟨hi, lo, rfl, rfl, hh, hl, Gf.Cg.refl _ _, Only.refl _ _⟩
  case round =>
    obtain ⟨H, L, rfl, rfl, hH, hL, hc, hq⟩ := hrel
    have HC := Lib.hid hc
    have HQ := Lib.hid hq
    clear hc hq
    have hdH := Gf.len_le hH
    by_cases h0 : H = 0
    · subst h0
      rw [show ((0 : Nat) : Int) = 0 from rfl]
      go_wp2
      go_loopw [1] (fun lv wr => ∃ L : Nat, lv = .int .u64 (L : Int) ∧ L < 18446744073709551616 ∧ Gf.Cg m (Gf.pr hi lo) L ∧ Quiet w wr) (fun lv _ => (intOf lv).toNat)
      case atStart => exact ⟨L, rfl, hL, by have := HC.out; rwa [Gf.pr_lo] at this, HQ.out⟩
      case round =>
        clear HC HQ
        obtain ⟨L, rfl, hL, hc, hq⟩ := hrel
        have HC := Lib.hid hc
        have HQ := Lib.hid hq
        clear hc hq
        have hdL := Gf.len_le hL
        by_cases hd : Lib.bitLen m ≤ Lib.bitLen L
        · obtain ⟨hf, hlt, hcg⟩ := rem_low hm h64 hL hd
          have HG := Lib.hid hcg
          have HLT := Lib.hid hlt
          have hge : (Lib.bitLen L : Int) - 1 ≥ (Lib.bitLen m : Int) - 1 := by omega
          have hnn : ¬ ((Lib.bitLen L : Int) - 1 - ((Lib.bitLen m : Int) - 1)) < 0 := by omega
          have es := wrap_shl m (Lib.bitLen L - Lib.bitLen m)
          rw [Nat.mod_eq_of_lt hf, Nat.min_eq_left (by omega)] at es
          generalize hX : m * 2 ^ (Lib.bitLen L - Lib.bitLen m) = X at *
          rw [show Lib.bitLen L - Lib.bitLen m = Lib.bitLen L - 1 - (Lib.bitLen m - 1) by omega] at es
          have ex := bits_xor_u64 L _ hL hf
          clear hcg hlt
          go_wp2_with (go_at_call 32; refine (HD.out L _ hL).mono ?_; rintro e w' ⟨rfl, rfl⟩)
          go_roundw
          case rel => exact ⟨L ^^^ X, rfl, Gf.xor64 hL hf, HC.out.trans HG.out, HQ.out⟩
          case measure => have := HLT.out; simp [intOf]; omega
        · have hge : ¬ (Lib.bitLen L : Int) - 1 ≥ (Lib.bitLen m : Int) - 1 := by omega
          go_wp2_with (go_at_call 32; refine (HD.out L _ hL).mono ?_; rintro e w' ⟨rfl, rfl⟩)
          go_ret
          exact ⟨by rw [rem_end hm h64 hL (by omega) HC.out]; rfl, HQ.out⟩
    · have h0' : ¬ (H : Int) = 0 := by omega
      go_wp2_with (first
        | (go_at_call 32; refine (HD.out H _ hH).mono ?_; rintro e w' ⟨rfl, rfl⟩)
        | (go_at_call 56; rw [show (64 + ((Lib.bitLen H : Int) - 1) - ((Lib.bitLen m : Int) - 1)) = ((64 + Lib.bitLen H - Lib.bitLen m : Nat) : Int) by omega]; refine (HR.out H _ hH h0).mono ?_; rintro e w' ⟨h, l, rfl, hP, hh, hl, hq2⟩; have HP := Lib.hid hP; have HQ2 := Lib.hid hq2; have ex1 := bits_xor_u64 H h hH hh; have ex2 := bits_xor_u64 L l hL hl; clear hP hq2))
      go_roundw
      case rel =>
        obtain ⟨_, hcg⟩ := rem_high hm h64 hH hL h0 HP.out hl
        exact ⟨H ^^^ h, L ^^^ l, rfl, rfl, Gf.xor64 hH hh, Gf.xor64 hL hl, HC.out.trans hcg, HQ.out.trans HQ2.out⟩
      case measure =>
        have := (rem_high hm h64 hH hL h0 HP.out hl).1
        simp [intOf]; omega

/-- poly.Mod. -/
theorem mod_any {hi lo m : Nat} (hh : hi < 18446744073709551616) (hl : lo < 18446744073709551616) (h64 : m < 18446744073709551616) (hm : m ≠ 0) (w : World) :
    Calls Try.prog 36 #[.int .u64 (hi : Int), .int .u64 (lo : Int), .int .u64 (m : Int)] w fun e w' => e = .returned (.tuple #[.int .u64 (Gf.rm m (Gf.pr hi lo) : Int), .nilIface]) ∧ Quiet w w' := by
  have HR := Lib.hid (fun W => remainder_any hh hl h64 hm W)
  have h0 : ¬ (m : Int) = 0 := by omega
  generalize Gf.rm m (Gf.pr hi lo) = R at *
  go_enter Try.func36, Try.ntmps36
  go_wp2_with (go_at_call 49; refine (HR.out _).mono ?_; rintro e w' ⟨rfl, hq⟩; have HQ := Lib.hid hq; clear hq)
  go_ret2
  exact ⟨rfl, HQ.out⟩
theorem mod_zero (hi lo : Int) (w : World) :
    Calls Try.prog 36 #[.int .u64 hi, .int .u64 lo, .int .u64 0] w fun e w' => e = .returned (.tuple #[.int .u64 0, errV 27]) ∧ w = w' := by
  go_enter Try.func36, Try.ntmps36
  go_wp2
  go_ret2
  exact ⟨rfl, rfl⟩

/-- The remainder of a product of two. -/
theorem times_any {a b m : Nat} (ha : a < 18446744073709551616) (hb : b < 18446744073709551616) (h64 : m < 18446744073709551616) (hm : m ≠ 0) (w : World) :
    Calls Try.prog 54 #[.int .u64 (a : Int), .int .u64 (b : Int), .int .u64 (m : Int)] w (Word w (Gf.rm m (Gf.mul a b))) := by
  have HM := Lib.hid (fun W => mul_any ha hb W)
  have HR : Hid (∀ (h l : Nat) (W : World), h < 18446744073709551616 → l < 18446744073709551616 → Calls Try.prog 49 #[.int .u64 (h : Int), .int .u64 (l : Int), .int .u64 (m : Int)] W (Word W (Gf.rm m (Gf.pr h l)))) := fun h l W hh hl => remainder_any hh hl h64 hm W
  generalize Gf.mul a b = P at *
  go_enter Try.func54, Try.ntmps54
  go_wp2_with (first
    | (go_at_call 57; refine (HM.out _).mono ?_; rintro e w' ⟨h, l, rfl, hP, hh, hl, hq⟩; have HP := Lib.hid hP; have HQ := Lib.hid hq; clear hP hq)
    | (go_at_call 49; refine (HR.out h l _ hh hl).mono ?_; rintro e w2 ⟨rfl, hq⟩; have HQ2 := Lib.hid hq; clear hq))
  go_ret
  exact ⟨by rw [HP.out]; rfl, HQ.out.trans HQ2.out⟩

end Go.Proofs.Ytobiajjcnpflgaa
