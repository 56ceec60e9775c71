/- The document's own Gcd, MulMod, Power. Conditions: rows within the reach. -/
import Derived.Test.YtfbnpafanjppbaaPoRefM
import Derived.Test.YtfbnpafanjppbaaPoSq
namespace Go.Proofs.Ytfbnpafanjppbaa
open Go.RowKit

theorem r6mod0_any {a m : Nat} (ha : a < 18446744073709551616) (h64 : m < 18446744073709551616) (hm : m ≠ 0) (w : World) : Calls Try.prog 16 #[.int .u64 0, .int .u64 (a : Int), .int .u64 (m : Int)] w (Word w (Gf.rm m a)) := by
  have := r6mod_any (hi := 0) (by omega) ha h64 hm w
  rwa [Gf.pr_lo] at this

set_option maxRecDepth 100000 in
theorem r6gcd_any {a b : Nat} (ha : a < 18446744073709551616) (hb : b < 18446744073709551616) (w : World) : Calls Try.prog 22 #[.int .u64 (a : Int), .int .u64 (b : Int)] w (Word w (Gf.gc a b)) := by
  have HR : Hid (∀ (a m : Nat) (W : World), a < 18446744073709551616 → m < 18446744073709551616 → m ≠ 0 → Calls Try.prog 16 #[.int .u64 0, .int .u64 (a : Int), .int .u64 (m : Int)] W (Word W (Gf.rm m a))) := fun a m W ha h64 hm => r6mod0_any ha h64 hm W
  go_enter Try.func22, Try.ntmps22
  go_wp2
  go_loopw [0, 1] (fun dv pv wr => ∃ d p : Nat, dv = .int .u64 (d : Int) ∧ pv = .int .u64 (p : Int) ∧ d < 18446744073709551616 ∧ p < 18446744073709551616 ∧ Gf.gc a b = Gf.gc d p ∧ Quiet w wr) (fun _ pv _ => (intOf pv).toNat)
  case atStart => exact ⟨a, b, rfl, rfl, ha, hb, rfl, Only.refl _ _⟩
  case round =>
    obtain ⟨d, p, rfl, rfl, hd, hp, hg, hq⟩ := hrel
    have HQ := Lib.hid hq
    have HG := Lib.hid hg
    clear hq hg
    by_cases h0 : p = 0
    · subst h0
      have hg := HG.out
      rw [Gf.gc_zero] at hg
      have HG2 := Lib.hid hg
      clear hg HG
      rw [show ((0 : Nat) : Int) = 0 from rfl]
      go_wp2
      go_ret
      exact ⟨by rw [HG2.out]; rfl, HQ.out⟩
    · have h0' : ¬ (p : Int) = 0 := by omega
      have HX := Lib.hid (fun W => HR.out d p W hd hp h0)
      have hY := Gf.rm_64 d hp
      have hlt2 := Gf.rm_le d h0
      have HY := Lib.hid (Gf.gc_step (a := d) h0)
      generalize Gf.rm p d = Y at *
      go_wp2_with (go_at_call 16; refine (HX.out _).mono ?_; rintro e w2 ⟨rfl, hq⟩; have HQ2 := Lib.hid hq; clear hq)
      go_roundw
      case rel => exact ⟨p, Y, rfl, rfl, hp, hY, by rw [HG.out, HY.out], HQ.out.trans HQ2.out⟩
      case measure => simp [intOf]; omega

set_option maxRecDepth 100000 in
theorem r6mulmod_any {w : World} {S : Nat → Prop} {v : Value} {xs : List Nat} {m : Nat} (hv : NumsAt w S v xs) (hS : ∀ k, S k → k < w.heap.size) (hn : xs.length ≤ 140737488355328) (h64 : m < 18446744073709551616) (hm : m ≠ 0) :
    Calls Try.prog 18 #[.int .u64 (m : Int), v] w fun e w' => e = .returned (.tuple #[.int .u64 (Gf.rm m (Gf.pd xs) : Int), .int .i64 0]) ∧ Quiet w w' := by
  have HR := Lib.hid (fun W => r6mod0_any (a := 1) (by omega) h64 hm W)
  have HM : Hid (∀ (a b : Nat) (W : World), a < 18446744073709551616 → b < 18446744073709551616 → Calls Try.prog 11 #[.int .u64 (a : Int), .int .u64 (b : Int)] W (Pair W (Gf.mul a b))) := fun a b W ha hb => r6mul_any ha hb W
  have HD : Hid (∀ (h l : Nat) (W : World), h < 18446744073709551616 → l < 18446744073709551616 → Calls Try.prog 16 #[.int .u64 (h : Int), .int .u64 (l : Int), .int .u64 (m : Int)] W (Word W (Gf.rm m (Gf.pr h l)))) := fun h l W hh hl => r6mod_any hh hl h64 hm W
  have h0 : ¬ (m : Int) = 0 := by omega
  have HV := Lib.hid hv
  have HS := Lib.hid hS
  obtain ⟨va, vc, rfl, hcp, _⟩ := hv
  clear hS
  have e1 : Gf.rm m 1 = Gf.rm m (Gf.pd (xs.take 0)) := rfl
  rw [e1] at HR
  have hR := Gf.rm_64 (Gf.pd (xs.take 0)) h64
  obtain ⟨R, hRR⟩ : ∃ R, R = Gf.rm m (Gf.pd (xs.take 0)) := ⟨_, rfl⟩
  rw [← hRR] at HR hR
  have HRR := Lib.hid hRR
  clear hRR e1
  go_enter Try.func18, Try.ntmps18
  go_wp2_with (go_at_call 16; refine (HR.out _).mono ?_; rintro e w1 ⟨rfl, hq⟩; have HQ1 := Lib.hid hq; clear hq)
  go_loopw [6, 7] (fun sv iv wr => ∃ i s : Nat, i ≤ xs.length ∧ iv = .int .i64 i ∧ sv = .int .u64 (s : Int) ∧ s < 18446744073709551616 ∧ s = Gf.rm m (Gf.pd (xs.take i)) ∧ Quiet w wr) (fun _ iv _ => xs.length - (intOf iv).toNat)
  case atStart => exact ⟨0, R, Nat.zero_le _, rfl, rfl, hR, HRR.out, HQ1.out⟩
  case round =>
    obtain ⟨i, s, hi, rfl, rfl, hs, he, hq⟩ := hrel
    have HE := Lib.hid he
    have HQ := Lib.hid hq
    clear he hq HQ1
    by_cases hlt : i < xs.length
    · obtain ⟨ad, rfl, _, hcell, hx⟩ := (HV.out.quiet HQ.out HS.out).cell i hlt
      have HN := Lib.hid (Gf.pd_next hlt)
      have HX := Lib.hid (fun W => HM.out s xs[i] W hs hx)
      have hY := Gf.rm_64 (Gf.mul s xs[i]) h64
      have HY : Hid (Gf.rm m (Gf.mul s xs[i]) = Gf.rm m (Gf.pd (xs.take (i + 1)))) := Lib.hid (by rw [HN.out, HE.out, Gf.rm_mul hm])
      generalize Gf.mul s xs[i] = Z at *
      generalize xs[i] = x at *
      have pz : 0 ≤ (i : Int) := by omega
      have mz : (i : Int) < (xs.length : Int) := by omega
      go_wp2_with (first
        | (go_at_call 11; refine (HX.out _).mono ?_; rintro e w2 ⟨h, l, rfl, hP, hh, hl, hq⟩; have HP := Lib.hid hP; have HQ2 := Lib.hid hq; clear hP hq)
        | (go_at_call 16; refine (HD.out h l _ hh hl).mono ?_; rintro e w3 ⟨rfl, hq⟩; have HQ3 := Lib.hid hq; clear hq))
      go_roundw
      case rel => exact ⟨i + 1, Gf.rm m (Gf.pr h l), by omega, by go_num, rfl, by rw [HP.out]; exact hY, by rw [HP.out]; exact HY.out, (HQ.out.trans HQ2.out).trans HQ3.out⟩
      case measure => simp [intOf]; omega
    · have e : xs.take i = xs := List.take_of_length_le (by omega)
      rw [e] at HE
      go_wp2
      go_ret2
      exact ⟨by rw [← HE.out]; rfl, HQ.out⟩
theorem r6mulmod_zero (v : Value) (w : World) : Calls Try.prog 18 #[.int .u64 0, v] w fun e w' => e = .returned (.tuple #[.int .u64 0, .int .i64 27]) ∧ w = w' := by
  go_enter Try.func18, Try.ntmps18
  go_wp2
  go_ret2
  exact ⟨rfl, rfl⟩

set_option maxRecDepth 100000 in
set_option maxHeartbeats 1000000 in
theorem r6power_any {m n : Nat} (h64 : m < 18446744073709551616) (hm : m ≠ 0) (hn : n < 9223372036854775808) (w : World) :
    Calls Try.prog 20 #[.int .i64 (n : Int), .int .u64 (m : Int)] w fun e w' => e = .returned (.tuple #[.int .u64 (Gf.rm m (Gf.pw 2 n) : Int), .int .i64 0]) ∧ Quiet w w' := by
  have HR1 := Lib.hid (fun W => r6mod0_any (a := 1) (by omega) h64 hm W)
  have HR2 := Lib.hid (fun W => r6mod0_any (a := 2) (by omega) h64 hm W)
  have HM : Hid (∀ (a b : Nat) (W : World), a < 18446744073709551616 → b < 18446744073709551616 → Calls Try.prog 11 #[.int .u64 (a : Int), .int .u64 (b : Int)] W (Pair W (Gf.mul a b))) := fun a b W ha hb => r6mul_any ha hb W
  have HD : Hid (∀ (h l : Nat) (W : World), h < 18446744073709551616 → l < 18446744073709551616 → Calls Try.prog 16 #[.int .u64 (h : Int), .int .u64 (l : Int), .int .u64 (m : Int)] W (Word W (Gf.rm m (Gf.pr h l)))) := fun h l W hh hl => r6mod_any hh hl h64 hm W
  have h0 : ¬ (m : Int) = 0 := by omega
  have h1 : ¬ (n : Int) < 0 := by omega
  have HB := Lib.hid (Gf.pow_begin hm n)
  have hX1 := Gf.rm_64 1 h64
  have hX2 := Gf.rm_64 2 h64
  have HX1 := Lib.hid (Gf.rm_rm hm 1)
  generalize Gf.rm m 1 = X1 at *
  generalize Gf.rm m 2 = X2 at *
  go_enter Try.func20, Try.ntmps20
  go_wp2_with fail
  refine (HR1.out _).mono ?_; rintro e w1 ⟨rfl, hq⟩; have HQ1 := Lib.hid hq; clear hq
  go_wp2_with fail
  refine (HR2.out _).mono ?_; rintro e w2 ⟨rfl, hq⟩; have HQ2 := Lib.hid hq; clear hq
  go_wp2_with fail
  go_loopw [0, 6, 7] (fun nv pv sv wr => ∃ k p s : Nat, nv = .int .i64 (k : Int) ∧ pv = .int .u64 (p : Int) ∧ sv = .int .u64 (s : Int) ∧ k < 9223372036854775808 ∧ p < 18446744073709551616 ∧ s < 18446744073709551616 ∧ Gf.rm m p = p ∧ Gf.Cg m (Gf.pw 2 n) (Gf.mul p (Gf.pw s k)) ∧ Quiet w wr) (fun nv _ _ _ => (intOf nv).toNat)
  case atStart => exact ⟨n, X1, X2, rfl, rfl, rfl, hn, hX1, hX2, HX1.out, HB.out, HQ1.out.trans HQ2.out⟩
  case round =>
    clear HQ1 HQ2
    obtain ⟨k, p, s, rfl, rfl, rfl, hk, hp, hs, hrp, hc, hq⟩ := hrel
    have HQ := Lib.hid hq
    have HC := Lib.hid hc
    have HRP := Lib.hid hrp
    clear hq hc hrp
    by_cases hk0 : k = 0
    · subst hk0
      have HE := Lib.hid (Gf.pow_end hm HRP.out HC.out)
      rw [show ((0 : Nat) : Int) = 0 from rfl]
      go_wp2
      go_ret2
      exact ⟨by rw [HE.out]; rfl, HQ.out⟩
    · have hkp : (k : Int) > 0 := by omega
      have hs' := Gf.rm_64 (Gf.mul s s) h64
      have HSS := Lib.hid (fun W => HM.out s s W hs hs)
      have HPS := Lib.hid (fun W => HM.out p s W hp hs)
      have hY := Gf.rm_64 (Gf.mul p s) h64
      have HYY := Lib.hid (Gf.rm_rm hm (Gf.mul p s))
      have HO := Lib.hid (fun j => Gf.pow_odd (p := p) (s := s) (k := j) hm)
      have HEV := Lib.hid (fun j => Gf.pow_even (p := p) (s := s) (k := j) hm)
      generalize Gf.mul s s = SS at *
      generalize Gf.mul p s = PS at *
      rcases Nat.mod_two_eq_zero_or_one k with hmod | hmod
      · have hb : ¬ (k : Int) % 2 = 1 := by omega
        go_wp2_with fail
        refine (HSS.out _).mono ?_; rintro e w3 ⟨h, l, rfl, hP, hh, hl, hq⟩; have HP := Lib.hid hP; have HQ3 := Lib.hid hq; clear hP hq
        go_wp2_with fail
        refine (HD.out h l _ hh hl).mono ?_; rintro e w4 ⟨rfl, hq⟩; have HQ4 := Lib.hid hq; clear hq
        go_wp2_with fail
        go_roundw
        case rel =>
          refine ⟨k / 2, p, Gf.rm m (Gf.pr h l), by simp, rfl, rfl, by omega, hp, by rw [HP.out]; exact hs', HRP.out, ?_, (HQ.out.trans HQ3.out).trans HQ4.out⟩
          rw [HP.out]
          refine HC.out.trans ?_
          have := HEV.out (k / 2)
          rwa [show 2 * (k / 2) = k by omega] at this
        case measure => simp [intOf]; omega
      · have hb : (k : Int) % 2 = 1 := by omega
        go_wp2_with fail
        refine (HPS.out _).mono ?_; rintro e w5 ⟨h5, l5, rfl, hP, hh5, hl5, hq⟩; have HP5 := Lib.hid hP; have HQ5 := Lib.hid hq; clear hP hq
        go_wp2_with fail
        refine (HD.out h5 l5 _ hh5 hl5).mono ?_; rintro e w6 ⟨rfl, hq⟩; have HQ6 := Lib.hid hq; clear hq
        go_wp2_with fail
        refine (HSS.out _).mono ?_; rintro e w3 ⟨h, l, rfl, hP, hh, hl, hq⟩; have HP := Lib.hid hP; have HQ3 := Lib.hid hq; clear hP hq
        go_wp2_with fail
        refine (HD.out h l _ hh hl).mono ?_; rintro e w4 ⟨rfl, hq⟩; have HQ4 := Lib.hid hq; clear hq
        go_wp2_with fail
        go_roundw
        case rel =>
          refine ⟨k / 2, Gf.rm m (Gf.pr h5 l5), Gf.rm m (Gf.pr h l), by simp, rfl, rfl, by omega, by rw [HP5.out]; exact hY, by rw [HP.out]; exact hs', by rw [HP5.out]; exact HYY.out, ?_, (((HQ.out.trans HQ5.out).trans HQ6.out).trans HQ3.out).trans HQ4.out⟩
          rw [HP.out, HP5.out]
          refine HC.out.trans ?_
          have := HO.out (k / 2)
          rwa [show 2 * (k / 2) + 1 = k by omega] at this
        case measure => simp [intOf]; omega

end Go.Proofs.Ytfbnpafanjppbaa
