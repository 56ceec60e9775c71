/- PolyDivides. Conditions: none. -/
import Derived.Test.YtfbnpafanjppbaaPoSmall
namespace Go.Proofs.Ytfbnpafanjppbaa
open Go.RowKit

namespace Gf
theorem mul_30 {a c : Nat} (ha : a < 1073741824) (hc : c < 1073741824) : mul a c < 18446744073709551616 := by
  have := mul_lt (i := 30) (j := 29) (a := a) (b := c) ha hc
  rw [show (2 : Nat) ^ (30 + 29) = 576460752303423488 by decide] at this
  omega
theorem rm_dvd {m p : Nat} (hm : m ≠ 0) (h : Dvd m p) : rm m p = 0 := ((rm_rem hm p).zero_iff hm).2 h
theorem gc_zero_both {x y : Nat} (h : gc x y = 0) : x = 0 ∧ y = 0 := by
  have hg := gc_is x y
  rw [h] at hg
  obtain ⟨q, e⟩ := hg.left
  obtain ⟨q', e'⟩ := hg.right
  rw [mul_zero] at e e'
  exact ⟨e, e'⟩
end Gf

theorem and_30 (a : Nat) (ha : a < 18446744073709551616) : bits .and .u64 (a : Int) 1073741823 = ((a % 1073741824 : Nat) : Int) := by
  have := bits_and_u64 a 1073741823 ha (by omega)
  rw [show (1073741823 : Nat) = 2 ^ 30 - 1 by decide, Nat.and_two_pow_sub_one_eq_mod] at this
  exact this

theorem gcd_two {W : World} {x y : Nat} (hx : x < 18446744073709551616) (hy : y < 18446744073709551616) :
    Calls Try.prog 23 #[.slice (some ⟨W.heap.size, 0, none⟩) 2 2] (W.alloc (.cells #[.int .u64 (x : Int), .int .u64 (y : Int)] 22)) (Word W (Gf.gc x y)) := by
  have h1 := gcd_any (nums_two W hx hy) (fun k hk => own_two W k hk _) (by simp)
  rw [Gf.gc_two] at h1
  exact h1.mono fun e w' ⟨a, b⟩ => ⟨a, (Only.alloc _).trans b⟩
theorem mod0_any {a m : Nat} (ha : a < 18446744073709551616) (h64 : m < 18446744073709551616) (hm : m ≠ 0) (w : World) : Calls Try.prog 15 #[.int .u64 0, .int .u64 (a : Int), .int .u64 (m : Int)] w fun e w' => e = .returned (.tuple #[.int .u64 (Gf.rm m a : Int), .nilIface]) ∧ Quiet w w' := by
  have := mod_any (hi := 0) (by omega) ha h64 hm w
  rwa [Gf.pr_lo] at this

set_option maxRecDepth 100000 in
set_option maxHeartbeats 4000000 in
theorem polyDivides_any {w : World} {a0 b0 c0 : Nat} (ha0 : a0 < 18446744073709551616) (hb0 : b0 < 18446744073709551616) (hc0 : c0 < 18446744073709551616) :
    Calls Try.prog 8 #[.int .u64 (a0 : Int), .int .u64 (b0 : Int), .int .u64 (c0 : Int)] w fun e w' => e = .returned (.bool true) ∧ Quiet w w' := by
  have HA := Lib.hid alive6_any
  have ea := and_30 a0 ha0
  have eb := and_30 b0 hb0
  have ec := and_30 c0 hc0
  have ha : a0 % 1073741824 < 1073741824 := Nat.mod_lt _ (by decide)
  have hb : b0 % 1073741824 < 1073741824 := Nat.mod_lt _ (by decide)
  have hc : c0 % 1073741824 < 1073741824 := Nat.mod_lt _ (by decide)
  generalize a0 % 1073741824 = a at *
  generalize b0 % 1073741824 = b at *
  generalize c0 % 1073741824 = c at *
  have ha64 : a < 18446744073709551616 := by omega
  have hb64 : b < 18446744073709551616 := by omega
  have hc64 : c < 18446744073709551616 := by omega
  have HM1 := Lib.hid (fun W => mul_any ha64 hc64 W)
  have HM2 := Lib.hid (fun W => mul_any hb64 hc64 W)
  have hx := Gf.mul_30 ha hc
  have hy := Gf.mul_30 hb hc
  have HG1 := Lib.hid (fun W => gcd_two (W := W) hx hy)
  have HIS := Lib.hid (Gf.gc_is (Gf.mul a c) (Gf.mul b c))
  have HZB := Lib.hid (Gf.gc_zero_both (x := Gf.mul a c) (y := Gf.mul b c))
  have hg64 := Gf.gc_64 hx hy
  have HCX : Hid (Gf.Dvd c (Gf.mul a c)) := ⟨a, rfl⟩
  have HCY : Hid (Gf.Dvd c (Gf.mul b c)) := ⟨b, rfl⟩
  have HCN : Hid (Gf.gc (Gf.mul a c) (Gf.mul b c) ≠ 0 → c ≠ 0) := fun h0 h1 => h0 (by rw [h1, Gf.mul_zero, Gf.mul_zero, Gf.gc_zero])
  generalize Gf.gc (Gf.mul a c) (Gf.mul b c) = g at *
  generalize Gf.mul a c = x at *
  generalize Gf.mul b c = y at *
  have HMOD : Hid (∀ (p m : Nat) (W : World), p < 18446744073709551616 → m < 18446744073709551616 → m ≠ 0 → Calls Try.prog 15 #[.int .u64 0, .int .u64 (p : Int), .int .u64 (m : Int)] W fun e w' => e = .returned (.tuple #[.int .u64 (Gf.rm m p : Int), .nilIface]) ∧ Quiet W w') := fun p m W hp hm h0 => mod0_any hp hm h0 W
  have HI := Lib.hid (fun W => irr_any ha64 W)
  have HGAB := Lib.hid (fun W => gcd_two (W := W) ha64 hb64)
  by_cases hg0 : g = 0
  · obtain ⟨rfl, rfl⟩ := HZB.out hg0
    subst hg0
    go_enter Try.func8, Try.ntmps8
    go_wp2_with fail
    refine (HA.out _).mono ?_; rintro e w1 ⟨rfl, hq⟩; have HQ1 := Lib.hid hq; clear hq
    go_wp2_with fail
    refine (HM1.out _).mono ?_; rintro e w2 ⟨h, l, rfl, hP, hh, hl, hq⟩; have HQ2 := Lib.hid hq; clear hq
    obtain ⟨rfl, rfl⟩ : h = 0 ∧ l = 0 := by unfold Gf.pr at hP; omega
    go_wp2_with fail
    refine (HM2.out _).mono ?_; rintro e w3 ⟨h, l, rfl, hP2, hh2, hl2, hq⟩; have HQ3 := Lib.hid hq; clear hq
    obtain ⟨rfl, rfl⟩ : h = 0 ∧ l = 0 := by unfold Gf.pr at hP2; omega
    clear hP hP2 hh hl hh2 hl2
    go_wp2_with fail
    refine (HG1.out w3).mono ?_; rintro e w4 ⟨rfl, hq⟩; have HQ4 := Lib.hid hq; clear hq
    go_wp2_with fail
    go_ret
    exact ⟨rfl, ((HQ1.out.trans HQ2.out).trans HQ3.out).trans HQ4.out⟩
  · have hc0' : c ≠ 0 := HCN.out hg0
    have k1 : ¬ (g : Int) = 0 := by omega
    have k2 : ¬ (c : Int) = 0 := by omega
    have HR1 := Lib.hid (fun W => HMOD.out x g W hx hg64 hg0)
    have HR2 := Lib.hid (fun W => HMOD.out y g W hy hg64 hg0)
    have HR3 := Lib.hid (fun W => HMOD.out g c W hg64 hc64 hc0')
    rw [Gf.rm_dvd hg0 HIS.out.left] at HR1
    rw [Gf.rm_dvd hg0 HIS.out.right] at HR2
    rw [Gf.rm_dvd hc0' (HIS.out.of_dvd HCX.out HCY.out)] at HR3
    by_cases hirr : Gf.Irr a
    · rw [Gf.irr_of hirr] at HI
      have ha1 : a ≠ 0 := by have := hirr.1; omega
      have HR4 := Lib.hid (fun W => HMOD.out b a W hb64 ha64 ha1)
      have hiff := Gf.gcd_irr hirr (Gf.gc_is a b)
      have hz := (Gf.rm_rem ha1 b).zero_iff ha1
      have hgt : Gf.gc a b = 1 ↔ Gf.rm a b ≠ 0 := by rw [hiff]; exact not_congr hz.symm
      clear hiff hz
      generalize Gf.rm a b = t at *
      generalize Gf.gc a b = G at *
      go_enter Try.func8, Try.ntmps8
      go_wp2_with fail
      refine (HA.out _).mono ?_; rintro e w1 ⟨rfl, hq⟩; have HQ1 := Lib.hid hq; clear hq
      go_wp2_with fail
      refine (HM1.out _).mono ?_; rintro e w2 ⟨h, l, rfl, hP, hh, hl, hq⟩; have HQ2 := Lib.hid hq; clear hq
      obtain ⟨rfl, rfl⟩ : h = 0 ∧ l = x := by unfold Gf.pr at hP; omega
      go_wp2_with fail
      refine (HM2.out _).mono ?_; rintro e w3 ⟨h, l2, rfl, hP2, hh2, hl2, hq⟩; have HQ3 := Lib.hid hq; clear hq
      obtain ⟨rfl, rfl⟩ : h = 0 ∧ l2 = y := by unfold Gf.pr at hP2; omega
      clear hP hP2 hh hl hh2 hl2
      go_wp2_with fail
      refine (HG1.out w3).mono ?_; rintro e w4 ⟨rfl, hq⟩; have HQ4 := Lib.hid hq; clear hq
      go_wp2_with fail
      refine (HR1.out _).mono ?_; rintro e w5 ⟨rfl, hq⟩; have HQ5 := Lib.hid hq; clear hq
      go_wp2_with fail
      refine (HR2.out _).mono ?_; rintro e w6 ⟨rfl, hq⟩; have HQ6 := Lib.hid hq; clear hq
      go_wp2_with fail
      refine (HR3.out _).mono ?_; rintro e w7 ⟨rfl, hq⟩; have HQ7 := Lib.hid hq; clear hq
      go_wp2_with fail
      refine (HI.out _).mono ?_; rintro e w8 ⟨rfl, hq⟩; have HQ8 := Lib.hid hq; clear hq
      go_wp2_with fail
      refine (HR4.out _).mono ?_; rintro e w9 ⟨rfl, hq⟩; have HQ9 := Lib.hid hq; clear hq
      go_wp2_with fail
      refine (HGAB.out w9).mono ?_; rintro e w10 ⟨rfl, hq⟩; have HQ10 := Lib.hid hq; clear hq
      go_wp2_with fail
      go_ret
      refine ⟨?_, ((((((((HQ1.out.trans HQ2.out).trans HQ3.out).trans HQ4.out).trans HQ5.out).trans HQ6.out).trans HQ7.out).trans HQ8.out).trans HQ9.out).trans HQ10.out⟩
      show Ending.returned (Value.bool (((G : Int) == 1) == ((t : Int) != 0))) = _
      congr 2
      by_cases ht : t = 0
      · have hG : ¬ (G : Int) = 1 := fun h => hgt.1 (by omega) ht
        subst ht
        simp [hG]
      · have hG : G = 1 := hgt.2 ht
        have ht' : ¬ (t : Int) = 0 := by omega
        subst hG
        simp [ht]
    · rw [Gf.irr_false hirr] at HI
      go_enter Try.func8, Try.ntmps8
      go_wp2_with fail
      refine (HA.out _).mono ?_; rintro e w1 ⟨rfl, hq⟩; have HQ1 := Lib.hid hq; clear hq
      go_wp2_with fail
      refine (HM1.out _).mono ?_; rintro e w2 ⟨h, l, rfl, hP, hh, hl, hq⟩; have HQ2 := Lib.hid hq; clear hq
      obtain ⟨rfl, rfl⟩ : h = 0 ∧ l = x := by unfold Gf.pr at hP; omega
      go_wp2_with fail
      refine (HM2.out _).mono ?_; rintro e w3 ⟨h, l2, rfl, hP2, hh2, hl2, hq⟩; have HQ3 := Lib.hid hq; clear hq
      obtain ⟨rfl, rfl⟩ : h = 0 ∧ l2 = y := by unfold Gf.pr at hP2; omega
      clear hP hP2 hh hl hh2 hl2
      go_wp2_with fail
      refine (HG1.out w3).mono ?_; rintro e w4 ⟨rfl, hq⟩; have HQ4 := Lib.hid hq; clear hq
      go_wp2_with fail
      refine (HR1.out _).mono ?_; rintro e w5 ⟨rfl, hq⟩; have HQ5 := Lib.hid hq; clear hq
      go_wp2_with fail
      refine (HR2.out _).mono ?_; rintro e w6 ⟨rfl, hq⟩; have HQ6 := Lib.hid hq; clear hq
      go_wp2_with fail
      refine (HR3.out _).mono ?_; rintro e w7 ⟨rfl, hq⟩; have HQ7 := Lib.hid hq; clear hq
      go_wp2_with fail
      refine (HI.out _).mono ?_; rintro e w8 ⟨rfl, hq⟩; have HQ8 := Lib.hid hq; clear hq
      go_wp2_with fail
      go_ret
      exact ⟨rfl, (((((((HQ1.out.trans HQ2.out).trans HQ3.out).trans HQ4.out).trans HQ5.out).trans HQ6.out).trans HQ7.out).trans HQ8.out)⟩

end Go.Proofs.Ytfbnpafanjppbaa
