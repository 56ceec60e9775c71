/- The document's own Irreducible and Divides. Conditions: none. -/
import Derived.Test.YtobiajjcnpflgaaPoRefG
import Derived.Test.YtobiajjcnpflgaaPoIrr
namespace Go.Proofs.Ytobiajjcnpflgaa
open Go.RowKit

namespace Gf
theorem test_two {p i : Nat} (hp : p ≠ 0) : IsGcd p (pw 2 (2 ^ i) ^^^ 2) (gc p (rm p (pw 2 (2 ^ i)) ^^^ rm p 2)) :=
  (gc_is p _).cg ((cg_rm hp (pw 2 (2 ^ i))).symm.xor (cg_rm hp 2).symm)
end Gf

set_option maxRecDepth 100000 in
set_option maxHeartbeats 1000000 in
theorem r6irr_any {p : Nat} (h64 : p < 18446744073709551616) (w : World) :
    Calls Try.prog 40 #[.int .u64 (p : Int)] w fun e w' => e = .returned (.bool (Gf.irr p)) ∧ Quiet w w' := by
  have HD := Lib.hid (fun W => r6deg_any h64 W)
  have hle := Gf.len_le h64
  by_cases hsm : Lib.bitLen p ≤ 1
  · have hlt : (Lib.bitLen p : Int) - 1 < 1 := by omega
    have HI := Lib.hid (Gf.irr_false (Gf.irr_small hsm h64))
    go_enter Try.func40, Try.ntmps40
    go_wp2_with (go_at_call 39; refine (HD.out _).mono ?_; rintro e w1 ⟨rfl, rfl⟩)
    go_ret
    exact ⟨by rw [HI.out]; rfl, Only.refl _ _⟩
  · have hlt : ¬ (Lib.bitLen p : Int) - 1 < 1 := by omega
    have hp0 : p ≠ 0 := by rintro rfl; rw [Gf.len_zero] at hsm; omega
    have HTOP := Lib.hid (Gf.len_top hp0 h64).2
    have HT := Lib.hid (Gf.test_irr HTOP.out (by omega))
    obtain ⟨D, hD⟩ : ∃ D, D = Lib.bitLen p - 1 := ⟨_, rfl⟩
    rw [← hD] at HT
    have hDi : (Lib.bitLen p : Int) - 1 = (D : Int) := by omega
    rw [hDi] at HD hlt
    have hD63 : D ≤ 63 := by omega
    have hD1 : 1 ≤ D := by omega
    have HR2 := Lib.hid (fun W => r6mod0_any (a := 2) (by omega) h64 hp0 W)
    have HM : Hid (∀ (a : Nat) (W : World), a < 18446744073709551616 → Calls Try.prog 51 #[.int .u64 (a : Int), .int .u64 (a : Int)] W (Pair W (Gf.mul a a))) := fun a W ha => r6mul_any ha ha W
    have HMD : Hid (∀ (h l : Nat) (W : World), h < 18446744073709551616 → l < 18446744073709551616 → Calls Try.prog 37 #[.int .u64 (h : Int), .int .u64 (l : Int), .int .u64 (p : Int)] W (Word W (Gf.rm p (Gf.pr h l)))) := fun h l W hh hl => r6mod_any hh hl h64 hp0 W
    have HG : Hid (∀ (a : Nat) (W : World), a < 18446744073709551616 → Calls Try.prog 52 #[.int .u64 (p : Int), .int .u64 (a : Int)] W (Word W (Gf.gc p a))) := fun a W ha => r6gcd_any h64 ha W
    have HSQ : Hid (∀ i, Gf.rm p (Gf.mul (Gf.rm p (Gf.pw 2 (2 ^ i))) (Gf.rm p (Gf.pw 2 (2 ^ i)))) = Gf.rm p (Gf.pw 2 (2 ^ (i + 1)))) := fun i => Gf.test_sq hp0
    have HONE := Lib.hid (fun i => Gf.test_two (i := i) hp0)
    have hX64 := Gf.rm_64 2 h64
    have HX0 : Hid (Gf.rm p 2 = Gf.rm p (Gf.pw 2 (2 ^ 0))) := Lib.hid (by rw [show Gf.pw 2 (2 ^ 0) = 2 by simp [Gf.pw, Gf.one_mul]])
    clear hle hsm hD hDi
    obtain ⟨y, hy⟩ : ∃ y : Nat → Nat, y = fun i => Gf.rm p (Gf.pw 2 (2 ^ i)) := ⟨_, rfl⟩
    have hyi : ∀ i, Gf.rm p (Gf.pw 2 (2 ^ i)) = y i := fun i => by rw [hy]
    have HY64 : Hid (∀ i, y i < 18446744073709551616) := fun i => by rw [hy]; exact Gf.rm_64 _ h64
    simp only [hyi] at HSQ HONE HX0
    generalize Gf.rm p 2 = X at *
    clear hyi hy
    go_enter Try.func40, Try.ntmps40
    go_wp2_with fail
    refine (HD.out _).mono ?_; rintro e w1 ⟨rfl, rfl⟩
    go_wp2_with fail
    refine (HR2.out _).mono ?_; rintro e w1 ⟨rfl, hq⟩; have HQ1 := Lib.hid hq; clear hq
    go_wp2_with fail
    go_loopw [5, 6] (fun yv iv wr => ∃ i : Nat, yv = .int .u64 (y i : Int) ∧ iv = .int .i64 ((i : Int) + 1) ∧ i ≤ D / 2 ∧ (∀ j, 1 ≤ j → j ≤ i → Gf.IsGcd p (Gf.pw 2 (2 ^ j) ^^^ 2) 1) ∧ Quiet w wr) (fun _ iv _ => D / 2 + 1 - (intOf iv).toNat)
    case atStart => exact ⟨0, by rw [HX0.out], rfl, Nat.zero_le _, fun j h1 h2 => by omega, HQ1.out⟩
    case round =>
      clear HQ1
      obtain ⟨i, rfl, rfl, hi, hall, hq⟩ := hrel
      have HQ := Lib.hid hq
      have HALL := Lib.hid hall
      clear hq hall
      by_cases hlt2 : i < D / 2
      · have c1 : 2 * ((i : Int) + 1) ≤ (D : Int) := by omega
        have hyn := HY64.out i
        have hy64 := HY64.out (i + 1)
        have HMS := Lib.hid (fun W => HM.out (y i) W hyn)
        have hx64 := Gf.xor64 hy64 hX64
        have ex := bits_xor_u64 (y (i + 1)) X hy64 hX64
        have HG1 := Lib.hid (HONE.out (i + 1))
        have hg64 := Gf.gc_64 h64 hx64
        have HGG := Lib.hid (fun W => HG.out (y (i + 1) ^^^ X) W hx64)
        have HS1 := Lib.hid (HSQ.out i)
        generalize Gf.gc p (y (i + 1) ^^^ X) = g at *
        generalize y (i + 1) ^^^ X = Z at *
        generalize Gf.mul (y i) (y i) = YY at *
        generalize hy1 : y (i + 1) = y1 at *
        by_cases hg1 : g = 1
        · have c2 : (g : Int) = 1 := by omega
          go_wp2_with fail
          refine (HMS.out _).mono ?_; rintro e w3 ⟨h, l, rfl, hP, hh, hl, hq⟩; have HP := Lib.hid hP; have HQ3 := Lib.hid hq; clear hP hq
          go_wp2_with fail
          refine (HMD.out h l _ hh hl).mono ?_
          rw [HP.out, HS1.out]
          rintro e w4 ⟨rfl, hq⟩; have HQ4 := Lib.hid hq; clear hq
          go_wp2_with fail
          refine (HGG.out _).mono ?_; rintro e w5 ⟨rfl, hq⟩; have HQ5 := Lib.hid hq; clear hq
          go_wp2_with fail
          go_roundw
          case rel =>
            refine ⟨i + 1, by rw [hy1], by simp, by omega, fun j h1 h2 => ?_, ((HQ.out.trans HQ3.out).trans HQ4.out).trans HQ5.out⟩
            rcases (show j ≤ i ∨ j = i + 1 by omega) with h3 | rfl
            · exact HALL.out j h1 h3
            · have := HG1.out; rwa [hg1] at this
          case measure => simp [intOf]; omega
        · have c2 : ¬ (g : Int) = 1 := by omega
          go_wp2_with fail
          refine (HMS.out _).mono ?_; rintro e w3 ⟨h, l, rfl, hP, hh, hl, hq⟩; have HP := Lib.hid hP; have HQ3 := Lib.hid hq; clear hP hq
          go_wp2_with fail
          refine (HMD.out h l _ hh hl).mono ?_
          rw [HP.out, HS1.out]
          rintro e w4 ⟨rfl, hq⟩; have HQ4 := Lib.hid hq; clear hq
          go_wp2_with fail
          refine (HGG.out _).mono ?_; rintro e w5 ⟨rfl, hq⟩; have HQ5 := Lib.hid hq; clear hq
          go_wp2_with fail
          go_ret
          refine ⟨?_, ((HQ.out.trans HQ3.out).trans HQ4.out).trans HQ5.out⟩
          rw [Gf.irr_false (fun hI => hg1 ((HG1.out).one (HT.out.2 hI (i + 1) (by omega) (by omega))))]
          rfl
      · have c1 : ¬ 2 * ((i : Int) + 1) ≤ (D : Int) := by omega
        go_wp2
        go_ret
        refine ⟨?_, HQ.out⟩
        rw [Gf.irr_of (HT.out.1 (fun j h1 h2 => HALL.out j h1 (by omega)))]
        rfl

end Go.Proofs.Ytobiajjcnpflgaa
