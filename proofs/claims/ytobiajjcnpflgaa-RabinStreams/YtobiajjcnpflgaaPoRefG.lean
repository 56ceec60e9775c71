/- The document's own Gcd, MulMod, Power. Conditions: rows within the reach. -/
import Derived.Test.YtobiajjcnpflgaaPoRefM
import Derived.Test.YtobiajjcnpflgaaPoSq
namespace Go.Proofs.Ytobiajjcnpflgaa
open Go.RowKit

theorem r6mod0_any {a m : Nat} (ha : a < 18446744073709551616) (h64 : m < 18446744073709551616) (hm : m ≠ 0) (w : World) : Calls Try.prog 37 #[.int .u64 0, .int .u64 (a : Int), .int .u64 (m : Int)] w (Word w (Gf.rm m a)) := by
  have := r6mod_any (hi := 0) (by omega) ha h64 hm w
  rwa [Gf.pr_lo] at this

set_option maxRecDepth 100000 in
theorem r6gcd_any {a b : Nat} (ha : a < 18446744073709551616) (hb : b < 18446744073709551616) (w : World) : Calls Try.prog 52 #[.int .u64 (a : Int), .int .u64 (b : Int)] w (Word w (Gf.gc a b)) := by
  have HR : Hid (∀ (a m : Nat) (W : World), a < 18446744073709551616 → m < 18446744073709551616 → m ≠ 0 → Calls Try.prog 37 #[.int .u64 0, .int .u64 (a : Int), .int .u64 (m : Int)] W (Word W (Gf.rm m a))) := fun a m W ha h64 hm => r6mod0_any ha h64 hm W
  go_enter Try.func52, Try.ntmps52
  go_wp2
  go_loopw [0, 1] (fun dv pv wr => ∃ d p : Nat, dv = .int .u64 (d : Int) ∧ pv = .int .u64 (p : Int) ∧ d < 18446744073709551616 ∧ p < 18446744073709551616 ∧ Gf.gc a b = Gf.gc d p ∧ Quiet w wr) (fun _ pv _ => (intOf pv).toNat)
  case atStart => exact ⟨a, b, rfl, rfl, ha, hb, rfl, Only.refl _ _⟩
  case round =>
    obtain ⟨d, p, rfl, rfl, hd, hp, hg, hq⟩ := hrel
    have HQ := Lib.hid hq
    have HG := Lib.hid hg
    clear hq hg
    by_cases h0 : p = 0
    · subst h0
      have hg := HG.out
      rw [Gf.gc_zero] at hg
      have HG2 := Lib.hid hg
      clear hg HG
      rw [show ((0 : Nat) : Int) = 0 from rfl]
      go_wp2
      go_ret
      exact ⟨by rw [HG2.out]; rfl, HQ.out⟩
    · have h0' : ¬ (p : Int) = 0 := by omega
      have HX := Lib.hid (fun W => HR.out d p W hd hp h0)
      have hY := Gf.rm_64 d hp
      have hlt2 := Gf.rm_le d h0
      have HY := Lib.hid (Gf.gc_step (a := d) h0)
      generalize Gf.rm p d = Y at *
      go_wp2_with (go_at_call 37; refine (HX.out _).mono ?_; rintro e w2 ⟨rfl, hq⟩; have HQ2 := Lib.hid hq; clear hq)
      go_roundw
      case rel => exact ⟨p, Y, rfl, rfl, hp, hY, by rw [HG.out, HY.out], HQ.out.trans HQ2.out⟩
      case measure => simp [intOf]; omega

end Go.Proofs.Ytobiajjcnpflgaa
