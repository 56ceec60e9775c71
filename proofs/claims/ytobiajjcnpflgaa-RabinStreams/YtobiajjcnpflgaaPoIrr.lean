/- poly.Irreducible. Conditions: none. -/
import Derived.Test.YtobiajjcnpflgaaPoSq
import Derived.Test.YtobiajjcnpflgaaGfBenOr
namespace Go.Proofs.Ytobiajjcnpflgaa
open Go.RowKit

theorem nums_two (w : World) {x y : Nat} (hx : x < 18446744073709551616) (hy : y < 18446744073709551616) :
    NumsAt (w.alloc (.cells #[.int .u64 (x : Int), .int .u64 (y : Int)] 22)) (fun k => k = w.heap.size) (.slice (some ⟨w.heap.size, 0, none⟩) 2 2) [x, y] := by
  refine ⟨_, 2, rfl, by simp, fun i hi => ⟨⟨w.heap.size, 0, none⟩, rfl, rfl, ?_, ?_⟩⟩
  · rw [add_lit, cell_of (heap_alloc_self _ _)]
    have hi' : i < 2 := hi
    rcases (show i = 0 ∨ i = 1 by omega) with rfl | rfl <;> rfl
  · have hi' : i < 2 := hi
    rcases (show i = 0 ∨ i = 1 by omega) with rfl | rfl
    · exact hx
    · exact hy

namespace Gf
open Classical in
noncomputable def irr (p : Nat) : Bool := decide (Irr p)
theorem irr_true {p : Nat} : irr p = true ↔ Irr p := by unfold irr; simp
theorem irr_false {p : Nat} (h : ¬ Irr p) : irr p = false := by unfold irr; simp [h]
theorem irr_of {p : Nat} (h : Irr p) : irr p = true := irr_true.2 h
theorem gc_two (p x : Nat) : gs [p, x] = gc p x := by
  show gc (gc 0 p) x = _
  rw [gc_of (IsGcd.base p).comm]
theorem sm_two (x y : Nat) : sm [x, y] = x ^^^ y := by
  show (0 ^^^ x) ^^^ y = _
  rw [Nat.zero_xor]
/-- One try of the test. -/
theorem test_one {p i : Nat} (hp : p ≠ 0) : IsGcd p (pw 2 (2 ^ i) ^^^ 2) (gc p (rm p (pw 2 (2 ^ i)) ^^^ 2)) :=
  (gc_is p _).cg ((cg_rm hp (pw 2 (2 ^ i))).symm.xor (Cg.refl p 2))
theorem test_sq {p i : Nat} (hp : p ≠ 0) : rm p (mul (rm p (pw 2 (2 ^ i))) (rm p (pw 2 (2 ^ i)))) = rm p (pw 2 (2 ^ (i + 1))) := by
  rw [rm_mul2 hp, pw_sq]
theorem irr_small {p : Nat} (h : Lib.bitLen p ≤ 1) (h64 : p < 18446744073709551616) : ¬ Irr p := fun hi => by
  have := len_lt h64 h
  have := hi.1
  omega
end Gf

set_option maxRecDepth 100000 in
set_option maxHeartbeats 1000000 in
theorem irr_any {p : Nat} (h64 : p < 18446744073709551616) (w : World) :
    Calls Try.prog 33 #[.int .u64 (p : Int)] w fun e w' => e = .returned (.bool (Gf.irr p)) ∧ Quiet w w' := by
  have HD := Lib.hid (fun W => deg_any h64 W)
  have hle := Gf.len_le h64
  by_cases hsm : Lib.bitLen p ≤ 1
  · have hlt : (Lib.bitLen p : Int) - 1 < 1 := by omega
    have HI := Lib.hid (Gf.irr_false (Gf.irr_small hsm h64))
    go_enter Try.func33, Try.ntmps33
    go_wp2_with (go_at_call 32; refine (HD.out _).mono ?_; rintro e w1 ⟨rfl, rfl⟩)
    go_ret
    exact ⟨by rw [HI.out]; rfl, Only.refl _ _⟩
  · have hlt : ¬ (Lib.bitLen p : Int) - 1 < 1 := by omega
    have hp0 : p ≠ 0 := by rintro rfl; rw [Gf.len_zero] at hsm; omega
    have HS := Lib.hid (fun W => squarings_any h64 hp0 W)
    have HTOP := Lib.hid (Gf.len_top hp0 h64).2
    have HT := Lib.hid (Gf.test_irr HTOP.out (by omega))
    obtain ⟨D, hD⟩ : ∃ D, D = Lib.bitLen p - 1 := ⟨_, rfl⟩
    rw [← hD] at HT
    have hDi : (Lib.bitLen p : Int) - 1 = (D : Int) := by omega
    rw [hDi] at HD hlt
    have hD63 : D ≤ 63 := by omega
    have HSQR : Hid (∀ (i P M : Nat) (W : World), SqAt W P M (Gf.rm p (Gf.pw 2 (2 ^ i))) p → Calls Try.prog 53 #[.pointer (some ⟨P, 0, none⟩), .pointer (some ⟨M, 0, none⟩)] W fun e w' => e = .returned (.int .u64 (Gf.rm p (Gf.pw 2 (2 ^ i)) : Int)) ∧ SqAt w' P M (Gf.rm p (Gf.pw 2 (2 ^ (i + 1)))) p ∧ Only (fun k => k = P) W w') := fun i P M W h => by
      have := squared_any h (Gf.rm_64 _ h64) h64 hp0
      rwa [Gf.test_sq hp0] at this
    have e2 : Gf.rm p 2 = Gf.rm p (Gf.pw 2 (2 ^ 0)) := by rw [show Gf.pw 2 (2 ^ 0) = 2 by simp [Gf.pw, Gf.one_mul]]
    rw [e2] at HS
    have HONE := Lib.hid (fun i => Gf.test_one (i := i) hp0)
    clear hle hsm hD hDi e2
    obtain ⟨y, hy⟩ : ∃ y : Nat → Nat, y = fun i => Gf.rm p (Gf.pw 2 (2 ^ i)) := ⟨_, rfl⟩
    have hyi : ∀ i, Gf.rm p (Gf.pw 2 (2 ^ i)) = y i := fun i => by rw [hy]
    have HY64 : Hid (∀ i, y i < 18446744073709551616) := fun i => by rw [hy]; exact Gf.rm_64 _ h64
    simp only [hyi] at HS HSQR HONE
    clear hyi hy
    go_enter Try.func33, Try.ntmps33
    go_wp2_with (first
      | (go_at_call 32; refine (HD.out _).mono ?_; rintro e w1 ⟨rfl, rfl⟩)
      | (go_at_call 45; refine (HS.out _).mono ?_; rintro e w1 ⟨P, M, rfl, hsq, hP, hM, hq⟩; have HSQ := Lib.hid hsq; have HPM := Lib.hid (And.intro hP hM); have HQ := Lib.hid hq; clear hsq hP hM hq)
      | (go_at_call 53; refine (HSQR.out 0 P M _ HSQ.out).mono ?_; rintro e w2 ⟨rfl, hsq, ho⟩; have HSQ2 := Lib.hid hsq; have HO2 := Lib.hid ho; clear hsq ho))
    go_loopw [15] (fun iv wr => ∃ i : Nat, iv = .int .i64 (i : Int) ∧ i ≤ D / 2 ∧ (∀ j, 1 ≤ j → j ≤ i → Gf.IsGcd p (Gf.pw 2 (2 ^ j) ^^^ 2) 1) ∧ SqAt wr P M (y (i + 1)) p ∧ Quiet w wr) (fun iv _ => D / 2 - (intOf iv).toNat)
    case atStart => exact ⟨0, rfl, Nat.zero_le _, fun j h1 h2 => by omega, HSQ2.out, HQ.out.andThen HO2.out (fun j hj x => by have := HPM.out.1; omega)⟩
    case round =>
      clear HSQ HQ HSQ2 HO2
      obtain ⟨i, rfl, hi, hall, hsq, hq⟩ := hrel
      have HSQ := Lib.hid hsq
      have HQ := Lib.hid hq
      have HALL := Lib.hid hall
      clear hsq hq hall
      by_cases hlt2 : i < D / 2
      · have c1 : (i : Int) < (D : Int) / 2 := by omega
        have hy64 := HY64.out (i + 1)
        have hx64 := Gf.xor64 hy64 (show 2 < 18446744073709551616 by omega)
        have HG := Lib.hid (HONE.out (i + 1))
        have hg64 := Gf.gc_64 h64 hx64
        have HNS : Hid (∀ W : World, Calls Try.prog 53 #[.pointer (some ⟨P, 0, none⟩), .pointer (some ⟨M, 0, none⟩)] wr fun e w' => e = .returned (.int .u64 (y (i + 1) : Int)) ∧ SqAt w' P M (y (i + 1 + 1)) p ∧ Only (fun k => k = P) wr w') := fun _ => HSQR.out (i + 1) P M wr HSQ.out
        have HSUM : Hid (∀ W : World, Calls Try.prog 47 #[.slice (some ⟨W.heap.size, 0, none⟩) 2 2] (W.alloc (.cells #[.int .u64 (y (i + 1) : Int), .int .u64 2] 22)) fun e w' => e = .returned (.int .u64 ((y (i + 1) ^^^ 2 : Nat) : Int)) ∧ (W.alloc (.cells #[.int .u64 (y (i + 1) : Int), .int .u64 2] 22)) = w') := fun W => by
          have := sum_any (nums_two W hy64 (show 2 < 18446744073709551616 by omega)) (by simp)
          rwa [Gf.sm_two] at this
        have HGCD : Hid (∀ W : World, Calls Try.prog 46 #[.slice (some ⟨W.heap.size + 1, 0, none⟩) 2 2] ((W.alloc (.cells #[.int .u64 (y (i + 1) : Int), .int .u64 2] 22)).alloc (.cells #[.int .u64 (p : Int), .int .u64 ((y (i + 1) ^^^ 2 : Nat) : Int)] 22)) fun e w' => e = .returned (.int .u64 (Gf.gc p (y (i + 1) ^^^ 2) : Int)) ∧ Quiet W w') := fun W => by
          have h1 := gcd_any (nums_two (W.alloc (.cells #[.int .u64 (y (i + 1) : Int), .int .u64 2] 22)) h64 hx64) (fun k hk => by subst hk; exact lt_of_heap (heap_alloc_self _ _)) (by simp)
          rw [Gf.gc_two, show (W.alloc (.cells #[.int .u64 (y (i + 1) : Int), .int .u64 2] 22)).heap.size = W.heap.size + 1 by simp] at h1
          exact h1.mono fun e w' ⟨a, b⟩ => ⟨a, ((Only.alloc _).trans (Only.alloc _)).trans b⟩
        generalize Gf.gc p (y (i + 1) ^^^ 2) = g at *
        generalize y (i + 1) ^^^ 2 = X at *
        by_cases hg1 : g = 1
        · have c2 : (g : Int) = 1 := by omega
          go_wp2_with (first
            | (go_at_call 53; refine (HNS.out wr).mono ?_; rintro e w3 ⟨rfl, hsq, ho⟩; have HSQ3 := Lib.hid hsq; have HO3 := Lib.hid ho; clear hsq ho)
            | (go_at_call 47; refine (HSUM.out w3).mono ?_; rintro e w4 ⟨rfl, rfl⟩)
            | (go_at_call 46; refine (HGCD.out w3).mono ?_; rintro e w5 ⟨rfl, hq⟩; have HQ5 := Lib.hid hq; clear hq))
          go_roundw
          case rel =>
            refine ⟨i + 1, by simp, by omega, fun j h1 h2 => ?_, ?_, ?_⟩
            · rcases (show j ≤ i ∨ j = i + 1 by omega) with h3 | rfl
              · exact HALL.out j h1 h3
              · have := HG.out; rwa [hg1] at this
            · exact HSQ3.out.keep HQ5.out
            · exact (HQ.out.andThen HO3.out (fun j hj x => by have := HPM.out.1; omega)).trans HQ5.out
          case measure => simp [intOf]; omega
        · have c2 : ¬ (g : Int) = 1 := by omega
          go_wp2_with (first
            | (go_at_call 53; refine (HNS.out wr).mono ?_; rintro e w3 ⟨rfl, hsq, ho⟩; have HSQ3 := Lib.hid hsq; have HO3 := Lib.hid ho; clear hsq ho)
            | (go_at_call 47; refine (HSUM.out w3).mono ?_; rintro e w4 ⟨rfl, rfl⟩)
            | (go_at_call 46; refine (HGCD.out w3).mono ?_; rintro e w5 ⟨rfl, hq⟩; have HQ5 := Lib.hid hq; clear hq))
          go_ret
          refine ⟨?_, (HQ.out.andThen HO3.out (fun j hj x => by have := HPM.out.1; omega)).trans HQ5.out⟩
          rw [Gf.irr_false (fun hI => hg1 ((HG.out).one (HT.out.2 hI (i + 1) (by omega) (by omega))))]
          rfl
      · have c1 : ¬ (i : Int) < (D : Int) / 2 := by omega
        go_wp2
        go_ret
        refine ⟨?_, HQ.out⟩
        rw [Gf.irr_of (HT.out.1 (fun j h1 h2 => HALL.out j h1 (by omega)))]
        rfl

end Go.Proofs.Ytobiajjcnpflgaa
