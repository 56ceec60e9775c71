/- The fixed fact of layer 6, and PolyPrimes. Conditions: none. -/
import Derived.Test.YtfbnpafanjppbaaPoRefI
namespace Go.Proofs.Ytfbnpafanjppbaa
open Go.RowKit

namespace Gf
/-- The product, so that it can be worked out. -/
def mulF : Nat → Nat → Nat → Nat
  | 0, _, _ => 0
  | f + 1, a, b => bit b a ^^^ (2 * mulF f a (b / 2))
theorem mulF_eq (a : Nat) : ∀ (f b : Nat), b < 2 ^ f → mul a b = mulF f a b
  | 0, b, h => by
    have : b = 0 := by simpa using h
    subst this; exact mul_zero a
  | f + 1, b, h => by
    rw [mul_step, mulF, mulF_eq a f (b / 2) (by rw [Nat.pow_succ] at h; omega)]
def quots : List Nat := [0, 0, 141, 246, 70, 82, 123, 104, 35, 39, 41, 45, 61, 56, 52, 49, 17, 16, 19, 18, 20, 21, 22, 23, 30, 31, 28, 29, 26, 27, 24, 25]
def rests : List Nat := [0, 0, 1, 1, 3, 1, 1, 3, 3, 4, 1, 4, 7, 3, 3, 4, 11, 11, 13, 13, 11, 10, 15, 14, 11, 12, 3, 4, 3, 4, 11, 12]
def degs : List Nat := [0, 0, 1, 1, 2, 2, 2, 2, 3, 3, 3, 3, 3, 3, 3, 3, 4, 4, 4, 4, 4, 4, 4, 4, 4, 4, 4, 4, 4, 4, 4, 4]
theorem tried : ∀ q : Fin 32, 2 ≤ q.val → 283 = mulF 5 (quots.getD q.val 0) q.val ^^^ rests.getD q.val 0 ∧ rests.getD q.val 0 ≠ 0 ∧ rests.getD q.val 0 < 2 ^ degs.getD q.val 0 ∧ 2 ^ degs.getD q.val 0 ≤ q.val ∧ q.val < 2 ^ (degs.getD q.val 0 + 1) := by decide +kernel
theorem top_283 : Top 8 283 := ⟨by decide, by decide⟩
theorem irr_283 : Irr 283 := by
  rw [trial_irr top_283 (by decide)]
  intro q k h1 h2 h3 hd
  have hq : q < 32 := by
    have := h2.2
    have : 2 ^ (k + 1) ≤ 2 ^ 5 := Nat.pow_le_pow_right (by omega) (by omega)
    omega
  obtain ⟨e1, e2, e3, e4, e5⟩ := tried ⟨q, hq⟩ h1
  simp only at e1 e2 e3 e4 e5
  generalize rests.getD q 0 = r at *
  generalize quots.getD q 0 = t at *
  generalize degs.getD q 0 = d at *
  rw [← mulF_eq t 5 q hq] at e1
  have hr : Rem q 283 r := ⟨⟨t, by rw [e1, Nat.xor_assoc, Nat.xor_self, Nat.xor_zero]⟩, fun d' hd' => by rw [top_one hd' ⟨e4, e5⟩]; exact e3⟩
  exact e2 ((hr.zero_iff (by omega)).2 hd)
theorem alive_product : rm 283 (pd [87, 131]) = 193 := by
  refine rm_of (by decide) ⟨⟨40, ?_⟩, fun d hd => by rw [top_one hd top_283]; decide⟩
  show mul (mul 1 87) 131 ^^^ 193 = mul 40 283
  rw [one_mul, mulF_eq 87 8 131 (by decide), mulF_eq 40 9 283 (by decide)]
  decide +kernel
theorem alive_len : Lib.bitLen 283 = 9 := by decide +kernel
end Gf

theorem own_two (w : World) : ∀ k, k = w.heap.size → ∀ x, k < (w.alloc x).heap.size := fun k hk x => by subst hk; exact lt_of_heap (heap_alloc_self _ _)

set_option maxRecDepth 100000 in
theorem alive6_any (w : World) : Calls Try.prog 9 #[] w fun e w' => e = .returned (.bool true) ∧ Quiet w w' := by
  have HM : Hid (∀ W : World, Calls Try.prog 17 #[.int .u64 283, .slice (some ⟨W.heap.size, 0, none⟩) 2 2] (W.alloc (.cells #[.int .u64 87, .int .u64 131] 22)) fun e w' => e = .returned (.tuple #[.int .u64 193, .nilIface]) ∧ Quiet W w') := fun W => by
    have h1 := mulmod_any (m := 283) (nums_two W (x := 87) (y := 131) (by omega) (by omega)) (fun k hk => own_two W k hk _) (by simp) (by omega) (by omega)
    rw [Gf.alive_product] at h1
    exact h1.mono fun e w' ⟨a, b⟩ => ⟨a, (Only.alloc _).trans b⟩
  have HI : Hid (∀ W : World, Calls Try.prog 24 #[.int .u64 283] W fun e w' => e = .returned (.bool true) ∧ Quiet W w') := fun W => by
    have h1 := irr_any (p := 283) (by omega) W
    rwa [Gf.irr_of Gf.irr_283] at h1
  have HD : Hid (∀ W : World, Calls Try.prog 12 #[.int .u64 283] W fun e w' => e = .returned (.int .i64 8) ∧ W = w') := fun W => by
    have h1 := deg_any (x := 283) (by omega) W
    rwa [Gf.alive_len] at h1
  go_enter Try.func9, Try.ntmps9
  go_wp2_with fail
  refine (HM.out w).mono ?_; rintro e w1 ⟨rfl, hq⟩; have HQ1 := Lib.hid hq; clear hq
  go_wp2_with fail
  refine (HI.out _).mono ?_; rintro e w2 ⟨rfl, hq⟩; have HQ2 := Lib.hid hq; clear hq
  go_wp2_with fail
  refine (HD.out _).mono ?_; rintro e w3 ⟨rfl, rfl⟩
  go_wp2_with fail
  go_ret
  exact ⟨rfl, HQ1.out.trans HQ2.out⟩

set_option maxRecDepth 100000 in
theorem polyPrimes_any {w : World} {p : Nat} (h64 : p < 18446744073709551616) : Calls Try.prog 5 #[.int .u64 (p : Int)] w fun e w' => e = .returned (.bool true) ∧ Quiet w w' := by
  have HA := Lib.hid alive6_any
  have HI := Lib.hid (fun W => irr_any h64 W)
  have HJ := Lib.hid (fun W => r6irr_any h64 W)
  generalize Gf.irr p = b at *
  go_enter Try.func5, Try.ntmps5
  go_wp2_with fail
  refine (HA.out _).mono ?_; rintro e w1 ⟨rfl, hq⟩; have HQ1 := Lib.hid hq; clear hq
  go_wp2_with fail
  refine (HI.out _).mono ?_; rintro e w2 ⟨rfl, hq⟩; have HQ2 := Lib.hid hq; clear hq
  go_wp2_with fail
  refine (HJ.out _).mono ?_; rintro e w3 ⟨rfl, hq⟩; have HQ3 := Lib.hid hq; clear hq
  go_wp2_with fail
  go_ret
  exact ⟨rfl, (HQ1.out.trans HQ2.out).trans HQ3.out⟩

end Go.Proofs.Ytfbnpafanjppbaa
