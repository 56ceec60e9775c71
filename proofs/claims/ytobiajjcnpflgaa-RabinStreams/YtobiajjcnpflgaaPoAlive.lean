/- The fixed fact of layer 6, and PolyPrimes. Conditions: none. -/
import Derived.Test.YtobiajjcnpflgaaPoRefI
namespace Go.Proofs.Ytobiajjcnpflgaa
open Go.RowKit

namespace Gf
/-- The product, so that it can be worked out. -/
def mulF : Nat → Nat → Nat → Nat
  | 0, _, _ => 0
  | f + 1, a, b => bit b a ^^^ (2 * mulF f a (b / 2))
theorem mulF_eq (a : Nat) : ∀ (f b : Nat), b < 2 ^ f → mul a b = mulF f a b
  | 0, b, h => by
    have : b = 0 := by simpa using h
    subst this; exact mul_zero a
  | f + 1, b, h => by
    rw [mul_step, mulF, mulF_eq a f (b / 2) (by rw [Nat.pow_succ] at h; omega)]
def quots : List Nat := [0, 0, 141, 246, 70, 82, 123, 104, 35, 39, 41, 45, 61, 56, 52, 49, 17, 16, 19, 18, 20, 21, 22, 23, 30, 31, 28, 29, 26, 27, 24, 25]
def rests : List Nat := [0, 0, 1, 1, 3, 1, 1, 3, 3, 4, 1, 4, 7, 3, 3, 4, 11, 11, 13, 13, 11, 10, 15, 14, 11, 12, 3, 4, 3, 4, 11, 12]
def degs : List Nat := [0, 0, 1, 1, 2, 2, 2, 2, 3, 3, 3, 3, 3, 3, 3, 3, 4, 4, 4, 4, 4, 4, 4, 4, 4, 4, 4, 4, 4, 4, 4, 4]
theorem tried : ∀ q : Fin 32, 2 ≤ q.val → 283 = mulF 5 (quots.getD q.val 0) q.val ^^^ rests.getD q.val 0 ∧ rests.getD q.val 0 ≠ 0 ∧ rests.getD q.val 0 < 2 ^ degs.getD q.val 0 ∧ 2 ^ degs.getD q.val 0 ≤ q.val ∧ q.val < 2 ^ (degs.getD q.val 0 + 1) := by decide +kernel
theorem top_283 : Top 8 283 := ⟨by decide, by decide⟩
theorem irr_283 : Irr 283 := by
  rw [trial_irr top_283 (by decide)]
  intro q k h1 h2 h3 hd
  have hq : q < 32 := by
    have := h2.2
    have : 2 ^ (k + 1) ≤ 2 ^ 5 := Nat.pow_le_pow_right (by omega) (by omega)
    omega
  obtain ⟨e1, e2, e3, e4, e5⟩ := tried ⟨q, hq⟩ h1
  simp only at e1 e2 e3 e4 e5
  generalize rests.getD q 0 = r at *
  generalize quots.getD q 0 = t at *
  generalize degs.getD q 0 = d at *
  rw [← mulF_eq t 5 q hq] at e1
  have hr : Rem q 283 r := ⟨⟨t, by rw [e1, Nat.xor_assoc, Nat.xor_self, Nat.xor_zero]⟩, fun d' hd' => by rw [top_one hd' ⟨e4, e5⟩]; exact e3⟩
  exact e2 ((hr.zero_iff (by omega)).2 hd)
theorem alive_product : rm 283 (pd [87, 131]) = 193 := by
  refine rm_of (by decide) ⟨⟨40, ?_⟩, fun d hd => by rw [top_one hd top_283]; decide⟩
  show mul (mul 1 87) 131 ^^^ 193 = mul 40 283
  rw [one_mul, mulF_eq 87 8 131 (by decide), mulF_eq 40 9 283 (by decide)]
  decide +kernel
theorem alive_len : Lib.bitLen 283 = 9 := by decide +kernel
end Gf

theorem own_two (w : World) : ∀ k, k = w.heap.size → ∀ x, k < (w.alloc x).heap.size := fun k hk x => by subst hk; exact lt_of_heap (heap_alloc_self _ _)

end Go.Proofs.Ytobiajjcnpflgaa
