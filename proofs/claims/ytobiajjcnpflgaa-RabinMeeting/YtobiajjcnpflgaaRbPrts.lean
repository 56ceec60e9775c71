/- RabinPrints. Conditions: rows within the reach. -/
import Derived.Test.YtobiajjcnpflgaaRbAlive
import Derived.Test.YtobiajjcnpflgaaRbRefP
namespace Go.Proofs.Ytobiajjcnpflgaa
open Go.RowKit

theorem Row.start {w W : World} (hq : Quiet w W) : Row w (W.alloc (.cells #[] 5)) (.slice (some ⟨W.heap.size, 0, none⟩) 0 0) [] := by
  have hz := hq.size
  refine ⟨World.ownsRow_made W #[] 0 (Nat.zero_le _) (Nat.zero_le _) rfl, fun q h => ?_, hq.trans (Only.alloc _)⟩
  have : W.heap.size = q := Option.some.inj h
  omega

set_option maxRecDepth 100000 in
set_option maxHeartbeats 1000000 in
theorem rabinPrints_any {w : World} {p : Nat} (h64 : p < 18446744073709551616) {S T : Nat → Prop} {v u : Value} {xa xb : List UInt8} (hv : BytesAt w S v xa) (hS : ∀ k, S k → k < w.heap.size) (_ : xa.length ≤ 140737488351232)
    (hu : BytesAt w T u xb) (hT : ∀ k, T k → k < w.heap.size) (_ : xb.length ≤ 140737488351232) :
    Calls Try.prog 4 #[.int .u64 (p : Int), v, u] w fun e w' => e = .returned (.bool true) ∧ Quiet w w' := by
  have HA := Lib.hid alive7_any
  have HL := Lib.hid (fun W a n c => @large7_any W a n c)
  have HV : Hid (∀ W, Quiet w W → BytesAt W (fun k => k < W.heap.size) v xa) := fun W hq => hv.here hq hS
  have HU : Hid (∀ W, Quiet w W → BytesAt W (fun k => k < W.heap.size) u xb) := fun W hq => hu.here hq hT
  obtain ⟨va, vc, rfl⟩ := hv.shape
  obtain ⟨ua, uc, rfl⟩ := hu.shape
  clear hv hS hu hT
  by_cases ha : 1500 < xa.length
  · go_enter Try.func4, Try.ntmps4
    go_wp2_with fail
    refine (HA.out _).mono ?_; rintro e w1 ⟨rfl, hq⟩; have HQ1 := Lib.hid hq; clear hq
    go_wp2_with fail
    refine (HL.out _ _ _ _).mono ?_; rintro e w2 ⟨rfl, rfl⟩
    rw [decide_eq_true ha]
    go_wp2_with fail
    go_ret
    exact ⟨rfl, HQ1.out⟩
  by_cases hb : 1500 < xb.length
  · go_enter Try.func4, Try.ntmps4
    go_wp2_with fail
    refine (HA.out _).mono ?_; rintro e w1 ⟨rfl, hq⟩; have HQ1 := Lib.hid hq; clear hq
    go_wp2_with fail
    refine (HL.out _ _ _ _).mono ?_; rintro e w2 ⟨rfl, rfl⟩
    rw [decide_eq_false ha]
    go_wp2_with fail
    refine (HL.out _ _ _ _).mono ?_; rintro e w2 ⟨rfl, rfl⟩
    rw [decide_eq_true hb]
    go_wp2_with fail
    go_ret
    exact ⟨rfl, HQ1.out⟩
  by_cases hp : p = 0
  · subst hp
    have HZ := Lib.hid print_zero
    have q1 : ∀ w : World, (binOp .eql 31 (.iface 43 (.int .i64 27)) (.iface 43 (.int .i64 27))).run Try.prog w = .ok (.bool true) w := fun w => by kernel_rfl
    go_enter Try.func4, Try.ntmps4
    go_wp2_with fail
    refine (HA.out _).mono ?_; rintro e w1 ⟨rfl, hq⟩; have HQ1 := Lib.hid hq; clear hq
    go_wp2_with fail
    refine (HL.out _ _ _ _).mono ?_; rintro e w2 ⟨rfl, rfl⟩
    rw [decide_eq_false ha]
    go_wp2_with fail
    refine (HL.out _ _ _ _).mono ?_; rintro e w2 ⟨rfl, rfl⟩
    rw [decide_eq_false hb]
    go_wp2_with fail
    refine (HZ.out _ _).mono ?_; rintro e w2 ⟨rfl, rfl⟩
    go_wp2_with fail
    go_ret
    exact ⟨rfl, HQ1.out.trans (Only.alloc _)⟩
  · have HP : Hid (∀ W, Quiet w W → Calls Try.prog 19 #[.int .u64 (p : Int), .slice (some ⟨W.heap.size, 0, none⟩) 2 2] (W.alloc (.cells #[.slice va xa.length vc, .slice ua xb.length uc] 25)) fun e w' => e = .returned (.tuple #[.int .u64 (Rb.fp p (xa ++ xb) : Int), .nilIface]) ∧ Quiet w w') := fun W hq => by
      have h1 := print_any h64 hp (new_two (HV.out W hq) (HU.out W hq)) (fun _ h => h) (by simp) (by intro q hq; simp at hq; rcases hq with rfl | rfl <;> omega)
      have e : ([xa, xb] : List (List UInt8)).flatten = xa ++ xb := by simp
      rw [e] at h1
      exact h1.mono fun e w' ⟨h2, h3⟩ => ⟨h2, (hq.trans (Only.alloc _)).trans h3⟩
    have HR : Hid (∀ W a c, Row w W (.slice a (xa.length + xb.length) c) (xa ++ xb) → Calls Try.prog 20 #[.int .u64 (p : Int), .slice a (xa.length + xb.length) c] W fun e w' => e = .returned (.int .u64 (Rb.fp p (xa ++ xb) : Int)) ∧ Quiet W w') := fun W a c h => r7print_any h64 hp h.bytes (fun _ h => h) (by simp; omega)
    have h0 : ¬ (p : Int) = 0 := by omega
    generalize Rb.fp p (xa ++ xb) = F at *
    go_enter Try.func4, Try.ntmps4
    go_wp2_with fail
    refine (HA.out _).mono ?_; rintro e w1 ⟨rfl, hq⟩; have HQ1 := Lib.hid hq; clear hq
    go_wp2_with fail
    refine (HL.out _ _ _ _).mono ?_; rintro e w2 ⟨rfl, rfl⟩
    rw [decide_eq_false ha]
    go_wp2_with fail
    refine (HL.out _ _ _ _).mono ?_; rintro e w2 ⟨rfl, rfl⟩
    rw [decide_eq_false hb]
    go_wp2_with fail
    refine (HP.out _ HQ1.out).mono ?_; rintro e w2 ⟨rfl, hq⟩
    have HQ2 := Lib.hid hq
    have HR0 := Lib.hid (Row.start hq)
    clear hq
    go_wp2_with (first
      | (at_builtin; refine wpList_append_bytes _ rfl _ _ rfl (.slice a1 xa.length c1) (.slice ua xb.length uc) xa.length (xa.map byteV) rfl rfl HR1.out.row (HU.out _ HR1.out.only) (by omega) ?_; intro a2 c2 w4 hr hg hat; have HR2 := Lib.hid (HR1.out.app (Only.refl _ _) rfl hr hg hat); clear hr hg hat)
      | (at_builtin; refine wpList_append_bytes _ rfl _ _ rfl (.slice (some ⟨w2.heap.size, 0, none⟩) 0 0) (.slice va xa.length vc) 0 [] rfl rfl HR0.out.row (HV.out _ HR0.out.only) (by omega) ?_; intro a1 c1 w3 hr hg hat; have HR1 := Lib.hid (HR0.out.app (Only.refl _ _) rfl hr hg hat); rw [List.length_nil, Nat.zero_add, List.nil_append] at HR1; clear hr hg hat))
    refine (HR.out _ _ _ HR2.out).mono ?_; rintro e w5 ⟨rfl, hq⟩
    have HQ5 := Lib.hid (HR2.out.only.trans hq)
    clear hq
    go_wp2_with fail
    go_ret
    exact ⟨rfl, HQ5.out⟩

end Go.Proofs.Ytobiajjcnpflgaa
