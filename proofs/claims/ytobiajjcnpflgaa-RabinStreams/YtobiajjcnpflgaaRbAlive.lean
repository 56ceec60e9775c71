/- The fixed fact of layer 7, and RabinNone. Conditions: none. -/
import Derived.Test.YtobiajjcnpflgaaRbCut
import Derived.Test.YtobiajjcnpflgaaRbPrint
import Derived.Test.YtobiajjcnpflgaaPoAlive
namespace Go.Proofs.Ytobiajjcnpflgaa
open Go.RowKit

namespace Rb
def cA : Cfg := ⟨283, 8, 1, 1, 4, 8⟩
theorem cA_ok : cA.Ok := ⟨Gf.irr_283, Gf.top_283, by decide, by decide, by decide, by decide, by decide, by decide, by decide, by decide, by decide⟩
def eA (l : List UInt8) : Bool := decide (1 ≤ l.length) && (decide (l.length ≤ 4) && (decide (l.length = 4) || decide ((l.getLast?.getD 0).toNat = 255)))
theorem val_one (b : UInt8) : val [b] = b.toNat := by unfold val; simp
theorem fp_one (b : UInt8) : fp 283 [b] = b.toNat := by unfold fp; rw [val_one]; exact rm_small Gf.top_283 b.toNat_lt
theorem ends_cA (l : List UInt8) : cA.ends l = eA l := by
  refine snoc_ind (P := fun l => cA.ends l = eA l) (by simp [Cfg.ends, eA, cA]) (fun l b _ => ?_) l
  have e1 : cA.fw (l ++ [b]) = b.toNat := by
    have : wind cA.win (l ++ [b]) = [b] := by unfold wind cA; simp
    unfold Cfg.fw
    rw [this]
    exact fp_one b
  have e2 : ones cA.bits b.toNat = decide (b.toNat = 255) := by
    have h1 : b.toNat &&& 255 = b.toNat := by rw [show (255 : Nat) = 2 ^ 8 - 1 by decide, Nat.and_two_pow_sub_one_eq_mod]; exact Nat.mod_eq_of_lt b.toNat_lt
    have h2 : 2 ^ cA.bits - 1 = 255 := by decide
    unfold ones
    simp only [h2, h1]
  unfold Cfg.ends eA
  rw [e1, e2]
  simp [cA]
theorem cuts_cA : cuts cA.ends [0, 255, 1, 2, 3, 4, 5] = [2, 4, 1] := by
  rw [show cA.ends = eA from funext ends_cA]
  decide +kernel
theorem fp_alive : fp 283 [87, 131] = 243 := by
  unfold fp
  refine Gf.rm_of (by decide) ⟨⟨80, ?_⟩, fun d hd => by rw [Gf.top_one hd Gf.top_283]; decide⟩
  rw [Gf.mulF_eq 80 9 283 (by decide)]
  decide +kernel
end Rb

theorem ints_new (W : World) (xs : List Nat) (h : ∀ x ∈ xs, x < 9223372036854775808) : IntsAt (W.alloc (.cells (xs.map iV).toArray 3)) (fun k => k = W.heap.size) (.slice (some ⟨W.heap.size, 0, none⟩) xs.length xs.length) xs := by
  refine ⟨some ⟨W.heap.size, 0, none⟩, xs.length, rfl, Nat.le_refl _, fun i hi => ⟨_, rfl, rfl, ?_, h _ (List.getElem_mem hi)⟩⟩
  rw [add_lit, cell_of (heap_alloc_last _ _)]
  simp [iV, hi]
theorem bytes_new (W : World) (bs : List UInt8) : BytesAt (W.alloc (.cells (bs.map byteV).toArray 5)) (fun k => k = W.heap.size) (.slice (some ⟨W.heap.size, 0, none⟩) bs.length bs.length) bs :=
  BytesAt.of_block (o := 0) (Blk.new W (bs.map byteV) 5).heap (Nat.le_refl _) (fun j x hx => by rw [Nat.zero_add, List.getElem?_map, hx]; rfl)
theorem size_new (W : World) (x : Obj) : ∀ k, k = W.heap.size → k < (W.alloc x).heap.size := fun k hk => by subst hk; simp
/-- One row, as a list of parts in a new block. -/
theorem parts_new {W : World} {S : Nat → Prop} {v : Value} {bs : List UInt8} (hv : BytesAt W S v bs) (hS : ∀ k, S k → k < W.heap.size) :
    PartsAt (W.alloc (.cells #[v] 25)) (fun k => k < (W.alloc (.cells #[v] 25)).heap.size) (.slice (some ⟨W.heap.size, 0, none⟩) 1 1) [bs] :=
  part_at (Blk.new W [v] 25) (hv.only (T := fun _ => False) (Only.alloc _) hS (fun _ _ x => x)) (fun k hk => Nat.lt_of_lt_of_le (hS k hk) (Only.alloc (w := W) _).size)

set_option maxRecDepth 100000 in
set_option maxHeartbeats 1000000 in
theorem alive7_any (w : World) : Calls Try.prog 10 #[] w fun e w' => e = .returned (.bool true) ∧ Quiet w w' := by
  have HC : Hid (∀ W : World, Calls Try.prog 13 #[.agg #[.int .u64 283, .int .i64 1, .int .i64 1, .int .i64 4, .int .i64 8], .slice (some ⟨W.heap.size, 0, none⟩) 7 7] (W.alloc (.cells #[.int .u8 0, .int .u8 255, .int .u8 1, .int .u8 2, .int .u8 3, .int .u8 4, .int .u8 5] 5)) fun e w' => ∃ a k, e = .returned (.tuple #[.slice a 3 k, .nilIface]) ∧ IntsAt w' (fun k => k < w'.heap.size) (.slice a 3 k) [2, 4, 1] ∧ Quiet W w') := fun W => by
    have h1 := cut7_any Rb.cA_ok (bytes_new W [0, 255, 1, 2, 3, 4, 5]) (size_new W _) (by decide)
    rw [Rb.cuts_cA] at h1
    exact h1.mono fun e w' ⟨a, k, h2, h3⟩ => ⟨a, k, h2, h3.ints (by decide), (Only.alloc _).trans h3.only⟩
  have HP : Hid (∀ W : World, Calls Try.prog 19 #[.int .u64 283, .slice (some ⟨W.heap.size + 1, 0, none⟩) 1 1] ((W.alloc (.cells #[.int .u8 87, .int .u8 131] 5)).alloc (.cells #[.slice (some ⟨W.heap.size, 0, none⟩) 2 2] 25)) fun e w' => e = .returned (.tuple #[.int .u64 243, .nilIface]) ∧ Quiet W w') := fun W => by
    have h0 := parts_new (bytes_new W [87, 131]) (size_new W _)
    have h1 := print_any (p := 283) (by decide) (by decide) h0 (fun _ h => h) (by decide) (by decide)
    rw [show ([[87, 131]] : List (List UInt8)).flatten = [87, 131] from rfl, Rb.fp_alive, World.size_alloc] at h1
    exact h1.mono fun e w' ⟨h2, h3⟩ => ⟨h2, ((Only.alloc _).trans (Only.alloc _)).trans h3⟩
  have HI : Hid (∀ (W : World) (a : Option Addr) (k : Nat), IntsAt W (fun k => k < W.heap.size) (.slice a 3 k) [2, 4, 1] → Calls Try.prog 15 #[.slice a 3 k, .slice (some ⟨W.heap.size, 0, none⟩) 3 3] (W.alloc (.cells #[.int .i64 2, .int .i64 4, .int .i64 1] 3)) fun e w' => e = .returned (.bool true) ∧ Quiet W w') := fun W a k h => by
    have h1 := ints_same (h.quiet (Only.alloc _) (fun _ h => h)) (ints_new W [2, 4, 1] (by decide)) (by decide)
    exact h1.mono fun e w' ⟨h2, h3⟩ => ⟨h2, (Only.alloc _).trans h3⟩
  go_enter Try.func10, Try.ntmps10
  go_wp2_with fail
  refine (HC.out _).mono ?_
  rintro e w1 ⟨a, k, rfl, hi, hq⟩
  have HQ1 := Lib.hid hq
  have HI1 := Lib.hid hi
  clear hq hi
  go_wp2_with fail

  refine (HP.out _).mono ?_
  rintro e w2 ⟨rfl, hq⟩
  have HQ2 := Lib.hid (HQ1.out.trans hq)
  have h2 : IntsAt w2 (fun k => k < w2.heap.size) (.slice a 3 k) [2, 4, 1] := HI1.out.kept (fun k hk => hq.block k hk (fun x => x)) (fun _ h => Nat.lt_of_lt_of_le h hq.size)
  have HI2 := Lib.hid (HI.out w2 a k h2)
  clear hq h2
  go_wp2_with fail
  refine HI2.out.mono ?_
  rintro e w3 ⟨rfl, hq⟩
  have HQ3 := Lib.hid (HQ2.out.trans hq)
  clear hq
  go_wp2_with fail
  go_ret
  exact ⟨rfl, HQ3.out⟩

theorem cWr_nil (v : Value) (w : World) : Calls Try.prog 24 #[.pointer none, v] w fun e w' => e = .returned (.slice none 0 0) ∧ w = w' := by
  go_enter Try.func24, Try.ntmps24
  go_wp2
  go_ret
  exact ⟨rfl, rfl⟩
theorem cLeft_nil (w : World) : Calls Try.prog 26 #[.pointer none] w fun e w' => e = .returned (.int .i64 0) ∧ w = w' := by
  go_enter Try.func26, Try.ntmps26
  go_wp2
  go_ret
  exact ⟨rfl, rfl⟩
theorem cEnd_nil (w : World) : Calls Try.prog 27 #[.pointer none] w fun e w' => e = .returned (.slice none 0 0) ∧ w = w' := by
  have H := Lib.hid cLeft_nil
  go_enter Try.func27, Try.ntmps27
  go_wp2_with fail
  refine (H.out _).mono ?_
  rintro e w1 ⟨rfl, rfl⟩
  go_wp2_with fail
  go_ret
  exact ⟨rfl, rfl⟩

set_option maxRecDepth 100000 in
theorem rabinNone_any {w : World} {S : Nat → Prop} {v : Value} {bs : List UInt8} (hv : BytesAt w S v bs) (_ : ∀ k, S k → k < w.heap.size) (_ : bs.length ≤ 140737488351232) : Calls Try.prog 9 #[v] w fun e w' => e = .returned (.bool true) ∧ Quiet w w' := by
  obtain ⟨va, vc, rfl⟩ := hv.shape
  clear hv
  generalize bs.length = vn at *
  have HA := Lib.hid alive7_any
  have H1 := Lib.hid cWr_nil
  have H2 := Lib.hid cLeft_nil
  have H3 := Lib.hid cEnd_nil
  go_enter Try.func9, Try.ntmps9
  go_wp2_with fail
  refine (HA.out _).mono ?_
  rintro e w1 ⟨rfl, hq⟩
  have HQ1 := Lib.hid hq
  clear hq
  go_wp2_with fail
  refine (H1.out _ _).mono ?_
  rintro e w2 ⟨rfl, rfl⟩
  go_wp2_with fail
  refine (H3.out _).mono ?_
  rintro e w2 ⟨rfl, rfl⟩
  go_wp2_with fail
  refine (H2.out _).mono ?_
  rintro e w2 ⟨rfl, rfl⟩
  go_wp2_with fail
  go_ret
  exact ⟨rfl, HQ1.out.trans (Only.alloc _)⟩

end Go.Proofs.Ytobiajjcnpflgaa
