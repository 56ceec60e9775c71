/- The document's own Reader: its calls. Conditions: the row is short. -/
import Derived.Test.YtlfbdhgppmmahaaWiRefR
namespace Go.Proofs.Ytlfbdhgppmmahaa
open Go.RowKit

set_option maxRecDepth 100000 in
theorem r4field_bad {w : World} {S : Nat → Prop} {v : Value} {bs : List UInt8} (hv : BytesAt w S v bs) (hS : ∀ k, S k → k < w.heap.size) (hl : bs.length ≤ 1048576) (hf : Wi.field bs = none) :
    Calls Try.prog 23 #[v] w fun e w' => e = .returned (.tuple #[.slice none 0 0, .int .i64 (-1)]) ∧ Only (fun _ => False) w w' := by
  obtain ⟨va, vc, rfl⟩ := hv.shape
  have HRD := Lib.hid (r4ReadVar_any hv hS (by omega))
  rcases field_cases bs with ⟨hr, _⟩ | ⟨n, j, hr, h1, _⟩ | ⟨n, j, hr, h1, h2, _⟩ | ⟨_, _, _, _, _, h3⟩
  · have HRV : Hid (Calls Try.prog 28 #[.slice va bs.length vc] w fun e w' => e = .returned (.tuple #[.int .i64 0, .int .i64 0, .int .i64 9]) ∧ Only (fun _ => False) w w') := by
      refine HRD.out.mono ?_
      rintro e w' ⟨ho, ⟨n', k', e1, rfl⟩ | ⟨e1, rfl⟩⟩
      · rw [hr] at e1; cases e1
      · exact ⟨rfl, ho⟩
    clear hv hS hf hr HRD
    go_enter Try.func23, Try.ntmps23
    go_wp2_with (go_at_call 28; refine HRV.out.mono ?_; rintro e w1 ⟨rfl, ho1⟩; have HO1 := Lib.hid ho1; clear ho1)
    go_ret2
    exact ⟨rfl, HO1.out⟩
  · have HRV : Hid (Calls Try.prog 28 #[.slice va bs.length vc] w fun e w' => e = .returned (.tuple #[.int .i64 (n : Int), .int .i64 (j : Int), .int .i64 0]) ∧ Only (fun _ => False) w w') := by
      refine HRD.out.mono ?_
      rintro e w' ⟨ho, ⟨n', k', e1, rfl⟩ | ⟨e1, _⟩⟩
      · rw [hr] at e1
        obtain ⟨rfl, rfl⟩ := Prod.mk.inj (Option.some.inj e1)
        exact ⟨rfl, ho⟩
      · rw [hr] at e1; cases e1
    have g1 : (n : Int) > 67108864 := by omega
    clear hv hS hf hr HRD
    go_enter Try.func23, Try.ntmps23
    go_wp2_with (go_at_call 28; refine HRV.out.mono ?_; rintro e w1 ⟨rfl, ho1⟩; have HO1 := Lib.hid ho1; clear ho1)
    go_ret2
    exact ⟨rfl, HO1.out⟩
  · have hjl := (Wi.readVar_some hr).le
    have h2' : bs.length - j < n := by simpa using h2
    have HRV : Hid (Calls Try.prog 28 #[.slice va bs.length vc] w fun e w' => e = .returned (.tuple #[.int .i64 (n : Int), .int .i64 (j : Int), .int .i64 0]) ∧ Only (fun _ => False) w w') := by
      refine HRD.out.mono ?_
      rintro e w' ⟨ho, ⟨n', k', e1, rfl⟩ | ⟨e1, _⟩⟩
      · rw [hr] at e1
        obtain ⟨rfl, rfl⟩ := Prod.mk.inj (Option.some.inj e1)
        exact ⟨rfl, ho⟩
      · rw [hr] at e1; cases e1
    have g1 : ¬ (n : Int) > 67108864 := by omega
    have g2 : (n : Int) > (bs.length : Int) - (j : Int) := by omega
    clear hv hS hf hr HRD h2
    go_enter Try.func23, Try.ntmps23
    go_wp2_with (go_at_call 28; refine HRV.out.mono ?_; rintro e w1 ⟨rfl, ho1⟩; have HO1 := Lib.hid ho1; clear ho1)
    go_ret2
    exact ⟨rfl, HO1.out⟩
  · rw [hf] at h3; cases h3

end Go.Proofs.Ytlfbdhgppmmahaa
