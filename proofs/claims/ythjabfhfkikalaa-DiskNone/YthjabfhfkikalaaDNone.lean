/- What a nil disk answers, whatever the name and the number: the law DiskNone. Conditions: none. -/
import Derived.Test.YthjabfhfkikalaaNil
import Derived.ProofKit
namespace Go.Proofs.Ythjabfhfkikalaa
open Go.RowKit Go.Maps Go.WideMaps

theorem num28 (w : World) : Calls Try.prog 17 #[.iface 46 (.int .i64 28)] w fun e w' => e = .returned (.int .i64 28) ∧ w = w' := num_err 28 w (by omega)

set_option maxRecDepth 100000 in
set_option maxHeartbeats 2000000 in
theorem diskNone_any (nm : ByteArray) (n : Int) (w : World) : Calls Try.prog 6 #[.string nm, .int .i64 n] w fun e w' => e = .returned (.bool true) ∧ Below w.heap.size w w' := by
  go_enter Try.func6, Try.ntmps6
  go_wp2_with (first
    | (go_at_call 17; refine (num28 _).mono ?_; rintro e w' ⟨rfl, rfl⟩)
    | (go_at_call 9; refine (alive_any _).mono ?_; rintro e w1 ⟨rfl, ho⟩; have HO1 := Lib.hid ho; clear ho)
    | (go_at_call 15; refine (nil_Crash _ _).mono ?_; rintro e w2 ⟨rfl, ho⟩; have HO2 := Lib.hid ho; clear ho)
    | (go_at_call 18; refine (nil_Read _ _).mono ?_; rintro e w3 ⟨rfl, ho⟩; have HO3 := Lib.hid ho; clear ho)
    | (go_at_call 19; refine (nil_ReadAt _ _ _ _).mono ?_; rintro e w4 ⟨rfl, ho⟩; have HO4 := Lib.hid ho; clear ho)
    | (go_at_call 20; refine (nil_Create _ _).mono ?_; rintro e w5 ⟨rfl, ho⟩; have HO5 := Lib.hid ho; clear ho)
    | (go_at_call 21; refine (nil_Append _ _).mono ?_; rintro e w6 ⟨rfl, ho⟩; have HO6 := Lib.hid ho; clear ho)
    | (go_at_call 22; refine (nil_Sync _ _).mono ?_; rintro e w7 ⟨rfl, ho⟩; have HO7 := Lib.hid ho; clear ho)
    | (go_at_call 23; refine (nil_SyncDir _).mono ?_; rintro e w' ⟨rfl, rfl⟩)
    | (go_at_call 24; refine (nil_Rename _ _ _).mono ?_; rintro e w8 ⟨rfl, ho⟩; have HO8 := Lib.hid ho; clear ho)
    | (go_at_call 25; refine (nil_Remove _ _).mono ?_; rintro e w9 ⟨rfl, ho⟩; have HO9 := Lib.hid ho; clear ho)
    | (go_at_call 26; refine (nil_Arm _ _).mono ?_; rintro e w' ⟨rfl, rfl⟩)
    | (go_at_call 27; refine (nil_Fail _ _).mono ?_; rintro e w' ⟨rfl, rfl⟩)
    | (go_at_call 28; refine (nil_Put _ _ _).mono ?_; rintro e w' ⟨rfl, rfl⟩)
    | (go_at_call 29; refine (nil_Drop _ _).mono ?_; rintro e w' ⟨rfl, rfl⟩)
    | (go_at_call 30; refine (nil_List _).mono ?_; rintro e w' ⟨rfl, rfl⟩)
    | (go_at_call 12; refine (nil_Files _).mono ?_; rintro e w' ⟨rfl, rfl⟩)
    | (go_at_call 31; refine (nil_Used _).mono ?_; rintro e w' ⟨rfl, rfl⟩)
    | (go_at_call 13; refine (nil_Steps _).mono ?_; rintro e w' ⟨rfl, rfl⟩)
    | (go_at_call 32; refine (nil_Down _).mono ?_; rintro e w' ⟨rfl, rfl⟩))
  go_ret
  have h := (((((((((HO1.out.trans HO2.out).trans HO3.out).trans HO4.out).trans HO5.out).trans HO6.out).trans HO7.out).trans HO8.out).trans HO9.out).trans (Only.alloc (.cells #[.int .i64 n] 3)))
  exact ⟨rfl, h.below (Nat.le_refl _) (fun _ _ x => x)⟩

end Go.Proofs.Ythjabfhfkikalaa
