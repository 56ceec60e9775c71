/- The fixed fact of every statement of layer 4. Conditions: none. -/
import Derived.Test.YtlfbdhgppmmahaaWiRead
namespace Go.Proofs.Ytlfbdhgppmmahaa
open Go.RowKit

theorem var300 : Wi.var 300 = [172, 2] := by
  rw [Wi.var_big (by omega), Wi.var_small (by omega)]
  rfl
theorem read300 : Wi.readVar [172, 2, 255] = some (300, 2) := by decide

set_option maxRecDepth 100000 in
theorem alive_any {w : World} : Calls Try.prog 5 #[] w fun e w' => e = .returned (.bool true) ∧ Only (fun _ => False) w w' := by
  have hb : BytesAt (w.alloc (.cells #[.int .u8 172, .int .u8 2, .int .u8 255] 5)) (fun k => k = w.heap.size) (.slice (some ⟨w.heap.size, 0, none⟩) 3 3) [172, 2, 255] :=
    BytesAt.of_block (o := 0) (c := 3) (bs := [172, 2, 255]) (L := [.int .u8 172, .int .u8 2, .int .u8 255]) (heap_alloc_last _ _) (Nat.le_refl _) (fun j x hx => by
      match j, hx with
      | 0, hx => cases hx; rfl
      | 1, hx => cases hx; rfl
      | 2, hx => cases hx; rfl)
  have HR : Hid (Calls Try.prog 14 #[.slice (some ⟨w.heap.size, 0, none⟩) 3 3] (w.alloc (.cells #[.int .u8 172, .int .u8 2, .int .u8 255] 5)) fun e w' => w' = w.alloc (.cells #[.int .u8 172, .int .u8 2, .int .u8 255] 5) ∧ e = .returned (.tuple #[.int .i64 300, .int .i64 2, .nilIface])) := by
    refine (readVar_any hb (by simp)).mono ?_
    rintro e w' ⟨rfl, ⟨n', k', e1, rfl⟩ | ⟨e1, rfl⟩⟩
    · rw [read300] at e1
      obtain ⟨rfl, rfl⟩ := Prod.mk.inj (Option.some.inj e1)
      exact ⟨rfl, rfl⟩
    · rw [read300] at e1; cases e1
  have HO : Hid (Only (fun _ => False) w (w.alloc (.cells #[.int .u8 172, .int .u8 2, .int .u8 255] 5))) := Only.alloc _
  have HV : Hid (∀ w1, Calls Try.prog 15 #[.int .i64 300] w1 fun e w' => ∃ a c, e = .returned (.slice a 2 c) ∧ Row w1 w' (.slice a 2 c) [172, 2]) := by
    intro w1
    have := wVar_any (w := w1) (n := 300) (by omega)
    rw [var300] at this
    exact this
  clear hb
  go_enter Try.func5, Try.ntmps5
  go_wp2_with (first
    | (go_at_call 14; refine HR.out.mono ?_; rintro e w1 ⟨rfl, rfl⟩)
    | (go_at_call 15; refine (HV.out _).mono ?_; rintro e w2 ⟨a, c, rfl, hr⟩; have HO2 := Lib.hid (HO.out.trans hr.only); have ht := hr.bytes.text; clear hr))
  go_ret
  exact ⟨rfl, HO2.out⟩

end Go.Proofs.Ytlfbdhgppmmahaa
