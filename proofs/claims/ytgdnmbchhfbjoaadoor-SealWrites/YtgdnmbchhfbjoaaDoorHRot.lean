/- rotr, and the document's own turn. Conditions: the number of bits is one of those that SHA-256 asks for. -/
import Derived.Test.YtgdnmbchhfbjoaaDoorHPure
import Derived.Test.YtgdnmbchhfbjoaaDoorGMem
import Derived.Test.YtgdnmbchhfbjoaaDoorGBytes
import Derived.IntWalk
namespace Go.Proofs.YtgdnmbchhfbjoaaDoor
open Go.RowKit

set_option maxRecDepth 100000 in
theorem hrotl_any (x n : Int) (hn : n ∈ Sh.turns) (w : World) : Calls Tryd.prog 81 #[.int .u32 x, .int .i64 (-n)] w fun e w' => e = .returned (.int .u32 (Sh.rot x n)) ∧ w = w' := by
  simp only [Sh.turns, List.mem_cons, List.not_mem_nil, or_false] at hn
  rcases hn with rfl | rfl | rfl | rfl | rfl | rfl | rfl | rfl | rfl | rfl
  · have hb : bits .and .u64 (IntKind.u64.wrap (-2)) 31 = 30 := by decide
    go_enter Tryd.func81, Tryd.ntmps81
    go_wp2
    go_ret
    exact ⟨by unfold Sh.rot; rw [bits_or_comm]; rfl, rfl⟩
  · have hb : bits .and .u64 (IntKind.u64.wrap (-6)) 31 = 26 := by decide
    go_enter Tryd.func81, Tryd.ntmps81
    go_wp2
    go_ret
    exact ⟨by unfold Sh.rot; rw [bits_or_comm]; rfl, rfl⟩
  · have hb : bits .and .u64 (IntKind.u64.wrap (-7)) 31 = 25 := by decide
    go_enter Tryd.func81, Tryd.ntmps81
    go_wp2
    go_ret
    exact ⟨by unfold Sh.rot; rw [bits_or_comm]; rfl, rfl⟩
  · have hb : bits .and .u64 (IntKind.u64.wrap (-11)) 31 = 21 := by decide
    go_enter Tryd.func81, Tryd.ntmps81
    go_wp2
    go_ret
    exact ⟨by unfold Sh.rot; rw [bits_or_comm]; rfl, rfl⟩
  · have hb : bits .and .u64 (IntKind.u64.wrap (-13)) 31 = 19 := by decide
    go_enter Tryd.func81, Tryd.ntmps81
    go_wp2
    go_ret
    exact ⟨by unfold Sh.rot; rw [bits_or_comm]; rfl, rfl⟩
  · have hb : bits .and .u64 (IntKind.u64.wrap (-17)) 31 = 15 := by decide
    go_enter Tryd.func81, Tryd.ntmps81
    go_wp2
    go_ret
    exact ⟨by unfold Sh.rot; rw [bits_or_comm]; rfl, rfl⟩
  · have hb : bits .and .u64 (IntKind.u64.wrap (-18)) 31 = 14 := by decide
    go_enter Tryd.func81, Tryd.ntmps81
    go_wp2
    go_ret
    exact ⟨by unfold Sh.rot; rw [bits_or_comm]; rfl, rfl⟩
  · have hb : bits .and .u64 (IntKind.u64.wrap (-19)) 31 = 13 := by decide
    go_enter Tryd.func81, Tryd.ntmps81
    go_wp2
    go_ret
    exact ⟨by unfold Sh.rot; rw [bits_or_comm]; rfl, rfl⟩
  · have hb : bits .and .u64 (IntKind.u64.wrap (-22)) 31 = 10 := by decide
    go_enter Tryd.func81, Tryd.ntmps81
    go_wp2
    go_ret
    exact ⟨by unfold Sh.rot; rw [bits_or_comm]; rfl, rfl⟩
  · have hb : bits .and .u64 (IntKind.u64.wrap (-25)) 31 = 7 := by decide
    go_enter Tryd.func81, Tryd.ntmps81
    go_wp2
    go_ret
    exact ⟨by unfold Sh.rot; rw [bits_or_comm]; rfl, rfl⟩

theorem rotr_any (x n : Int) (hn : n ∈ Sh.turns) (w : World) : Calls Tryd.prog 79 #[.int .u32 x, .int .i64 n] w fun e w' => e = .returned (.int .u32 (Sh.rot x n)) ∧ w = w' := by
  have h1 : 0 ≤ n ∧ n ≤ 32 := by
    simp only [Sh.turns, List.mem_cons, List.not_mem_nil, or_false] at hn
    omega
  obtain ⟨h1, h2⟩ := h1
  have H := Lib.hid (hrotl_any x n hn)
  clear hn
  go_enter Tryd.func79, Tryd.ntmps79
  go_wp2_with (go_at_call 81; refine (H.out _).mono ?_; rintro e w' ⟨rfl, rfl⟩)
  go_ret
  exact ⟨rfl, rfl⟩

theorem turn_any (x n : Int) (hn : n ∈ Sh.turns) (w : World) : Calls Tryd.prog 62 #[.int .u32 x, .int .u64 n] w fun e w' => e = .returned (.int .u32 (Sh.rot x n)) ∧ w = w' := by
  simp only [Sh.turns, List.mem_cons, List.not_mem_nil, or_false] at hn
  rcases hn with rfl | rfl | rfl | rfl | rfl | rfl | rfl | rfl | rfl | rfl
  all_goals
    go_enter Tryd.func62, Tryd.ntmps62
    go_wp2
    go_ret
    exact ⟨rfl, rfl⟩

end Go.Proofs.YtgdnmbchhfbjoaaDoor
