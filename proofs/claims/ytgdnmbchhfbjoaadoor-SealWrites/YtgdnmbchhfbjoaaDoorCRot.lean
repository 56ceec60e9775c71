/- RotateLeft32, and the document's own left. Conditions: the number of bits is one of those that ChaCha20 asks for. -/
import Derived.Test.YtgdnmbchhfbjoaaDoorCPure
namespace Go.Proofs.YtgdnmbchhfbjoaaDoor
open Go.RowKit

set_option maxRecDepth 100000 in
theorem rotl_any (x n : Int) (hn : n ∈ Ch.turns) (w : World) : Calls Tryd.prog 81 #[.int .u32 x, .int .i64 n] w fun e w' => e = .returned (.int .u32 (Ch.rot x n)) ∧ w = w' := by
  simp only [Ch.turns, List.mem_cons, List.not_mem_nil, or_false] at hn
  rcases hn with rfl | rfl | rfl | rfl
  · have hb : bits .and .u64 16 31 = 16 := by decide
    go_enter Tryd.func81, Tryd.ntmps81
    go_wp2
    go_ret
    exact ⟨rfl, rfl⟩
  · have hb : bits .and .u64 12 31 = 12 := by decide
    go_enter Tryd.func81, Tryd.ntmps81
    go_wp2
    go_ret
    exact ⟨rfl, rfl⟩
  · have hb : bits .and .u64 8 31 = 8 := by decide
    go_enter Tryd.func81, Tryd.ntmps81
    go_wp2
    go_ret
    exact ⟨rfl, rfl⟩
  · have hb : bits .and .u64 7 31 = 7 := by decide
    go_enter Tryd.func81, Tryd.ntmps81
    go_wp2
    go_ret
    exact ⟨rfl, rfl⟩

theorem left_any (x n : Int) (hn : n ∈ Ch.turns) (w : World) : Calls Tryd.prog 72 #[.int .u32 x, .int .u64 n] w fun e w' => e = .returned (.int .u32 (Ch.rot x n)) ∧ w = w' := by
  simp only [Ch.turns, List.mem_cons, List.not_mem_nil, or_false] at hn
  rcases hn with rfl | rfl | rfl | rfl
  all_goals
    go_enter Tryd.func72, Tryd.ntmps72
    go_wp2
    go_ret
    exact ⟨rfl, rfl⟩

end Go.Proofs.YtgdnmbchhfbjoaaDoor
