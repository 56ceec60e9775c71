/- bits.Len64. Conditions: none. -/
import Derived.Test.YtobiajjcnpflgaaRows
import Derived.Lib.Walk
import Derived.Lib.BitFns
namespace Go.Proofs.Ytobiajjcnpflgaa

theorem len_part {x s : Nat} {b : Int} (hx : x < 18446744073709551616) (hs : 2 ^ s ≤ x) (hb : b = ((x / 2 ^ s : Nat) : Int)) (hl : x / 2 ^ s < 256) : Lib.len8 b + (s : Int) = (Lib.bitLen x : Int) ∧ Lib.len8 b ≤ 8 ∧ 0 ≤ Lib.len8 b := by
  subst hb
  generalize hq : x / 2 ^ s = q at *
  rw [Lib.len8_of _ (by omega) (by omega), Lib.bitLen_shift s x hs hx, hq]
  have := Lib.bitLen_le8 ⟨q, hl⟩
  simp only [Int.toNat_natCast] at *
  omega

theorem len_part' {x s n : Nat} {b : Int} (hn : n = 2 ^ s) (hx : x < 18446744073709551616) (hs : n ≤ x) (hb : b = ((x / n : Nat) : Int)) (hl : x / n < 256) : Lib.len8 b + (s : Int) = (Lib.bitLen x : Int) ∧ Lib.len8 b ≤ 8 ∧ 0 ≤ Lib.len8 b := by
  subst hn; exact len_part hx hs hb hl

set_option maxHeartbeats 4000000 in
set_option maxRecDepth 100000 in
theorem len64_any {x : Nat} (hx : x < 18446744073709551616) (w : World) : Calls Try.prog 44 #[.int .u64 (x : Int)] w fun e w' => e = .returned (.int .i64 (Lib.bitLen x : Int)) ∧ w' = w := by
  go_enter Try.func44, Try.ntmps44
  go_wp2
  all_goals go_ret
  all_goals refine ⟨congrArg Ending.returned (congrArg (Value.int IntKind.i64) ?_), rfl⟩
  all_goals first
    | (have hp := len_part' (s := 56) (n := 72057594037927936) (b := ↑x / 4294967296 / 65536 / 256 % 256) (by decide) hx (by omega) (by omega) (by omega)
       omega)
    | (have hp := len_part' (s := 48) (n := 281474976710656) (b := ↑x / 4294967296 / 65536 % 256) (by decide) hx (by omega) (by omega) (by omega)
       omega)
    | (have hp := len_part' (s := 40) (n := 1099511627776) (b := ↑x / 4294967296 / 256 % 256) (by decide) hx (by omega) (by omega) (by omega)
       omega)
    | (have hp := len_part' (s := 32) (n := 4294967296) (b := ↑x / 4294967296 % 256) (by decide) hx (by omega) (by omega) (by omega)
       omega)
    | (have hp := len_part' (s := 24) (n := 16777216) (b := ↑x / 65536 / 256 % 256) (by decide) hx (by omega) (by omega) (by omega)
       omega)
    | (have hp := len_part' (s := 16) (n := 65536) (b := ↑x / 65536 % 256) (by decide) hx (by omega) (by omega) (by omega)
       omega)
    | (have hp := len_part' (s := 8) (n := 256) (b := ↑x / 256 % 256) (by decide) hx (by omega) (by omega) (by omega)
       omega)
    | (rcases (show x = 0 ∨ 1 ≤ x by omega) with rfl | h1
       · decide
       · have hp := len_part' (s := 0) (n := 1) (b := ↑x % 256) (by decide) hx (by omega) (by omega) (by omega)
         omega)

end Go.Proofs.Ytobiajjcnpflgaa
