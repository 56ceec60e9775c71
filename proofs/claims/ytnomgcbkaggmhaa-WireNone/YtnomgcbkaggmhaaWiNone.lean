/- The law WireNone. Conditions: none. -/
import Derived.Test.YtnomgcbkaggmhaaWiField
import Derived.Test.YtnomgcbkaggmhaaWiAlive
import Derived.Test.YtnomgcbkaggmhaaGNum
namespace Go.Proofs.Ytnomgcbkaggmhaa
open Go.RowKit

set_option maxRecDepth 100000 in
theorem wireNone_any {w : World} {n : Int} : Calls Try.prog 9 #[.int .i64 n] w fun e w' => e = .returned (.bool true) ∧ Only (fun _ => False) w w' := by
  go_enter Try.func9, Try.ntmps9
  go_wp2_with (first
    | (go_at_call 10; refine alive_any.mono ?_; rintro e w1 ⟨rfl, ho⟩; have HO := Lib.hid ho; clear ho)
    | (go_at_call 34; refine rvar_nil.mono ?_; rintro e w' ⟨rfl, rfl⟩)
    | (go_at_call 36; refine rnum_nil.mono ?_; rintro e w' ⟨rfl, rfl⟩)
    | (go_at_call 38; refine rfield_nil.mono ?_; rintro e w' ⟨rfl, rfl⟩)
    | (go_at_call 40; refine raw_nil.mono ?_; rintro e w' ⟨rfl, rfl⟩)
    | (go_at_call 42; refine left_nil.mono ?_; rintro e w' ⟨rfl, rfl⟩)
    | (go_at_call 43; refine err_nil.mono ?_; rintro e w' ⟨rfl, rfl⟩)
    | (go_at_call 44; refine done_nil.mono ?_; rintro e w' ⟨rfl, rfl⟩)
    | (go_at_call 16; refine (num_err 9 _ (by decide)).mono ?_; rintro e w' ⟨rfl, rfl⟩))
  go_ret
  exact ⟨rfl, HO.out⟩

end Go.Proofs.Ytnomgcbkaggmhaa
