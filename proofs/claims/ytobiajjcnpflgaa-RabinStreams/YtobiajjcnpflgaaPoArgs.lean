/- What words as arguments read as. Conditions: none. -/
import Derived.Test.YtobiajjcnpflgaaPoAlive
import Derived.Test.YtobiajjcnpflgaaGArgs
namespace Go.Proofs.Ytobiajjcnpflgaa
open Go.ChangeShapes Go.WideShapes Go.ChangeAt Go.RowKit

theorem word_nat {a : Int} (h : 0 ≤ a ∧ a ≤ 18446744073709551615) : ∃ n : Nat, a = (n : Int) ∧ n < 18446744073709551616 := ⟨a.toNat, by omega, by omega⟩

end Go.Proofs.Ytobiajjcnpflgaa
