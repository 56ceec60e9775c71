/- What four words in a struct read as. Conditions: none. -/
import Derived.Test.YtobiajjcnpflgaaPoArgs
namespace Go.Proofs.Ytobiajjcnpflgaa
open Go.ChangeShapes Go.WideShapes Go.ChangeAt Go.RowKit

theorem word_open {H : Type} {enc : TypeId × Value → H} {w : World} {base : Nat} {spare : Nat → Bool} {held : Bool} {fuel : Nat} {c : Value} {x : DataW H × List MemPlace} (h : DataW.trod enc Try.prog w base spare held fuel 22 [c] = some x) :
    ∃ n : Nat, c = .int .u64 (n : Int) ∧ n < 18446744073709551616 := by
  obtain ⟨j, e, _, hj⟩ := DataW.trod_int Try.underlying22 h
  obtain ⟨n, rfl, hn⟩ := word_nat (bounds_u64 hj)
  exact ⟨n, (List.cons.inj (show [c] = [.int .u64 (n : Int)] from e)).1, hn⟩

end Go.Proofs.Ytobiajjcnpflgaa
