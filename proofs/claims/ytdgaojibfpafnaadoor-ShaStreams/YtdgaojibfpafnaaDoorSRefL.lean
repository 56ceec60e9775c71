/- The loops of the document's own SHA-256, taken out of its text. Conditions: none. -/
import Derived.Test.YtdgaojibfpafnaaDoorSRefLem
namespace Go.Proofs.YtdgaojibfpafnaaDoor
open Go.RowKit

/-- The loops of a text, outer ones first. -/
def loopsOf : Code → List Code
  | .loop c => c :: loopsOf c
  | .seq a b => loopsOf a ++ loopsOf b
  | .block _ c => loopsOf c
  | .scope c => loopsOf c
  | .cond _ a b => loopsOf a ++ loopsOf b
  | _ => []
noncomputable def rloop (n : Nat) : Code := ((Tryd.f13.body.map loopsOf).getD []).getD n .skip

end Go.Proofs.YtdgaojibfpafnaaDoor
