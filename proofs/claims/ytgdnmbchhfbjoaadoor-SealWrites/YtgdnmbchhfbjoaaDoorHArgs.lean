/- What the arguments of the laws read as: rows of bytes; and what the two tables of package sha hold. Conditions: rows within the reach. -/
import Derived.Test.YtgdnmbchhfbjoaaDoorGArgs
import Derived.Test.YtgdnmbchhfbjoaaDoorHHash
import Derived.ChangeSlices
import Derived.ChangeArms
import Derived.ChangeSame
import Derived.Deep.Slices
import Derived.Lib.SmallJoins
import Derived.OpenShut
import Derived.SizedLaws
import Derived.ProofKit
import Derived.ShutString
import Derived.Lib.LaidTab
import Derived.Lay
import Derived.LaidMore
import Derived.MakeChecks
import Derived.Stop.Joined
namespace Go.Proofs.YtgdnmbchhfbjoaaDoor
open Go.RowKit


open Go.ChangeShapes Go.WideShapes Go.ChangeAt

/-- The list of the two tables. -/
def laidList : List (String × DataW Unit) := [("amphora/sha.first", Rows.laid_amphora_sha_first), ("amphora/sha.rounds", Rows.laid_amphora_sha_rounds)]

theorem gFirst : Tryd.prog.globalNamed "amphora/sha.first" = some 0 := by kernel_rfl
theorem gRounds : Tryd.prog.globalNamed "amphora/sha.rounds" = some 1 := by kernel_rfl
theorem tFirst : (Tryd.prog.globals[0]?).map (·.type) = some 109 := by kernel_rfl
theorem tRounds : (Tryd.prog.globals[1]?).map (·.type) = some 101 := by kernel_rfl

/-- What the condition gives: the two tables' cells. -/
theorem of_laid {W : World} (h : laidMetH Tryd.prog laidList W) : Fst W ∧ Tab W := by
  rw [MakeChecks.laidMetH_plain _ _ _ (by kernel_rfl)] at h
  obtain ⟨ps, ⟨g0, t0, cs0, f0, p0, q0, hg0, ht0, hv0, hd0, ⟨g1, t1, cs1, f1, p1, q1, hg1, ht1, hv1, hd1, _, _⟩, _⟩, _, _⟩ := h
  obtain rfl := Option.some.inj (gFirst.symm.trans hg0)
  obtain rfl := Option.some.inj (gRounds.symm.trans hg1)
  obtain rfl := Option.some.inj (tFirst.symm.trans ht0)
  obtain rfl := Option.some.inj (tRounds.symm.trans ht1)
  have e0 := Lib.cells_of_tab (k := .u32) (zs := Sh.h0.list) Tryd.underlying109 Tryd.underlying88 (by kernel_rfl) (by kernel_rfl) hd0
  have e1 := Lib.cells_of_tab (k := .u32) (zs := Sh.ks) Tryd.underlying101 Tryd.underlying88 (by kernel_rfl) (by kernel_rfl) hd1
  refine ⟨fun j v hv => ?_, fun j hj => ?_⟩
  · have := World.var?_cell hg0 hv0 j
    rw [Nat.zero_add, this, ← Array.getElem?_toList, e0]
    exact hv
  · have := World.var?_cell hg1 hv1 j
    rw [this, ← Array.getElem?_toList, e1]
    have hl : j < Sh.ks.length := hj
    simp [hl]

theorem laid_met (os : Os) (args : Array Value) : laidMetH Tryd.prog laidList ((World.laidAll Tryd.prog os laidList).forCall (fun _ _ => 0) ⟨#[], args, []⟩).memory := by
  rw [MakeChecks.laidMetH_plain _ _ _ (by kernel_rfl)]
  exact laidMet_laidAll _ (by kernel_rfl) (by kernel_rfl)
theorem laid_shaped (os : Os) : (World.laidAll Tryd.prog os laidList).Shaped Tryd.prog := World.shaped_of_ZipB (by kernel_rfl) (by kernel_rfl)

end Go.Proofs.YtgdnmbchhfbjoaaDoor
