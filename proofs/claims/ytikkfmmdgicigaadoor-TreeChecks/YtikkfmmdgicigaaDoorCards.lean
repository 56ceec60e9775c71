/-
  DERIVED. GIVEN WITH THE SEED: THE CARDS: each row of YtikkfmmdgicigaaDoorRows.lean that lists a variable, with what it lists TIED to the program's text (the seventh form; the later family's looks); each row that meets fmt, with fmt's text TOLD by the authors' own Lean function (tested against real Go, not proved from fmt's source: count such statements apart). THE CARD IS WHAT COUNTS. Prove the row's statement (the work); the ties are given (YtikkfmmdgicigaaDoorTie.lean); close each card by the builder's one call (the guide's Derived/Test/ToyasCard.lean, 'card_holds'). Laid BY PROGRAM, IN A SANDBOX (cutbox-door.mjs). By AI agents, Wed Nov 11 2026. No macro, syntax, notation, axiom, sorry.
-/
import Derived.Test.YtikkfmmdgicigaaDoorRows
import GoSem.ClaimSeven
namespace Go.Proofs.YtikkfmmdgicigaaDoor
namespace Rows

/-- THE TIED CARD OF 'amphoralaw09.TreeChecks'. -/
def treeChecksCard : Claim7 := { stood := { row := treeChecksRow, standIns := [], harness := (true, "bc004a77847da11c8929df6506577bf4cee249ee1bc6a8e94572d9db69286c2a"), looks := true }, kinds := [], alts := [], laidByText := true, laidKinds := [.data, .pinned], laidTests := true, laidLooks := .later }
def TreeChecksCardSaid : Prop := Claim7.holds Tryd.pinned (.plain (OpenSpec.ofChange treeChecksSpec)) treeChecksCard

/-- THE TIED CARD OF 'amphoralaw09.TreeBuilds'. -/
def treeBuildsCard : Claim7 := { stood := { row := treeBuildsRow, standIns := [], harness := (true, "bc004a77847da11c8929df6506577bf4cee249ee1bc6a8e94572d9db69286c2a"), looks := true }, kinds := [], alts := [], laidByText := true, laidKinds := [.data, .pinned], laidTests := true, laidLooks := .later }
def TreeBuildsCardSaid : Prop := Claim7.holds Tryd.pinned (.plain (OpenSpec.ofChange treeBuildsSpec)) treeBuildsCard

/-- THE TIED CARD OF 'amphoralaw09.TreeLooks'. -/
def treeLooksCard : Claim7 := { stood := { row := treeLooksRow, standIns := [], harness := (true, "bc004a77847da11c8929df6506577bf4cee249ee1bc6a8e94572d9db69286c2a"), looks := true }, kinds := [], alts := [], laidByText := true, laidKinds := [.data, .pinned], laidTests := true, laidLooks := .later }
def TreeLooksCardSaid : Prop := Claim7.holds Tryd.pinned (.plain (OpenSpec.ofChange treeLooksSpec)) treeLooksCard

/-- THE TIED CARD OF 'amphoralaw09.TreeSames'. -/
def treeSamesCard : Claim7 := { stood := { row := treeSamesRow, standIns := [], harness := (true, "bc004a77847da11c8929df6506577bf4cee249ee1bc6a8e94572d9db69286c2a"), looks := true }, kinds := [], alts := [], laidByText := true, laidKinds := [.data, .pinned], laidTests := true, laidLooks := .later }
def TreeSamesCardSaid : Prop := Claim7.holds Tryd.pinned (.plain (OpenSpec.ofChange treeSamesSpec)) treeSamesCard

/-- THE TIED CARD OF 'amphoralaw09.TreeRebuilds'. -/
def treeRebuildsCard : Claim7 := { stood := { row := treeRebuildsRow, standIns := [], harness := (true, "bc004a77847da11c8929df6506577bf4cee249ee1bc6a8e94572d9db69286c2a"), looks := true }, kinds := [], alts := [], laidByText := true, laidKinds := [.data, .pinned], laidTests := true, laidLooks := .later }
def TreeRebuildsCardSaid : Prop := Claim7.holds Tryd.pinned (.plain (OpenSpec.ofChange treeRebuildsSpec)) treeRebuildsCard

/-- THE TIED CARD OF 'amphoralaw09.TreeParents'. -/
def treeParentsCard : Claim7 := { stood := { row := treeParentsRow, standIns := [], harness := (true, "bc004a77847da11c8929df6506577bf4cee249ee1bc6a8e94572d9db69286c2a"), looks := true }, kinds := [], alts := [], laidByText := true, laidKinds := [.data, .pinned], laidTests := true, laidLooks := .later }
def TreeParentsCardSaid : Prop := Claim7.holds Tryd.pinned (.plain (OpenSpec.ofChange treeParentsSpec)) treeParentsCard

/-- THE SECOND FORM's CARD OF 'amphoralaw09.TreeChecks'. -/
def treeChecksUptoCard : Claim7 := { stood := { row := treeChecksUptoRow, standIns := [], harness := (true, "bc004a77847da11c8929df6506577bf4cee249ee1bc6a8e94572d9db69286c2a"), looks := true }, kinds := [], alts := [], laidByText := true, laidKinds := [.data, .pinned], laidTests := true, laidLooks := .later }
def TreeChecksUptoCardSaid : Prop := Claim7.holds Tryd.pinned (.plain (OpenSpec.upto treeChecksSpec)) treeChecksUptoCard

/-- THE SECOND FORM's CARD OF 'amphoralaw09.TreeBuilds'. -/
def treeBuildsUptoCard : Claim7 := { stood := { row := treeBuildsUptoRow, standIns := [], harness := (true, "bc004a77847da11c8929df6506577bf4cee249ee1bc6a8e94572d9db69286c2a"), looks := true }, kinds := [], alts := [], laidByText := true, laidKinds := [.data, .pinned], laidTests := true, laidLooks := .later }
def TreeBuildsUptoCardSaid : Prop := Claim7.holds Tryd.pinned (.plain (OpenSpec.upto treeBuildsSpec)) treeBuildsUptoCard

/-- THE SECOND FORM's CARD OF 'amphoralaw09.TreeLooks'. -/
def treeLooksUptoCard : Claim7 := { stood := { row := treeLooksUptoRow, standIns := [], harness := (true, "bc004a77847da11c8929df6506577bf4cee249ee1bc6a8e94572d9db69286c2a"), looks := true }, kinds := [], alts := [], laidByText := true, laidKinds := [.data, .pinned], laidTests := true, laidLooks := .later }
def TreeLooksUptoCardSaid : Prop := Claim7.holds Tryd.pinned (.plain (OpenSpec.upto treeLooksSpec)) treeLooksUptoCard

/-- THE SECOND FORM's CARD OF 'amphoralaw09.TreeSames'. -/
def treeSamesUptoCard : Claim7 := { stood := { row := treeSamesUptoRow, standIns := [], harness := (true, "bc004a77847da11c8929df6506577bf4cee249ee1bc6a8e94572d9db69286c2a"), looks := true }, kinds := [], alts := [], laidByText := true, laidKinds := [.data, .pinned], laidTests := true, laidLooks := .later }
def TreeSamesUptoCardSaid : Prop := Claim7.holds Tryd.pinned (.plain (OpenSpec.upto treeSamesSpec)) treeSamesUptoCard

/-- THE SECOND FORM's CARD OF 'amphoralaw09.TreeRebuilds'. -/
def treeRebuildsUptoCard : Claim7 := { stood := { row := treeRebuildsUptoRow, standIns := [], harness := (true, "bc004a77847da11c8929df6506577bf4cee249ee1bc6a8e94572d9db69286c2a"), looks := true }, kinds := [], alts := [], laidByText := true, laidKinds := [.data, .pinned], laidTests := true, laidLooks := .later }
def TreeRebuildsUptoCardSaid : Prop := Claim7.holds Tryd.pinned (.plain (OpenSpec.upto treeRebuildsSpec)) treeRebuildsUptoCard

/-- THE SECOND FORM's CARD OF 'amphoralaw09.TreeParents'. -/
def treeParentsUptoCard : Claim7 := { stood := { row := treeParentsUptoRow, standIns := [], harness := (true, "bc004a77847da11c8929df6506577bf4cee249ee1bc6a8e94572d9db69286c2a"), looks := true }, kinds := [], alts := [], laidByText := true, laidKinds := [.data, .pinned], laidTests := true, laidLooks := .later }
def TreeParentsUptoCardSaid : Prop := Claim7.holds Tryd.pinned (.plain (OpenSpec.upto treeParentsSpec)) treeParentsUptoCard
end Rows
end Go.Proofs.YtikkfmmdgicigaaDoor
