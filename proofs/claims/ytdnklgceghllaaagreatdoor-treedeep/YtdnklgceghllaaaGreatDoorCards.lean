/-
  DERIVED. GIVEN WITH THE SEED: THE CARDS: each row of YtdnklgceghllaaaGreatDoorRows.lean that lists a variable, with what it lists TIED to the program's text (the seventh form; the later family's looks); each row that meets fmt, with fmt's text TOLD by the authors' own Lean function (tested against real Go, not proved from fmt's source: count such statements apart). THE CARD IS WHAT COUNTS. Prove the row's statement (the work); the ties are given (YtdnklgceghllaaaGreatDoorTie.lean); close each card by the builder's one call (the guide's Derived/Test/ToyasCard.lean, 'card_holds'). Laid BY PROGRAM, IN A SANDBOX (cutbox-door.mjs). By AI agents, Wed Nov 11 2026. No macro, syntax, notation, axiom, sorry.
-/
import Derived.Test.YtdnklgceghllaaaGreatDoorRows
import GoSem.ClaimSeven
namespace Go.Proofs.YtdnklgceghllaaaGreatDoor
namespace Rows

/-- THE TIED CARD OF 'wisplaw10.TreeBack'. -/
def treeBackCard : Claim7 := { stood := { row := treeBackRow, standIns := [], harness := (true, "f07719b033429e5f548ea6c4e9a0285c596ed17bc378c80b9054a00eb3b0a870"), looks := true }, kinds := [], alts := [], laidByText := true, laidKinds := [.data, .data, .data], laidTests := true, laidLooks := .later }
def TreeBackCardSaid : Prop := Claim7.holds Tryz.pinned (.plain (OpenSpec.ofChange treeBackSpec)) treeBackCard

/-- THE TIED CARD OF 'wisplaw10.TreeBuilt'. -/
def treeBuiltCard : Claim7 := { stood := { row := treeBuiltRow, standIns := [], harness := (true, "f07719b033429e5f548ea6c4e9a0285c596ed17bc378c80b9054a00eb3b0a870"), looks := true }, kinds := [], alts := [], laidByText := true, laidKinds := [.data, .data, .data], laidTests := true, laidLooks := .later }
def TreeBuiltCardSaid : Prop := Claim7.holds Tryz.pinned (.plain (OpenSpec.ofChange treeBuiltSpec)) treeBuiltCard

/-- THE TIED CARD OF 'wisplaw10.TreeDeep'. -/
def treeDeepCard : Claim7 := { stood := { row := treeDeepRow, standIns := [], harness := (true, "f07719b033429e5f548ea6c4e9a0285c596ed17bc378c80b9054a00eb3b0a870"), looks := true }, kinds := [], alts := [], laidByText := true, laidKinds := [.data, .data, .data], laidTests := true, laidLooks := .later }
def TreeDeepCardSaid : Prop := Claim7.holds Tryz.pinned (.plain (OpenSpec.ofChange treeDeepSpec)) treeDeepCard

/-- THE TIED CARD OF 'wisplaw10.TreeBlanks'. -/
def treeBlanksCard : Claim7 := { stood := { row := treeBlanksRow, standIns := [], harness := (true, "f07719b033429e5f548ea6c4e9a0285c596ed17bc378c80b9054a00eb3b0a870"), looks := true }, kinds := [], alts := [], laidByText := true, laidKinds := [.data, .data, .data], laidTests := true, laidLooks := .later }
def TreeBlanksCardSaid : Prop := Claim7.holds Tryz.pinned (.plain (OpenSpec.ofChange treeBlanksSpec)) treeBlanksCard

/-- THE TIED CARD OF 'wisplaw10.TreeFirst'. -/
def treeFirstCard : Claim7 := { stood := { row := treeFirstRow, standIns := [], harness := (true, "f07719b033429e5f548ea6c4e9a0285c596ed17bc378c80b9054a00eb3b0a870"), looks := true }, kinds := [], alts := [], laidByText := true, laidKinds := [.data, .data, .data], laidTests := true, laidLooks := .later }
def TreeFirstCardSaid : Prop := Claim7.holds Tryz.pinned (.plain (OpenSpec.ofChange treeFirstSpec)) treeFirstCard

/-- THE TIED CARD OF 'wisplaw10.TreeNames'. -/
def treeNamesCard : Claim7 := { stood := { row := treeNamesRow, standIns := [], harness := (true, "f07719b033429e5f548ea6c4e9a0285c596ed17bc378c80b9054a00eb3b0a870"), looks := true }, kinds := [], alts := [], laidByText := true, laidKinds := [.data, .data, .data, .widerDeep], laidTests := true, laidLooks := .later }
def TreeNamesCardSaid : Prop := Claim7.holds Tryz.pinned (.plain (OpenSpec.ofChange treeNamesSpec)) treeNamesCard

/-- THE SECOND FORM's CARD OF 'wisplaw10.TreeBack'. -/
def treeBackUptoCard : Claim7 := { stood := { row := treeBackUptoRow, standIns := [], harness := (true, "f07719b033429e5f548ea6c4e9a0285c596ed17bc378c80b9054a00eb3b0a870"), looks := true }, kinds := [], alts := [], laidByText := true, laidKinds := [.data, .data, .data], laidTests := true, laidLooks := .later }
def TreeBackUptoCardSaid : Prop := Claim7.holds Tryz.pinned (.plain (OpenSpec.upto treeBackSpec)) treeBackUptoCard

/-- THE SECOND FORM's CARD OF 'wisplaw10.TreeBuilt'. -/
def treeBuiltUptoCard : Claim7 := { stood := { row := treeBuiltUptoRow, standIns := [], harness := (true, "f07719b033429e5f548ea6c4e9a0285c596ed17bc378c80b9054a00eb3b0a870"), looks := true }, kinds := [], alts := [], laidByText := true, laidKinds := [.data, .data, .data], laidTests := true, laidLooks := .later }
def TreeBuiltUptoCardSaid : Prop := Claim7.holds Tryz.pinned (.plain (OpenSpec.upto treeBuiltSpec)) treeBuiltUptoCard

/-- THE SECOND FORM's CARD OF 'wisplaw10.TreeDeep'. -/
def treeDeepUptoCard : Claim7 := { stood := { row := treeDeepUptoRow, standIns := [], harness := (true, "f07719b033429e5f548ea6c4e9a0285c596ed17bc378c80b9054a00eb3b0a870"), looks := true }, kinds := [], alts := [], laidByText := true, laidKinds := [.data, .data, .data], laidTests := true, laidLooks := .later }
def TreeDeepUptoCardSaid : Prop := Claim7.holds Tryz.pinned (.plain (OpenSpec.upto treeDeepSpec)) treeDeepUptoCard

/-- THE SECOND FORM's CARD OF 'wisplaw10.TreeBlanks'. -/
def treeBlanksUptoCard : Claim7 := { stood := { row := treeBlanksUptoRow, standIns := [], harness := (true, "f07719b033429e5f548ea6c4e9a0285c596ed17bc378c80b9054a00eb3b0a870"), looks := true }, kinds := [], alts := [], laidByText := true, laidKinds := [.data, .data, .data], laidTests := true, laidLooks := .later }
def TreeBlanksUptoCardSaid : Prop := Claim7.holds Tryz.pinned (.plain (OpenSpec.upto treeBlanksSpec)) treeBlanksUptoCard

/-- THE SECOND FORM's CARD OF 'wisplaw10.TreeFirst'. -/
def treeFirstUptoCard : Claim7 := { stood := { row := treeFirstUptoRow, standIns := [], harness := (true, "f07719b033429e5f548ea6c4e9a0285c596ed17bc378c80b9054a00eb3b0a870"), looks := true }, kinds := [], alts := [], laidByText := true, laidKinds := [.data, .data, .data], laidTests := true, laidLooks := .later }
def TreeFirstUptoCardSaid : Prop := Claim7.holds Tryz.pinned (.plain (OpenSpec.upto treeFirstSpec)) treeFirstUptoCard

/-- THE SECOND FORM's CARD OF 'wisplaw10.TreeNames'. -/
def treeNamesUptoCard : Claim7 := { stood := { row := treeNamesUptoRow, standIns := [], harness := (true, "f07719b033429e5f548ea6c4e9a0285c596ed17bc378c80b9054a00eb3b0a870"), looks := true }, kinds := [], alts := [], laidByText := true, laidKinds := [.data, .data, .data, .widerDeep], laidTests := true, laidLooks := .later }
def TreeNamesUptoCardSaid : Prop := Claim7.holds Tryz.pinned (.plain (OpenSpec.upto treeNamesSpec)) treeNamesUptoCard
end Rows
end Go.Proofs.YtdnklgceghllaaaGreatDoor
