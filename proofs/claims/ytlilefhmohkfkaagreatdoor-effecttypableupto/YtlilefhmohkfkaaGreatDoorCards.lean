/-
  DERIVED. GIVEN WITH THE SEED: THE CARDS: each row of YtlilefhmohkfkaaGreatDoorRows.lean that lists a variable, with what it lists TIED to the program's text (the seventh form; the later family's looks); each row that meets fmt, with fmt's text TOLD by the authors' own Lean function (tested against real Go, not proved from fmt's source: count such statements apart). THE CARD IS WHAT COUNTS. Prove the row's statement (the work); the ties are given (YtlilefhmohkfkaaGreatDoorTie.lean); close each card by the builder's one call (the guide's Derived/Test/ToyasCard.lean, 'card_holds'). Laid BY PROGRAM, IN A SANDBOX (cutbox-door.mjs). By AI agents, Wed Nov 11 2026. No macro, syntax, notation, axiom, sorry.
-/
import Derived.Test.YtlilefhmohkfkaaGreatDoorRows
import GoSem.ClaimSeven
namespace Go.Proofs.YtlilefhmohkfkaaGreatDoor
namespace Rows

/-- THE TIED CARD OF 'wisplaw11.EffectJoins'. -/
def effectJoinsCard : Claim7 := { stood := { row := effectJoinsRow, standIns := [], harness := (true, "d9f25b22b4358304febc88b86cd2fb4e427a470861a98789c3a31201e5c9f0dc"), looks := true }, kinds := [], alts := [], laidByText := true, laidKinds := [.widerDeep], laidTests := true, laidLooks := .later }
def EffectJoinsCardSaid : Prop := Claim7.holds Tryz.pinned (.plain (OpenSpec.ofChange effectJoinsSpec)) effectJoinsCard

/-- THE TIED CARD OF 'wisplaw11.EffectNames'. -/
def effectNamesCard : Claim7 := { stood := { row := effectNamesRow, standIns := [], harness := (true, "d9f25b22b4358304febc88b86cd2fb4e427a470861a98789c3a31201e5c9f0dc"), looks := true }, kinds := [], alts := [], laidByText := true, laidKinds := [.widerDeep], laidTests := true, laidLooks := .later }
def EffectNamesCardSaid : Prop := Claim7.holds Tryz.pinned (.plain (OpenSpec.ofChange effectNamesSpec)) effectNamesCard

/-- THE TIED CARD OF 'wisplaw11.EffectShapes'. -/
def effectShapesCard : Claim7 := { stood := { row := effectShapesRow, standIns := [], harness := (true, "d9f25b22b4358304febc88b86cd2fb4e427a470861a98789c3a31201e5c9f0dc"), looks := true }, kinds := [], alts := [], laidByText := true, laidKinds := [.widerDeep], laidTests := true, laidLooks := .later }
def EffectShapesCardSaid : Prop := Claim7.holds Tryz.pinned (.plain (OpenSpec.ofChange effectShapesSpec)) effectShapesCard

/-- THE TIED CARD OF 'wisplaw11.EffectTypable'. -/
def effectTypableCard : Claim7 := { stood := { row := effectTypableRow, standIns := [], harness := (true, "d9f25b22b4358304febc88b86cd2fb4e427a470861a98789c3a31201e5c9f0dc"), looks := true }, kinds := [], alts := [], laidByText := true, laidKinds := [.widerDeep], laidTests := true, laidLooks := .later }
def EffectTypableCardSaid : Prop := Claim7.holds Tryz.pinned (.plain (OpenSpec.ofChange effectTypableSpec)) effectTypableCard

/-- THE SECOND FORM's CARD OF 'wisplaw11.EffectJoins'. -/
def effectJoinsUptoCard : Claim7 := { stood := { row := effectJoinsUptoRow, standIns := [], harness := (true, "d9f25b22b4358304febc88b86cd2fb4e427a470861a98789c3a31201e5c9f0dc"), looks := true }, kinds := [], alts := [], laidByText := true, laidKinds := [.widerDeep], laidTests := true, laidLooks := .later }
def EffectJoinsUptoCardSaid : Prop := Claim7.holds Tryz.pinned (.plain (OpenSpec.upto effectJoinsSpec)) effectJoinsUptoCard

/-- THE SECOND FORM's CARD OF 'wisplaw11.EffectNames'. -/
def effectNamesUptoCard : Claim7 := { stood := { row := effectNamesUptoRow, standIns := [], harness := (true, "d9f25b22b4358304febc88b86cd2fb4e427a470861a98789c3a31201e5c9f0dc"), looks := true }, kinds := [], alts := [], laidByText := true, laidKinds := [.widerDeep], laidTests := true, laidLooks := .later }
def EffectNamesUptoCardSaid : Prop := Claim7.holds Tryz.pinned (.plain (OpenSpec.upto effectNamesSpec)) effectNamesUptoCard

/-- THE SECOND FORM's CARD OF 'wisplaw11.EffectShapes'. -/
def effectShapesUptoCard : Claim7 := { stood := { row := effectShapesUptoRow, standIns := [], harness := (true, "d9f25b22b4358304febc88b86cd2fb4e427a470861a98789c3a31201e5c9f0dc"), looks := true }, kinds := [], alts := [], laidByText := true, laidKinds := [.widerDeep], laidTests := true, laidLooks := .later }
def EffectShapesUptoCardSaid : Prop := Claim7.holds Tryz.pinned (.plain (OpenSpec.upto effectShapesSpec)) effectShapesUptoCard

/-- THE SECOND FORM's CARD OF 'wisplaw11.EffectTypable'. -/
def effectTypableUptoCard : Claim7 := { stood := { row := effectTypableUptoRow, standIns := [], harness := (true, "d9f25b22b4358304febc88b86cd2fb4e427a470861a98789c3a31201e5c9f0dc"), looks := true }, kinds := [], alts := [], laidByText := true, laidKinds := [.widerDeep], laidTests := true, laidLooks := .later }
def EffectTypableUptoCardSaid : Prop := Claim7.holds Tryz.pinned (.plain (OpenSpec.upto effectTypableSpec)) effectTypableUptoCard
end Rows
end Go.Proofs.YtlilefhmohkfkaaGreatDoor
