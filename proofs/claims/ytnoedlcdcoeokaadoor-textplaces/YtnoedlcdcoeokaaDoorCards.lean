/-
  DERIVED. GIVEN WITH THE SEED: THE CARDS: each row of YtnoedlcdcoeokaaDoorRows.lean that lists a variable, with what it lists TIED to the program's text (the seventh form; the later family's looks); each row that meets fmt, with fmt's text TOLD by the authors' own Lean function (tested against real Go, not proved from fmt's source: count such statements apart). THE CARD IS WHAT COUNTS. Prove the row's statement (the work); the ties are given (YtnoedlcdcoeokaaDoorTie.lean); close each card by the builder's one call (the guide's Derived/Test/ToyasCard.lean, 'card_holds'). Laid BY PROGRAM, IN A SANDBOX (cutbox-door.mjs). By AI agents, Wed Nov 11 2026. No macro, syntax, notation, axiom, sorry.
-/
import Derived.Test.YtnoedlcdcoeokaaDoorRows
import GoSem.ClaimSeven
namespace Go.Proofs.YtnoedlcdcoeokaaDoor
namespace Rows

/-- THE TIED CARD OF 'wisplaw02.TextRise'. -/
def textRiseCard : Claim7 := { stood := { row := textRiseRow, standIns := [], harness := (true, "6e7de1ea426cc5dc57d8dc973b8552888ceea8e7b8383aa9a3d2088a27c79dd8"), looks := false }, kinds := [], alts := [], laidByText := true, laidKinds := [.data, .data, .data], laidTests := true, laidLooks := .later }
def TextRiseCardSaid : Prop := Claim7.holds Tryd.pinned (.plain (OpenSpec.ofChange textRiseSpec)) textRiseCard

/-- THE TIED CARD OF 'wisplaw02.TextNames'. -/
def textNamesCard : Claim7 := { stood := { row := textNamesRow, standIns := [], harness := (true, "6e7de1ea426cc5dc57d8dc973b8552888ceea8e7b8383aa9a3d2088a27c79dd8"), looks := false }, kinds := [], alts := [], laidByText := true, laidKinds := [.data, .data, .data], laidTests := true, laidLooks := .later }
def TextNamesCardSaid : Prop := Claim7.holds Tryd.pinned (.plain (OpenSpec.ofChange textNamesSpec)) textNamesCard

/-- THE TIED CARD OF 'wisplaw02.TextForms'. -/
def textFormsCard : Claim7 := { stood := { row := textFormsRow, standIns := [], harness := (true, "6e7de1ea426cc5dc57d8dc973b8552888ceea8e7b8383aa9a3d2088a27c79dd8"), looks := false }, kinds := [], alts := [], laidByText := true, laidKinds := [.data, .data, .data], laidTests := true, laidLooks := .later }
def TextFormsCardSaid : Prop := Claim7.holds Tryd.pinned (.plain (OpenSpec.ofChange textFormsSpec)) textFormsCard

/-- THE TIED CARD OF 'wisplaw02.TextCells'. -/
def textCellsCard : Claim7 := { stood := { row := textCellsRow, standIns := [], harness := (true, "6e7de1ea426cc5dc57d8dc973b8552888ceea8e7b8383aa9a3d2088a27c79dd8"), looks := false }, kinds := [], alts := [], laidByText := true, laidKinds := [.data, .data, .data], laidTests := true, laidLooks := .later }
def TextCellsCardSaid : Prop := Claim7.holds Tryd.pinned (.plain (OpenSpec.ofChange textCellsSpec)) textCellsCard

/-- THE TIED CARD OF 'wisplaw02.TextPlaces'. -/
def textPlacesCard : Claim7 := { stood := { row := textPlacesRow, standIns := [], harness := (true, "6e7de1ea426cc5dc57d8dc973b8552888ceea8e7b8383aa9a3d2088a27c79dd8"), looks := false }, kinds := [], alts := [], laidByText := true, laidKinds := [.data, .data, .data], laidTests := true, laidLooks := .later }
def TextPlacesCardSaid : Prop := Claim7.holds Tryd.pinned (.plain (OpenSpec.ofChange textPlacesSpec)) textPlacesCard

/-- THE TIED CARD OF 'wisplaw02.TextNumerals'. -/
def textNumeralsCard : Claim7 := { stood := { row := textNumeralsRow, standIns := [], harness := (true, "6e7de1ea426cc5dc57d8dc973b8552888ceea8e7b8383aa9a3d2088a27c79dd8"), looks := false }, kinds := [], alts := [], laidByText := true, laidKinds := [.data, .data, .data], laidTests := true, laidLooks := .later }
def TextNumeralsCardSaid : Prop := Claim7.holds Tryd.pinned (.plain (OpenSpec.ofChange textNumeralsSpec)) textNumeralsCard

/-- THE SECOND FORM's CARD OF 'wisplaw02.TextRise'. -/
def textRiseUptoCard : Claim7 := { stood := { row := textRiseUptoRow, standIns := [], harness := (true, "6e7de1ea426cc5dc57d8dc973b8552888ceea8e7b8383aa9a3d2088a27c79dd8"), looks := false }, kinds := [], alts := [], laidByText := true, laidKinds := [.data, .data, .data], laidTests := true, laidLooks := .later }
def TextRiseUptoCardSaid : Prop := Claim7.holds Tryd.pinned (.plain (OpenSpec.upto textRiseSpec)) textRiseUptoCard

/-- THE SECOND FORM's CARD OF 'wisplaw02.TextNames'. -/
def textNamesUptoCard : Claim7 := { stood := { row := textNamesUptoRow, standIns := [], harness := (true, "6e7de1ea426cc5dc57d8dc973b8552888ceea8e7b8383aa9a3d2088a27c79dd8"), looks := false }, kinds := [], alts := [], laidByText := true, laidKinds := [.data, .data, .data], laidTests := true, laidLooks := .later }
def TextNamesUptoCardSaid : Prop := Claim7.holds Tryd.pinned (.plain (OpenSpec.upto textNamesSpec)) textNamesUptoCard

/-- THE SECOND FORM's CARD OF 'wisplaw02.TextForms'. -/
def textFormsUptoCard : Claim7 := { stood := { row := textFormsUptoRow, standIns := [], harness := (true, "6e7de1ea426cc5dc57d8dc973b8552888ceea8e7b8383aa9a3d2088a27c79dd8"), looks := false }, kinds := [], alts := [], laidByText := true, laidKinds := [.data, .data, .data], laidTests := true, laidLooks := .later }
def TextFormsUptoCardSaid : Prop := Claim7.holds Tryd.pinned (.plain (OpenSpec.upto textFormsSpec)) textFormsUptoCard

/-- THE SECOND FORM's CARD OF 'wisplaw02.TextCells'. -/
def textCellsUptoCard : Claim7 := { stood := { row := textCellsUptoRow, standIns := [], harness := (true, "6e7de1ea426cc5dc57d8dc973b8552888ceea8e7b8383aa9a3d2088a27c79dd8"), looks := false }, kinds := [], alts := [], laidByText := true, laidKinds := [.data, .data, .data], laidTests := true, laidLooks := .later }
def TextCellsUptoCardSaid : Prop := Claim7.holds Tryd.pinned (.plain (OpenSpec.upto textCellsSpec)) textCellsUptoCard

/-- THE SECOND FORM's CARD OF 'wisplaw02.TextPlaces'. -/
def textPlacesUptoCard : Claim7 := { stood := { row := textPlacesUptoRow, standIns := [], harness := (true, "6e7de1ea426cc5dc57d8dc973b8552888ceea8e7b8383aa9a3d2088a27c79dd8"), looks := false }, kinds := [], alts := [], laidByText := true, laidKinds := [.data, .data, .data], laidTests := true, laidLooks := .later }
def TextPlacesUptoCardSaid : Prop := Claim7.holds Tryd.pinned (.plain (OpenSpec.upto textPlacesSpec)) textPlacesUptoCard

/-- THE SECOND FORM's CARD OF 'wisplaw02.TextNumerals'. -/
def textNumeralsUptoCard : Claim7 := { stood := { row := textNumeralsUptoRow, standIns := [], harness := (true, "6e7de1ea426cc5dc57d8dc973b8552888ceea8e7b8383aa9a3d2088a27c79dd8"), looks := false }, kinds := [], alts := [], laidByText := true, laidKinds := [.data, .data, .data], laidTests := true, laidLooks := .later }
def TextNumeralsUptoCardSaid : Prop := Claim7.holds Tryd.pinned (.plain (OpenSpec.upto textNumeralsSpec)) textNumeralsUptoCard
end Rows
end Go.Proofs.YtnoedlcdcoeokaaDoor
