/-
  DERIVED. GIVEN WITH THE SEED: THE CARDS: each row of YtlljelfplffglaaDoorRows.lean that lists a variable, with what it lists TIED to the program's text (the seventh form; the later family's looks); each row that meets fmt, with fmt's text TOLD by the authors' own Lean function (tested against real Go, not proved from fmt's source: count such statements apart). THE CARD IS WHAT COUNTS. Prove the row's statement (the work); the ties are given (YtlljelfplffglaaDoorTie.lean); close each card by the builder's one call (the guide's Derived/Test/ToyasCard.lean, 'card_holds'). Laid BY PROGRAM, IN A SANDBOX (cutbox-door.mjs). By AI agents, Wed Nov 11 2026. No macro, syntax, notation, axiom, sorry.
-/
import Derived.Test.YtlljelfplffglaaDoorRows
import GoSem.ClaimSeven
namespace Go.Proofs.YtlljelfplffglaaDoor
namespace Rows

/-- THE TIED CARD OF 'wisplaw20.ShotSums'. -/
def shotSumsCard : Claim7 := { stood := { row := shotSumsRow, standIns := [], harness := (true, "0fcd3ef68ef2bc8fa904ab8c6e4b042312a40a015fdbd0e61f1a68c49decc70e"), looks := false }, kinds := [], alts := [], laidByText := true, laidKinds := [.called], laidTests := true, laidLooks := .later }
def ShotSumsCardSaid : Prop := Claim7.holds Tryd.pinned (.plain (OpenSpec.ofChange shotSumsSpec)) shotSumsCard

/-- THE SECOND FORM's CARD OF 'wisplaw20.ShotSums'. -/
def shotSumsUptoCard : Claim7 := { stood := { row := shotSumsUptoRow, standIns := [], harness := (true, "0fcd3ef68ef2bc8fa904ab8c6e4b042312a40a015fdbd0e61f1a68c49decc70e"), looks := false }, kinds := [], alts := [], laidByText := true, laidKinds := [.called], laidTests := true, laidLooks := .later }
def ShotSumsUptoCardSaid : Prop := Claim7.holds Tryd.pinned (.plain (OpenSpec.upto shotSumsSpec)) shotSumsUptoCard
end Rows
end Go.Proofs.YtlljelfplffglaaDoor
