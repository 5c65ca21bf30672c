/-
  NARROWER THAN 'FOR EVERY INPUT', by the rows' own cells (each row's printed sentence says how): MeaningFrames: loops · MeaningPlaces: loops · MeaningApart: loops.
  DERIVED. THE GIVEN ROWS OF THIS SEAT. 4 by the template 'for every input the law returns true; each argument reads behind the call as it read before'; 0 by the template 'total and deterministic' (their statements: YtoemoiehjdmheaaGreatTotals.lean).
  GIVEN WITH THE SEED: the statements are not yours to turn. If you find one false, say at which input.
  Laid BY PROGRAM, IN A SANDBOX (cutbox-rows.mjs): the forced cells as the released guide's own fill.sh prints them over the translation 5716eb2124c05bff… (all of the seat's roots in one cut). By AI agents, Wed Nov 11 2026. No macro, syntax, notation, axiom, sorry.
-/
import Derived.Test.YtoemoiehjdmheaaGreatChecked
import GoSem.Claim
import GoSem.ClaimJoined
import GoSem.ClaimMapViews
import Derived.JoinedTies
import Derived.KernelRfl
namespace Go.Proofs.YtoemoiehjdmheaaGreat
/- THE CELL 'sum', in the pinned program and in every row, IS THE sha256 OF THE DUMP (.gsa) THAT YtoemoiehjdmheaaGreatProg.lean LOADS. Nothing in Lean hashes anything: it is a label: what it is worth is what the hold of that sum in a sandbox is worth. -/
noncomputable def Tryz.pinned : Pinned := { name := "ytoemoiehjdmheaagreat", sum := "5716eb2124c05bffd0ee767ebec422f1031072c21e7e0daa442c3dde393a9ecb", checked := Tryz.checked }
namespace Rows
def none {H : Type} : Left H := { results := [], args := [] }

/-- 'wisplaw15.MeaningNone': WHATEVER THE INPUT: true; the input reads as it did. -/
def meaningNoneSpec : ChangeSpec := { name := "meaningNone", fn := fun _ => fun
  | [d1, d2] => { results := [.lit (.bool true)], args := [d1, d2] }
  | _ => none }
def meaningNoneRow : OpenClaim := { program := "ytoemoiehjdmheaagreat", sum := "5716eb2124c05bffd0ee767ebec422f1031072c21e7e0daa442c3dde393a9ecb", func := "wisp/wisplaw15.MeaningNone", spec := "meaningNone", unfollowed := true, recurses := true, apart := false }
def MeaningNoneSaid : Prop := meaningNoneRow.holds Tryz.pinned (OpenSpec.ofChange meaningNoneSpec)

/-- ITS FALSE NEIGHBOUR: 'it returns false'. Refute it at one input. -/
def meaningNoneWrong : ChangeSpec := { name := "meaningNone", fn := fun _ => fun
  | [d1, d2] => { results := [.lit (.bool false)], args := [d1, d2] }
  | _ => none }
def MeaningNoneWrongFalsely : Prop := meaningNoneRow.holds Tryz.pinned (OpenSpec.ofChange meaningNoneWrong)

/-- 'wisplaw15.MeaningFrames': WHATEVER THE INPUT: true; the input reads as it did. -/
def meaningFramesSpec : ChangeSpec := { name := "meaningFrames", fn := fun _ => fun
  | [d1, d2] => { results := [.lit (.bool true)], args := [d1, d2] }
  | _ => none }
def meaningFramesRow : OpenClaim := { program := "ytoemoiehjdmheaagreat", sum := "5716eb2124c05bffd0ee767ebec422f1031072c21e7e0daa442c3dde393a9ecb", func := "wisp/wisplaw15.MeaningFrames", spec := "meaningFrames", unfollowed := true, recurses := true, loops := true, apart := false }
def MeaningFramesSaid : Prop := meaningFramesRow.holds Tryz.pinned (OpenSpec.ofChange meaningFramesSpec)

/-- ITS FALSE NEIGHBOUR: 'it returns false'. Refute it at one input. -/
def meaningFramesWrong : ChangeSpec := { name := "meaningFrames", fn := fun _ => fun
  | [d1, d2] => { results := [.lit (.bool false)], args := [d1, d2] }
  | _ => none }
def MeaningFramesWrongFalsely : Prop := meaningFramesRow.holds Tryz.pinned (OpenSpec.ofChange meaningFramesWrong)

/-- 'wisplaw15.MeaningPlaces': WHATEVER THE INPUT: true; the input reads as it did. -/
def meaningPlacesSpec : ChangeSpec := { name := "meaningPlaces", fn := fun _ => fun
  | [d1, d2, d3] => { results := [.lit (.bool true)], args := [d1, d2, d3] }
  | _ => none }
def meaningPlacesRow : OpenClaim := { program := "ytoemoiehjdmheaagreat", sum := "5716eb2124c05bffd0ee767ebec422f1031072c21e7e0daa442c3dde393a9ecb", func := "wisp/wisplaw15.MeaningPlaces", spec := "meaningPlaces", unfollowed := true, recurses := true, loops := true, apart := false }
def MeaningPlacesSaid : Prop := meaningPlacesRow.holds Tryz.pinned (OpenSpec.ofChange meaningPlacesSpec)

/-- ITS FALSE NEIGHBOUR: 'it returns false'. Refute it at one input. -/
def meaningPlacesWrong : ChangeSpec := { name := "meaningPlaces", fn := fun _ => fun
  | [d1, d2, d3] => { results := [.lit (.bool false)], args := [d1, d2, d3] }
  | _ => none }
def MeaningPlacesWrongFalsely : Prop := meaningPlacesRow.holds Tryz.pinned (OpenSpec.ofChange meaningPlacesWrong)

/-- 'wisplaw15.MeaningApart': WHATEVER THE INPUT: true; the input reads as it did. -/
def meaningApartSpec : ChangeSpec := { name := "meaningApart", fn := fun _ => fun
  | [d1, d2] => { results := [.lit (.bool true)], args := [d1, d2] }
  | _ => none }
def meaningApartRow : OpenClaim := { program := "ytoemoiehjdmheaagreat", sum := "5716eb2124c05bffd0ee767ebec422f1031072c21e7e0daa442c3dde393a9ecb", func := "wisp/wisplaw15.MeaningApart", spec := "meaningApart", unfollowed := true, recurses := true, loops := true, apart := false }
def MeaningApartSaid : Prop := meaningApartRow.holds Tryz.pinned (OpenSpec.ofChange meaningApartSpec)

/-- ITS FALSE NEIGHBOUR: 'it returns false'. Refute it at one input. -/
def meaningApartWrong : ChangeSpec := { name := "meaningApart", fn := fun _ => fun
  | [d1, d2] => { results := [.lit (.bool false)], args := [d1, d2] }
  | _ => none }
def MeaningApartWrongFalsely : Prop := meaningApartRow.holds Tryz.pinned (OpenSpec.ofChange meaningApartWrong)

/- THE SECOND FORM. 'bulk': how many values and letters a reading holds, each counted each time it is reached (what is shared counts as often as it is met; a slice's spare places count too). A statement '..UptoSaid' is the law's where the arguments, and the package variables that the reading takes, are together of bulk at most 1048576: NARROWER than '..Said'. Prove '..Said' where nothing that the law and all that it calls make is longer than what came in: it says more and counts as full. Else prove '..UptoSaid'. A law counts once. -/
mutual
def uptoBulk {H : Type} : DataW H → Nat
  | .lit (.string bytes) => bytes.length + 1
  | .lit _ => 1
  | .nil => 1
  | .ptr d => uptoBulk d + 1
  | .slice elems spare => uptoBulkAll elems + uptoBulkAll spare + 1
  | .agg parts => uptoBulkAll parts + 1
  | .iface _ d => uptoBulk d + 1
  | .map entries => uptoBulkEntries entries + 1
  | .held _ => 1
def uptoBulkAll {H : Type} : List (DataW H) → Nat
  | [] => 0
  | d :: r => uptoBulk d + uptoBulkAll r
def uptoBulkEntries {H : Type} : List (Lit × DataW H) → Nat
  | [] => 0
  | x :: r => uptoBulkEntry x + uptoBulkEntries r
def uptoBulkEntry {H : Type} : Lit × DataW H → Nat
  | (.string bytes, d) => bytes.length + uptoBulk d + 1
  | (_, d) => uptoBulk d + 1
 end
def uptoSmall : (H : Type) → List (DataW H) → Bool := fun _ ds => decide (uptoBulkAll ds ≤ 1048576)
def OpenSpec.upto (s : _root_.Go.ChangeSpec) : _root_.Go.OpenSpec := { _root_.Go.OpenSpec.ofChange s with cond := some uptoSmall }

/-- 'wisplaw15.MeaningNone', WHERE WHAT IT READS IS OF BULK AT MOST 1048576: true; the input reads as it did. -/
def meaningNoneUptoRow : OpenClaim := { program := "ytoemoiehjdmheaagreat", sum := "5716eb2124c05bffd0ee767ebec422f1031072c21e7e0daa442c3dde393a9ecb", func := "wisp/wisplaw15.MeaningNone", spec := "meaningNone", unfollowed := true, recurses := true, apart := false, narrowed := true }
def MeaningNoneUptoSaid : Prop := meaningNoneUptoRow.holds Tryz.pinned (OpenSpec.upto meaningNoneSpec)

/-- 'wisplaw15.MeaningFrames', WHERE WHAT IT READS IS OF BULK AT MOST 1048576: true; the input reads as it did. -/
def meaningFramesUptoRow : OpenClaim := { program := "ytoemoiehjdmheaagreat", sum := "5716eb2124c05bffd0ee767ebec422f1031072c21e7e0daa442c3dde393a9ecb", func := "wisp/wisplaw15.MeaningFrames", spec := "meaningFrames", unfollowed := true, recurses := true, loops := true, apart := false, narrowed := true }
def MeaningFramesUptoSaid : Prop := meaningFramesUptoRow.holds Tryz.pinned (OpenSpec.upto meaningFramesSpec)

/-- 'wisplaw15.MeaningPlaces', WHERE WHAT IT READS IS OF BULK AT MOST 1048576: true; the input reads as it did. -/
def meaningPlacesUptoRow : OpenClaim := { program := "ytoemoiehjdmheaagreat", sum := "5716eb2124c05bffd0ee767ebec422f1031072c21e7e0daa442c3dde393a9ecb", func := "wisp/wisplaw15.MeaningPlaces", spec := "meaningPlaces", unfollowed := true, recurses := true, loops := true, apart := false, narrowed := true }
def MeaningPlacesUptoSaid : Prop := meaningPlacesUptoRow.holds Tryz.pinned (OpenSpec.upto meaningPlacesSpec)

/-- 'wisplaw15.MeaningApart', WHERE WHAT IT READS IS OF BULK AT MOST 1048576: true; the input reads as it did. -/
def meaningApartUptoRow : OpenClaim := { program := "ytoemoiehjdmheaagreat", sum := "5716eb2124c05bffd0ee767ebec422f1031072c21e7e0daa442c3dde393a9ecb", func := "wisp/wisplaw15.MeaningApart", spec := "meaningApart", unfollowed := true, recurses := true, loops := true, apart := false, narrowed := true }
def MeaningApartUptoSaid : Prop := meaningApartUptoRow.holds Tryz.pinned (OpenSpec.upto meaningApartSpec)

end Rows
end Go.Proofs.YtoemoiehjdmheaaGreat
