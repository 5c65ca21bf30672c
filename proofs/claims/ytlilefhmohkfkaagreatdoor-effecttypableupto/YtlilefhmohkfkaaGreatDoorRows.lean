/-
  NARROWER THAN 'FOR EVERY INPUT', by the rows' own cells (each row's printed sentence says how): EffectJoins: loops, laid · EffectNames: loops, laid · EffectShapes: loops, laid · EffectTypable: loops, laid.
  DERIVED. THE GIVEN ROWS OF THIS SEAT. 4 by the template 'for every input the law returns true; each argument reads behind the call as it read before'; 0 by the template 'total and deterministic' (their statements: YtlilefhmohkfkaaGreatDoorTotals.lean).
  GIVEN WITH THE SEED: the statements are not yours to turn. If you find one false, say at which input.
  Laid BY PROGRAM, IN A SANDBOX (cutbox-rows.mjs): the forced cells as the released guide's own fill.sh prints them over the translation 1c98a261060590f5… (all of the seat's roots in one cut). By AI agents, Wed Nov 11 2026. No macro, syntax, notation, axiom, sorry.
-/
import Derived.Test.YtlilefhmohkfkaaGreatDoorChecked
import GoSem.Claim
import GoSem.ClaimJoined
import GoSem.ClaimMapViews
import Derived.JoinedTies
import Derived.KernelRfl
namespace Go.Proofs.YtlilefhmohkfkaaGreatDoor
/- THE CELL 'sum', in the pinned program and in every row, IS THE sha256 OF THE DUMP (.gsa) THAT YtlilefhmohkfkaaGreatDoorProg.lean LOADS. Nothing in Lean hashes anything: it is a label: what it is worth is what the hold of that sum in a sandbox is worth. -/
noncomputable def Tryz.pinned : Pinned := { name := "ytlilefhmohkfkaagreatdoor", sum := "1c98a261060590f5ff5dc22d682ce98f1c24335414efa4a5a4981d4c6832c24e", checked := Tryz.checked }
namespace Rows
def none {H : Type} : Left H := { results := [], args := [] }

/- WHAT THE LISTED PACKAGE-LEVEL VARIABLES READ AS WHEN THE CALL BEGINS. Each datum BY PROGRAM (the guide's laid-datum.mjs) off the statement by which the dump's own 'gosem.cut.vars' lays the variable. In a bare row this is a premise. The card (YtlilefhmohkfkaaGreatDoorCards.lean) ties it to the program's text. -/
def laid_wisp_wispref10_words {H : Type} : DataW H := .slice [.lit (.string [58]), .lit (.string [59]), .lit (.string [99, 111, 110, 115, 116, 97, 110, 116]), .lit (.string [118, 97, 114, 105, 97, 98, 108, 101]), .lit (.string [98, 117, 102, 102, 101, 114]), .lit (.string [98, 97, 110, 107]), .lit (.string [123]), .lit (.string [125]), .lit (.string [105, 102]), .lit (.string [101, 108, 115, 101]), .lit (.string [116, 104, 101, 110]), .lit (.string [98, 101, 103, 105, 110]), .lit (.string [117, 110, 116, 105, 108]), .lit (.string [119, 104, 105, 108, 101]), .lit (.string [114, 101, 112, 101, 97, 116]), .lit (.string [97, 103, 97, 105, 110]), .lit (.string [100, 111]), .lit (.string [108, 111, 111, 112]), .lit (.string [101, 120, 105, 116])] []

/-- 'wisplaw11.EffectJoins': WHATEVER THE INPUT: true; the input reads as it did. -/
def effectJoinsSpec : ChangeSpec := { name := "effectJoins", fn := fun _ => fun
  | [d1, d2] => { results := [.lit (.bool true)], args := [d1, d2] }
  | _ => none }
def effectJoinsRow : OpenClaim := { program := "ytlilefhmohkfkaagreatdoor", sum := "1c98a261060590f5ff5dc22d682ce98f1c24335414efa4a5a4981d4c6832c24e", func := "wisp/wisplaw11.EffectJoins", spec := "effectJoins", unfollowed := true, recurses := true, named := ["wisp/wispref10.words"], loops := true, apart := false, laid := [("wisp/wispref10.words", laid_wisp_wispref10_words)] }
def EffectJoinsSaid : Prop := effectJoinsRow.holds Tryz.pinned (OpenSpec.ofChange effectJoinsSpec)

/-- ITS FALSE NEIGHBOUR: 'it returns false'. Refute it at one input. -/
def effectJoinsWrong : ChangeSpec := { name := "effectJoins", fn := fun _ => fun
  | [d1, d2] => { results := [.lit (.bool false)], args := [d1, d2] }
  | _ => none }
def EffectJoinsWrongFalsely : Prop := effectJoinsRow.holds Tryz.pinned (OpenSpec.ofChange effectJoinsWrong)

/-- 'wisplaw11.EffectNames': WHATEVER THE INPUT: true; the input reads as it did. -/
def effectNamesSpec : ChangeSpec := { name := "effectNames", fn := fun _ => fun
  | [d] => { results := [.lit (.bool true)], args := [d] }
  | _ => none }
def effectNamesRow : OpenClaim := { program := "ytlilefhmohkfkaagreatdoor", sum := "1c98a261060590f5ff5dc22d682ce98f1c24335414efa4a5a4981d4c6832c24e", func := "wisp/wisplaw11.EffectNames", spec := "effectNames", unfollowed := true, recurses := true, named := ["wisp/wispref10.words"], loops := true, apart := false, laid := [("wisp/wispref10.words", laid_wisp_wispref10_words)] }
def EffectNamesSaid : Prop := effectNamesRow.holds Tryz.pinned (OpenSpec.ofChange effectNamesSpec)

/-- ITS FALSE NEIGHBOUR: 'it returns false'. Refute it at one input. -/
def effectNamesWrong : ChangeSpec := { name := "effectNames", fn := fun _ => fun
  | [d] => { results := [.lit (.bool false)], args := [d] }
  | _ => none }
def EffectNamesWrongFalsely : Prop := effectNamesRow.holds Tryz.pinned (OpenSpec.ofChange effectNamesWrong)

/-- 'wisplaw11.EffectShapes': WHATEVER THE INPUT: true; the input reads as it did. -/
def effectShapesSpec : ChangeSpec := { name := "effectShapes", fn := fun _ => fun
  | [d] => { results := [.lit (.bool true)], args := [d] }
  | _ => none }
def effectShapesRow : OpenClaim := { program := "ytlilefhmohkfkaagreatdoor", sum := "1c98a261060590f5ff5dc22d682ce98f1c24335414efa4a5a4981d4c6832c24e", func := "wisp/wisplaw11.EffectShapes", spec := "effectShapes", unfollowed := true, recurses := true, named := ["wisp/wispref10.words"], loops := true, apart := false, laid := [("wisp/wispref10.words", laid_wisp_wispref10_words)] }
def EffectShapesSaid : Prop := effectShapesRow.holds Tryz.pinned (OpenSpec.ofChange effectShapesSpec)

/-- ITS FALSE NEIGHBOUR: 'it returns false'. Refute it at one input. -/
def effectShapesWrong : ChangeSpec := { name := "effectShapes", fn := fun _ => fun
  | [d] => { results := [.lit (.bool false)], args := [d] }
  | _ => none }
def EffectShapesWrongFalsely : Prop := effectShapesRow.holds Tryz.pinned (OpenSpec.ofChange effectShapesWrong)

/-- 'wisplaw11.EffectTypable': WHATEVER THE INPUT: true; the input reads as it did. -/
def effectTypableSpec : ChangeSpec := { name := "effectTypable", fn := fun _ => fun
  | [d] => { results := [.lit (.bool true)], args := [d] }
  | _ => none }
def effectTypableRow : OpenClaim := { program := "ytlilefhmohkfkaagreatdoor", sum := "1c98a261060590f5ff5dc22d682ce98f1c24335414efa4a5a4981d4c6832c24e", func := "wisp/wisplaw11.EffectTypable", spec := "effectTypable", unfollowed := true, recurses := true, named := ["wisp/wispref10.words"], loops := true, apart := false, laid := [("wisp/wispref10.words", laid_wisp_wispref10_words)] }
def EffectTypableSaid : Prop := effectTypableRow.holds Tryz.pinned (OpenSpec.ofChange effectTypableSpec)

/-- ITS FALSE NEIGHBOUR: 'it returns false'. Refute it at one input. -/
def effectTypableWrong : ChangeSpec := { name := "effectTypable", fn := fun _ => fun
  | [d] => { results := [.lit (.bool false)], args := [d] }
  | _ => none }
def EffectTypableWrongFalsely : Prop := effectTypableRow.holds Tryz.pinned (OpenSpec.ofChange effectTypableWrong)

/- THE SECOND FORM. 'bulk': how many values and letters a reading holds, each counted each time it is reached (what is shared counts as often as it is met; a slice's spare places count too). A statement '..UptoSaid' is the law's where the arguments, and the package variables that the reading takes, are together of bulk at most 1048576: NARROWER than '..Said'. Prove '..Said' where nothing that the law and all that it calls make is longer than what came in: it says more and counts as full. Else prove '..UptoSaid'. A law counts once. -/
mutual
def uptoBulk {H : Type} : DataW H → Nat
  | .lit (.string bytes) => bytes.length + 1
  | .lit _ => 1
  | .nil => 1
  | .ptr d => uptoBulk d + 1
  | .slice elems spare => uptoBulkAll elems + uptoBulkAll spare + 1
  | .agg parts => uptoBulkAll parts + 1
  | .iface _ d => uptoBulk d + 1
  | .map entries => uptoBulkEntries entries + 1
  | .held _ => 1
def uptoBulkAll {H : Type} : List (DataW H) → Nat
  | [] => 0
  | d :: r => uptoBulk d + uptoBulkAll r
def uptoBulkEntries {H : Type} : List (Lit × DataW H) → Nat
  | [] => 0
  | x :: r => uptoBulkEntry x + uptoBulkEntries r
def uptoBulkEntry {H : Type} : Lit × DataW H → Nat
  | (.string bytes, d) => bytes.length + uptoBulk d + 1
  | (_, d) => uptoBulk d + 1
 end
def uptoSmall : (H : Type) → List (DataW H) → Bool := fun _ ds => decide (uptoBulkAll ds ≤ 1048576)
def OpenSpec.upto (s : _root_.Go.ChangeSpec) : _root_.Go.OpenSpec := { _root_.Go.OpenSpec.ofChange s with cond := some uptoSmall }

/-- 'wisplaw11.EffectJoins', WHERE WHAT IT READS IS OF BULK AT MOST 1048576: true; the input reads as it did. -/
def effectJoinsUptoRow : OpenClaim := { program := "ytlilefhmohkfkaagreatdoor", sum := "1c98a261060590f5ff5dc22d682ce98f1c24335414efa4a5a4981d4c6832c24e", func := "wisp/wisplaw11.EffectJoins", spec := "effectJoins", unfollowed := true, recurses := true, named := ["wisp/wispref10.words"], loops := true, apart := false, laid := [("wisp/wispref10.words", laid_wisp_wispref10_words)], narrowed := true }
def EffectJoinsUptoSaid : Prop := effectJoinsUptoRow.holds Tryz.pinned (OpenSpec.upto effectJoinsSpec)

/-- 'wisplaw11.EffectNames', WHERE WHAT IT READS IS OF BULK AT MOST 1048576: true; the input reads as it did. -/
def effectNamesUptoRow : OpenClaim := { program := "ytlilefhmohkfkaagreatdoor", sum := "1c98a261060590f5ff5dc22d682ce98f1c24335414efa4a5a4981d4c6832c24e", func := "wisp/wisplaw11.EffectNames", spec := "effectNames", unfollowed := true, recurses := true, named := ["wisp/wispref10.words"], loops := true, apart := false, laid := [("wisp/wispref10.words", laid_wisp_wispref10_words)], narrowed := true }
def EffectNamesUptoSaid : Prop := effectNamesUptoRow.holds Tryz.pinned (OpenSpec.upto effectNamesSpec)

/-- 'wisplaw11.EffectShapes', WHERE WHAT IT READS IS OF BULK AT MOST 1048576: true; the input reads as it did. -/
def effectShapesUptoRow : OpenClaim := { program := "ytlilefhmohkfkaagreatdoor", sum := "1c98a261060590f5ff5dc22d682ce98f1c24335414efa4a5a4981d4c6832c24e", func := "wisp/wisplaw11.EffectShapes", spec := "effectShapes", unfollowed := true, recurses := true, named := ["wisp/wispref10.words"], loops := true, apart := false, laid := [("wisp/wispref10.words", laid_wisp_wispref10_words)], narrowed := true }
def EffectShapesUptoSaid : Prop := effectShapesUptoRow.holds Tryz.pinned (OpenSpec.upto effectShapesSpec)

/-- 'wisplaw11.EffectTypable', WHERE WHAT IT READS IS OF BULK AT MOST 1048576: true; the input reads as it did. -/
def effectTypableUptoRow : OpenClaim := { program := "ytlilefhmohkfkaagreatdoor", sum := "1c98a261060590f5ff5dc22d682ce98f1c24335414efa4a5a4981d4c6832c24e", func := "wisp/wisplaw11.EffectTypable", spec := "effectTypable", unfollowed := true, recurses := true, named := ["wisp/wispref10.words"], loops := true, apart := false, laid := [("wisp/wispref10.words", laid_wisp_wispref10_words)], narrowed := true }
def EffectTypableUptoSaid : Prop := effectTypableUptoRow.holds Tryz.pinned (OpenSpec.upto effectTypableSpec)

end Rows
end Go.Proofs.YtlilefhmohkfkaaGreatDoor
