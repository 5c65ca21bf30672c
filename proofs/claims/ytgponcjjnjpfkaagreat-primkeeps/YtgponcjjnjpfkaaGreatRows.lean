/-
  No cell of these rows narrows 'for every input' (looked for: loops, veiled, ifaces, maps, wideKeys, modest, calm, conditions, laid).
  DERIVED. THE GIVEN ROWS OF THIS SEAT. 6 by the template 'for every input the law returns true; each argument reads behind the call as it read before'; 0 by the template 'total and deterministic' (their statements: YtgponcjjnjpfkaaGreatTotals.lean).
  GIVEN WITH THE SEED: the statements are not yours to turn. If you find one false, say at which input.
  Laid BY PROGRAM, IN A SANDBOX (cutbox-rows.mjs): the forced cells as the released guide's own fill.sh prints them over the translation eb71793b23c2bdc4… (all of the seat's roots in one cut). By AI agents, Wed Nov 11 2026. No macro, syntax, notation, axiom, sorry.
-/
import Derived.Test.YtgponcjjnjpfkaaGreatChecked
import GoSem.Claim
import GoSem.ClaimJoined
import GoSem.ClaimMapViews
import Derived.JoinedTies
import Derived.KernelRfl
namespace Go.Proofs.YtgponcjjnjpfkaaGreat
/- THE CELL 'sum', in the pinned program and in every row, IS THE sha256 OF THE DUMP (.gsa) THAT YtgponcjjnjpfkaaGreatProg.lean LOADS. Nothing in Lean hashes anything: it is a label: what it is worth is what the hold of that sum in a sandbox is worth. -/
noncomputable def Tryz.pinned : Pinned := { name := "ytgponcjjnjpfkaagreat", sum := "eb71793b23c2bdc4bd57d87c7c6799a69f4c60f064f6ebf9f1281541d49ea732", checked := Tryz.checked }
namespace Rows
def none {H : Type} : Left H := { results := [], args := [] }

/-- 'wisplaw06.PrimNames': WHATEVER THE INPUT: true; the input reads as it did. -/
def primNamesSpec : ChangeSpec := { name := "primNames", fn := fun _ => fun
  | [] => { results := [.lit (.bool true)], args := [] }
  | _ => none }
def primNamesRow : OpenClaim := { program := "ytgponcjjnjpfkaagreat", sum := "eb71793b23c2bdc4bd57d87c7c6799a69f4c60f064f6ebf9f1281541d49ea732", func := "wisp/wisplaw06.PrimNames", spec := "primNames", unfollowed := true, recurses := true, apart := false }
def PrimNamesSaid : Prop := primNamesRow.holds Tryz.pinned (OpenSpec.ofChange primNamesSpec)

/-- ITS FALSE NEIGHBOUR: 'it returns false'. Refute it at one input. -/
def primNamesWrong : ChangeSpec := { name := "primNames", fn := fun _ => fun
  | [] => { results := [.lit (.bool false)], args := [] }
  | _ => none }
def PrimNamesWrongFalsely : Prop := primNamesRow.holds Tryz.pinned (OpenSpec.ofChange primNamesWrong)

/-- 'wisplaw06.PrimBack': WHATEVER THE INPUT: true; the input reads as it did. -/
def primBackSpec : ChangeSpec := { name := "primBack", fn := fun _ => fun
  | [d1, d2, d3, d4] => { results := [.lit (.bool true)], args := [d1, d2, d3, d4] }
  | _ => none }
def primBackRow : OpenClaim := { program := "ytgponcjjnjpfkaagreat", sum := "eb71793b23c2bdc4bd57d87c7c6799a69f4c60f064f6ebf9f1281541d49ea732", func := "wisp/wisplaw06.PrimBack", spec := "primBack", unfollowed := true, recurses := true, apart := false }
def PrimBackSaid : Prop := primBackRow.holds Tryz.pinned (OpenSpec.ofChange primBackSpec)

/-- ITS FALSE NEIGHBOUR: 'it returns false'. Refute it at one input. -/
def primBackWrong : ChangeSpec := { name := "primBack", fn := fun _ => fun
  | [d1, d2, d3, d4] => { results := [.lit (.bool false)], args := [d1, d2, d3, d4] }
  | _ => none }
def PrimBackWrongFalsely : Prop := primBackRow.holds Tryz.pinned (OpenSpec.ofChange primBackWrong)

/-- 'wisplaw06.PrimAll': WHATEVER THE INPUT: true; the input reads as it did. -/
def primAllSpec : ChangeSpec := { name := "primAll", fn := fun _ => fun
  | [d] => { results := [.lit (.bool true)], args := [d] }
  | _ => none }
def primAllRow : OpenClaim := { program := "ytgponcjjnjpfkaagreat", sum := "eb71793b23c2bdc4bd57d87c7c6799a69f4c60f064f6ebf9f1281541d49ea732", func := "wisp/wisplaw06.PrimAll", spec := "primAll", unfollowed := true, recurses := true, apart := false }
def PrimAllSaid : Prop := primAllRow.holds Tryz.pinned (OpenSpec.ofChange primAllSpec)

/-- ITS FALSE NEIGHBOUR: 'it returns false'. Refute it at one input. -/
def primAllWrong : ChangeSpec := { name := "primAll", fn := fun _ => fun
  | [d] => { results := [.lit (.bool false)], args := [d] }
  | _ => none }
def PrimAllWrongFalsely : Prop := primAllRow.holds Tryz.pinned (OpenSpec.ofChange primAllWrong)

/-- 'wisplaw06.PrimTable': WHATEVER THE INPUT: true; the input reads as it did. -/
def primTableSpec : ChangeSpec := { name := "primTable", fn := fun _ => fun
  | [d1, d2] => { results := [.lit (.bool true)], args := [d1, d2] }
  | _ => none }
def primTableRow : OpenClaim := { program := "ytgponcjjnjpfkaagreat", sum := "eb71793b23c2bdc4bd57d87c7c6799a69f4c60f064f6ebf9f1281541d49ea732", func := "wisp/wisplaw06.PrimTable", spec := "primTable", unfollowed := true, recurses := true, apart := false }
def PrimTableSaid : Prop := primTableRow.holds Tryz.pinned (OpenSpec.ofChange primTableSpec)

/-- ITS FALSE NEIGHBOUR: 'it returns false'. Refute it at one input. -/
def primTableWrong : ChangeSpec := { name := "primTable", fn := fun _ => fun
  | [d1, d2] => { results := [.lit (.bool false)], args := [d1, d2] }
  | _ => none }
def PrimTableWrongFalsely : Prop := primTableRow.holds Tryz.pinned (OpenSpec.ofChange primTableWrong)

/-- 'wisplaw06.PrimNone': WHATEVER THE INPUT: true; the input reads as it did. -/
def primNoneSpec : ChangeSpec := { name := "primNone", fn := fun _ => fun
  | [d1, d2, d3] => { results := [.lit (.bool true)], args := [d1, d2, d3] }
  | _ => none }
def primNoneRow : OpenClaim := { program := "ytgponcjjnjpfkaagreat", sum := "eb71793b23c2bdc4bd57d87c7c6799a69f4c60f064f6ebf9f1281541d49ea732", func := "wisp/wisplaw06.PrimNone", spec := "primNone", unfollowed := true, recurses := true, apart := false }
def PrimNoneSaid : Prop := primNoneRow.holds Tryz.pinned (OpenSpec.ofChange primNoneSpec)

/-- ITS FALSE NEIGHBOUR: 'it returns false'. Refute it at one input. -/
def primNoneWrong : ChangeSpec := { name := "primNone", fn := fun _ => fun
  | [d1, d2, d3] => { results := [.lit (.bool false)], args := [d1, d2, d3] }
  | _ => none }
def PrimNoneWrongFalsely : Prop := primNoneRow.holds Tryz.pinned (OpenSpec.ofChange primNoneWrong)

/-- 'wisplaw06.PrimKeeps': WHATEVER THE INPUT: true; the input reads as it did. -/
def primKeepsSpec : ChangeSpec := { name := "primKeeps", fn := fun _ => fun
  | [d1, d2, d3, d4] => { results := [.lit (.bool true)], args := [d1, d2, d3, d4] }
  | _ => none }
def primKeepsRow : OpenClaim := { program := "ytgponcjjnjpfkaagreat", sum := "eb71793b23c2bdc4bd57d87c7c6799a69f4c60f064f6ebf9f1281541d49ea732", func := "wisp/wisplaw06.PrimKeeps", spec := "primKeeps", unfollowed := true, recurses := true, apart := false }
def PrimKeepsSaid : Prop := primKeepsRow.holds Tryz.pinned (OpenSpec.ofChange primKeepsSpec)

/-- ITS FALSE NEIGHBOUR: 'it returns false'. Refute it at one input. -/
def primKeepsWrong : ChangeSpec := { name := "primKeeps", fn := fun _ => fun
  | [d1, d2, d3, d4] => { results := [.lit (.bool false)], args := [d1, d2, d3, d4] }
  | _ => none }
def PrimKeepsWrongFalsely : Prop := primKeepsRow.holds Tryz.pinned (OpenSpec.ofChange primKeepsWrong)

/- THE SECOND FORM. 'bulk': how many values and letters a reading holds, each counted each time it is reached (what is shared counts as often as it is met; a slice's spare places count too). A statement '..UptoSaid' is the law's where the arguments, and the package variables that the reading takes, are together of bulk at most 1048576: NARROWER than '..Said'. Prove '..Said' where nothing that the law and all that it calls make is longer than what came in: it says more and counts as full. Else prove '..UptoSaid'. A law counts once. -/
mutual
def uptoBulk {H : Type} : DataW H → Nat
  | .lit (.string bytes) => bytes.length + 1
  | .lit _ => 1
  | .nil => 1
  | .ptr d => uptoBulk d + 1
  | .slice elems spare => uptoBulkAll elems + uptoBulkAll spare + 1
  | .agg parts => uptoBulkAll parts + 1
  | .iface _ d => uptoBulk d + 1
  | .map entries => uptoBulkEntries entries + 1
  | .held _ => 1
def uptoBulkAll {H : Type} : List (DataW H) → Nat
  | [] => 0
  | d :: r => uptoBulk d + uptoBulkAll r
def uptoBulkEntries {H : Type} : List (Lit × DataW H) → Nat
  | [] => 0
  | x :: r => uptoBulkEntry x + uptoBulkEntries r
def uptoBulkEntry {H : Type} : Lit × DataW H → Nat
  | (.string bytes, d) => bytes.length + uptoBulk d + 1
  | (_, d) => uptoBulk d + 1
 end
def uptoSmall : (H : Type) → List (DataW H) → Bool := fun _ ds => decide (uptoBulkAll ds ≤ 1048576)
def OpenSpec.upto (s : _root_.Go.ChangeSpec) : _root_.Go.OpenSpec := { _root_.Go.OpenSpec.ofChange s with cond := some uptoSmall }

/-- 'wisplaw06.PrimNames', WHERE WHAT IT READS IS OF BULK AT MOST 1048576: true; the input reads as it did. -/
def primNamesUptoRow : OpenClaim := { program := "ytgponcjjnjpfkaagreat", sum := "eb71793b23c2bdc4bd57d87c7c6799a69f4c60f064f6ebf9f1281541d49ea732", func := "wisp/wisplaw06.PrimNames", spec := "primNames", unfollowed := true, recurses := true, apart := false, narrowed := true }
def PrimNamesUptoSaid : Prop := primNamesUptoRow.holds Tryz.pinned (OpenSpec.upto primNamesSpec)

/-- 'wisplaw06.PrimBack', WHERE WHAT IT READS IS OF BULK AT MOST 1048576: true; the input reads as it did. -/
def primBackUptoRow : OpenClaim := { program := "ytgponcjjnjpfkaagreat", sum := "eb71793b23c2bdc4bd57d87c7c6799a69f4c60f064f6ebf9f1281541d49ea732", func := "wisp/wisplaw06.PrimBack", spec := "primBack", unfollowed := true, recurses := true, apart := false, narrowed := true }
def PrimBackUptoSaid : Prop := primBackUptoRow.holds Tryz.pinned (OpenSpec.upto primBackSpec)

/-- 'wisplaw06.PrimAll', WHERE WHAT IT READS IS OF BULK AT MOST 1048576: true; the input reads as it did. -/
def primAllUptoRow : OpenClaim := { program := "ytgponcjjnjpfkaagreat", sum := "eb71793b23c2bdc4bd57d87c7c6799a69f4c60f064f6ebf9f1281541d49ea732", func := "wisp/wisplaw06.PrimAll", spec := "primAll", unfollowed := true, recurses := true, apart := false, narrowed := true }
def PrimAllUptoSaid : Prop := primAllUptoRow.holds Tryz.pinned (OpenSpec.upto primAllSpec)

/-- 'wisplaw06.PrimTable', WHERE WHAT IT READS IS OF BULK AT MOST 1048576: true; the input reads as it did. -/
def primTableUptoRow : OpenClaim := { program := "ytgponcjjnjpfkaagreat", sum := "eb71793b23c2bdc4bd57d87c7c6799a69f4c60f064f6ebf9f1281541d49ea732", func := "wisp/wisplaw06.PrimTable", spec := "primTable", unfollowed := true, recurses := true, apart := false, narrowed := true }
def PrimTableUptoSaid : Prop := primTableUptoRow.holds Tryz.pinned (OpenSpec.upto primTableSpec)

/-- 'wisplaw06.PrimNone', WHERE WHAT IT READS IS OF BULK AT MOST 1048576: true; the input reads as it did. -/
def primNoneUptoRow : OpenClaim := { program := "ytgponcjjnjpfkaagreat", sum := "eb71793b23c2bdc4bd57d87c7c6799a69f4c60f064f6ebf9f1281541d49ea732", func := "wisp/wisplaw06.PrimNone", spec := "primNone", unfollowed := true, recurses := true, apart := false, narrowed := true }
def PrimNoneUptoSaid : Prop := primNoneUptoRow.holds Tryz.pinned (OpenSpec.upto primNoneSpec)

/-- 'wisplaw06.PrimKeeps', WHERE WHAT IT READS IS OF BULK AT MOST 1048576: true; the input reads as it did. -/
def primKeepsUptoRow : OpenClaim := { program := "ytgponcjjnjpfkaagreat", sum := "eb71793b23c2bdc4bd57d87c7c6799a69f4c60f064f6ebf9f1281541d49ea732", func := "wisp/wisplaw06.PrimKeeps", spec := "primKeeps", unfollowed := true, recurses := true, apart := false, narrowed := true }
def PrimKeepsUptoSaid : Prop := primKeepsUptoRow.holds Tryz.pinned (OpenSpec.upto primKeepsSpec)

end Rows
end Go.Proofs.YtgponcjjnjpfkaaGreat
