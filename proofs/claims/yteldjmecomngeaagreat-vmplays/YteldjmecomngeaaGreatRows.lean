/-
  No cell of these rows narrows 'for every input' (looked for: loops, veiled, ifaces, maps, wideKeys, modest, calm, conditions, laid).
  DERIVED. THE GIVEN ROWS OF THIS SEAT. 6 by the template 'for every input the law returns true; each argument reads behind the call as it read before'; 0 by the template 'total and deterministic' (their statements: YteldjmecomngeaaGreatTotals.lean).
  GIVEN WITH THE SEED: the statements are not yours to turn. If you find one false, say at which input.
  Laid BY PROGRAM, IN A SANDBOX (cutbox-rows.mjs): the forced cells as the released guide's own fill.sh prints them over the translation 17a550d50a0f5c79… (all of the seat's roots in one cut). By AI agents, Wed Nov 11 2026. No macro, syntax, notation, axiom, sorry.
-/
import Derived.Test.YteldjmecomngeaaGreatChecked
import GoSem.Claim
import GoSem.ClaimJoined
import GoSem.ClaimMapViews
import Derived.JoinedTies
import Derived.KernelRfl
namespace Go.Proofs.YteldjmecomngeaaGreat
/- THE CELL 'sum', in the pinned program and in every row, IS THE sha256 OF THE DUMP (.gsa) THAT YteldjmecomngeaaGreatProg.lean LOADS. Nothing in Lean hashes anything: it is a label: what it is worth is what the hold of that sum in a sandbox is worth. -/
noncomputable def Tryz.pinned : Pinned := { name := "yteldjmecomngeaagreat", sum := "17a550d50a0f5c79762f0f1e575bd3018c6a69ec1f4b4f86009888cdc434ead9", checked := Tryz.checked }
namespace Rows
def none {H : Type} : Left H := { results := [], args := [] }

/-- 'wisplaw08.VmExact': WHATEVER THE INPUT: true; the input reads as it did. -/
def vmExactSpec : ChangeSpec := { name := "vmExact", fn := fun _ => fun
  | [d1, d2, d3] => { results := [.lit (.bool true)], args := [d1, d2, d3] }
  | _ => none }
def vmExactRow : OpenClaim := { program := "yteldjmecomngeaagreat", sum := "17a550d50a0f5c79762f0f1e575bd3018c6a69ec1f4b4f86009888cdc434ead9", func := "wisp/wisplaw08.VmExact", spec := "vmExact", unfollowed := true, recurses := true, apart := false }
def VmExactSaid : Prop := vmExactRow.holds Tryz.pinned (OpenSpec.ofChange vmExactSpec)

/-- ITS FALSE NEIGHBOUR: 'it returns false'. Refute it at one input. -/
def vmExactWrong : ChangeSpec := { name := "vmExact", fn := fun _ => fun
  | [d1, d2, d3] => { results := [.lit (.bool false)], args := [d1, d2, d3] }
  | _ => none }
def VmExactWrongFalsely : Prop := vmExactRow.holds Tryz.pinned (OpenSpec.ofChange vmExactWrong)

/-- 'wisplaw08.VmNone': WHATEVER THE INPUT: true; the input reads as it did. -/
def vmNoneSpec : ChangeSpec := { name := "vmNone", fn := fun _ => fun
  | [d1, d2] => { results := [.lit (.bool true)], args := [d1, d2] }
  | _ => none }
def vmNoneRow : OpenClaim := { program := "yteldjmecomngeaagreat", sum := "17a550d50a0f5c79762f0f1e575bd3018c6a69ec1f4b4f86009888cdc434ead9", func := "wisp/wisplaw08.VmNone", spec := "vmNone", unfollowed := true, recurses := true, apart := false }
def VmNoneSaid : Prop := vmNoneRow.holds Tryz.pinned (OpenSpec.ofChange vmNoneSpec)

/-- ITS FALSE NEIGHBOUR: 'it returns false'. Refute it at one input. -/
def vmNoneWrong : ChangeSpec := { name := "vmNone", fn := fun _ => fun
  | [d1, d2] => { results := [.lit (.bool false)], args := [d1, d2] }
  | _ => none }
def VmNoneWrongFalsely : Prop := vmNoneRow.holds Tryz.pinned (OpenSpec.ofChange vmNoneWrong)

/-- 'wisplaw08.VmAsOne': WHATEVER THE INPUT: true; the input reads as it did. -/
def vmAsOneSpec : ChangeSpec := { name := "vmAsOne", fn := fun _ => fun
  | [d1, d2, d3] => { results := [.lit (.bool true)], args := [d1, d2, d3] }
  | _ => none }
def vmAsOneRow : OpenClaim := { program := "yteldjmecomngeaagreat", sum := "17a550d50a0f5c79762f0f1e575bd3018c6a69ec1f4b4f86009888cdc434ead9", func := "wisp/wisplaw08.VmAsOne", spec := "vmAsOne", unfollowed := true, recurses := true, apart := false }
def VmAsOneSaid : Prop := vmAsOneRow.holds Tryz.pinned (OpenSpec.ofChange vmAsOneSpec)

/-- ITS FALSE NEIGHBOUR: 'it returns false'. Refute it at one input. -/
def vmAsOneWrong : ChangeSpec := { name := "vmAsOne", fn := fun _ => fun
  | [d1, d2, d3] => { results := [.lit (.bool false)], args := [d1, d2, d3] }
  | _ => none }
def VmAsOneWrongFalsely : Prop := vmAsOneRow.holds Tryz.pinned (OpenSpec.ofChange vmAsOneWrong)

/-- 'wisplaw08.VmGoesOn': WHATEVER THE INPUT: true; the input reads as it did. -/
def vmGoesOnSpec : ChangeSpec := { name := "vmGoesOn", fn := fun _ => fun
  | [d1, d2] => { results := [.lit (.bool true)], args := [d1, d2] }
  | _ => none }
def vmGoesOnRow : OpenClaim := { program := "yteldjmecomngeaagreat", sum := "17a550d50a0f5c79762f0f1e575bd3018c6a69ec1f4b4f86009888cdc434ead9", func := "wisp/wisplaw08.VmGoesOn", spec := "vmGoesOn", unfollowed := true, recurses := true, apart := false }
def VmGoesOnSaid : Prop := vmGoesOnRow.holds Tryz.pinned (OpenSpec.ofChange vmGoesOnSpec)

/-- ITS FALSE NEIGHBOUR: 'it returns false'. Refute it at one input. -/
def vmGoesOnWrong : ChangeSpec := { name := "vmGoesOn", fn := fun _ => fun
  | [d1, d2] => { results := [.lit (.bool false)], args := [d1, d2] }
  | _ => none }
def VmGoesOnWrongFalsely : Prop := vmGoesOnRow.holds Tryz.pinned (OpenSpec.ofChange vmGoesOnWrong)

/-- 'wisplaw08.VmPlays': WHATEVER THE INPUT: true; the input reads as it did. -/
def vmPlaysSpec : ChangeSpec := { name := "vmPlays", fn := fun _ => fun
  | [d1, d2] => { results := [.lit (.bool true)], args := [d1, d2] }
  | _ => none }
def vmPlaysRow : OpenClaim := { program := "yteldjmecomngeaagreat", sum := "17a550d50a0f5c79762f0f1e575bd3018c6a69ec1f4b4f86009888cdc434ead9", func := "wisp/wisplaw08.VmPlays", spec := "vmPlays", unfollowed := true, recurses := true, apart := false }
def VmPlaysSaid : Prop := vmPlaysRow.holds Tryz.pinned (OpenSpec.ofChange vmPlaysSpec)

/-- ITS FALSE NEIGHBOUR: 'it returns false'. Refute it at one input. -/
def vmPlaysWrong : ChangeSpec := { name := "vmPlays", fn := fun _ => fun
  | [d1, d2] => { results := [.lit (.bool false)], args := [d1, d2] }
  | _ => none }
def VmPlaysWrongFalsely : Prop := vmPlaysRow.holds Tryz.pinned (OpenSpec.ofChange vmPlaysWrong)

/-- 'wisplaw08.VmOps': WHATEVER THE INPUT: true; the input reads as it did. -/
def vmOpsSpec : ChangeSpec := { name := "vmOps", fn := fun _ => fun
  | [d] => { results := [.lit (.bool true)], args := [d] }
  | _ => none }
def vmOpsRow : OpenClaim := { program := "yteldjmecomngeaagreat", sum := "17a550d50a0f5c79762f0f1e575bd3018c6a69ec1f4b4f86009888cdc434ead9", func := "wisp/wisplaw08.VmOps", spec := "vmOps", unfollowed := true, recurses := true, apart := false }
def VmOpsSaid : Prop := vmOpsRow.holds Tryz.pinned (OpenSpec.ofChange vmOpsSpec)

/-- ITS FALSE NEIGHBOUR: 'it returns false'. Refute it at one input. -/
def vmOpsWrong : ChangeSpec := { name := "vmOps", fn := fun _ => fun
  | [d] => { results := [.lit (.bool false)], args := [d] }
  | _ => none }
def VmOpsWrongFalsely : Prop := vmOpsRow.holds Tryz.pinned (OpenSpec.ofChange vmOpsWrong)

/- THE SECOND FORM. 'bulk': how many values and letters a reading holds, each counted each time it is reached (what is shared counts as often as it is met; a slice's spare places count too). A statement '..UptoSaid' is the law's where the arguments, and the package variables that the reading takes, are together of bulk at most 1048576: NARROWER than '..Said'. Prove '..Said' where nothing that the law and all that it calls make is longer than what came in: it says more and counts as full. Else prove '..UptoSaid'. A law counts once. -/
mutual
def uptoBulk {H : Type} : DataW H → Nat
  | .lit (.string bytes) => bytes.length + 1
  | .lit _ => 1
  | .nil => 1
  | .ptr d => uptoBulk d + 1
  | .slice elems spare => uptoBulkAll elems + uptoBulkAll spare + 1
  | .agg parts => uptoBulkAll parts + 1
  | .iface _ d => uptoBulk d + 1
  | .map entries => uptoBulkEntries entries + 1
  | .held _ => 1
def uptoBulkAll {H : Type} : List (DataW H) → Nat
  | [] => 0
  | d :: r => uptoBulk d + uptoBulkAll r
def uptoBulkEntries {H : Type} : List (Lit × DataW H) → Nat
  | [] => 0
  | x :: r => uptoBulkEntry x + uptoBulkEntries r
def uptoBulkEntry {H : Type} : Lit × DataW H → Nat
  | (.string bytes, d) => bytes.length + uptoBulk d + 1
  | (_, d) => uptoBulk d + 1
 end
def uptoSmall : (H : Type) → List (DataW H) → Bool := fun _ ds => decide (uptoBulkAll ds ≤ 1048576)
def OpenSpec.upto (s : _root_.Go.ChangeSpec) : _root_.Go.OpenSpec := { _root_.Go.OpenSpec.ofChange s with cond := some uptoSmall }

/-- 'wisplaw08.VmExact', WHERE WHAT IT READS IS OF BULK AT MOST 1048576: true; the input reads as it did. -/
def vmExactUptoRow : OpenClaim := { program := "yteldjmecomngeaagreat", sum := "17a550d50a0f5c79762f0f1e575bd3018c6a69ec1f4b4f86009888cdc434ead9", func := "wisp/wisplaw08.VmExact", spec := "vmExact", unfollowed := true, recurses := true, apart := false, narrowed := true }
def VmExactUptoSaid : Prop := vmExactUptoRow.holds Tryz.pinned (OpenSpec.upto vmExactSpec)

/-- 'wisplaw08.VmNone', WHERE WHAT IT READS IS OF BULK AT MOST 1048576: true; the input reads as it did. -/
def vmNoneUptoRow : OpenClaim := { program := "yteldjmecomngeaagreat", sum := "17a550d50a0f5c79762f0f1e575bd3018c6a69ec1f4b4f86009888cdc434ead9", func := "wisp/wisplaw08.VmNone", spec := "vmNone", unfollowed := true, recurses := true, apart := false, narrowed := true }
def VmNoneUptoSaid : Prop := vmNoneUptoRow.holds Tryz.pinned (OpenSpec.upto vmNoneSpec)

/-- 'wisplaw08.VmAsOne', WHERE WHAT IT READS IS OF BULK AT MOST 1048576: true; the input reads as it did. -/
def vmAsOneUptoRow : OpenClaim := { program := "yteldjmecomngeaagreat", sum := "17a550d50a0f5c79762f0f1e575bd3018c6a69ec1f4b4f86009888cdc434ead9", func := "wisp/wisplaw08.VmAsOne", spec := "vmAsOne", unfollowed := true, recurses := true, apart := false, narrowed := true }
def VmAsOneUptoSaid : Prop := vmAsOneUptoRow.holds Tryz.pinned (OpenSpec.upto vmAsOneSpec)

/-- 'wisplaw08.VmGoesOn', WHERE WHAT IT READS IS OF BULK AT MOST 1048576: true; the input reads as it did. -/
def vmGoesOnUptoRow : OpenClaim := { program := "yteldjmecomngeaagreat", sum := "17a550d50a0f5c79762f0f1e575bd3018c6a69ec1f4b4f86009888cdc434ead9", func := "wisp/wisplaw08.VmGoesOn", spec := "vmGoesOn", unfollowed := true, recurses := true, apart := false, narrowed := true }
def VmGoesOnUptoSaid : Prop := vmGoesOnUptoRow.holds Tryz.pinned (OpenSpec.upto vmGoesOnSpec)

/-- 'wisplaw08.VmPlays', WHERE WHAT IT READS IS OF BULK AT MOST 1048576: true; the input reads as it did. -/
def vmPlaysUptoRow : OpenClaim := { program := "yteldjmecomngeaagreat", sum := "17a550d50a0f5c79762f0f1e575bd3018c6a69ec1f4b4f86009888cdc434ead9", func := "wisp/wisplaw08.VmPlays", spec := "vmPlays", unfollowed := true, recurses := true, apart := false, narrowed := true }
def VmPlaysUptoSaid : Prop := vmPlaysUptoRow.holds Tryz.pinned (OpenSpec.upto vmPlaysSpec)

/-- 'wisplaw08.VmOps', WHERE WHAT IT READS IS OF BULK AT MOST 1048576: true; the input reads as it did. -/
def vmOpsUptoRow : OpenClaim := { program := "yteldjmecomngeaagreat", sum := "17a550d50a0f5c79762f0f1e575bd3018c6a69ec1f4b4f86009888cdc434ead9", func := "wisp/wisplaw08.VmOps", spec := "vmOps", unfollowed := true, recurses := true, apart := false, narrowed := true }
def VmOpsUptoSaid : Prop := vmOpsUptoRow.holds Tryz.pinned (OpenSpec.upto vmOpsSpec)

end Rows
end Go.Proofs.YteldjmecomngeaaGreat
