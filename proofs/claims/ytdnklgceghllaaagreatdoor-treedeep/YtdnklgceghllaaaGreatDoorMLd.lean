import Derived.Test.YtdnklgceghllaaaGreatDoorMP10
import Derived.Test.YtdnklgceghllaaaGreatDoorRows
import Derived.ProofKit
import Derived.OpenShut
import Derived.LaidMore
import Derived.Deep.DeepHandedRow
import Derived.Lib.LaidTab
import Derived.Stop.LaidErr
import Derived.ChangeOld
import Derived.Below
import Derived.WalkKit
namespace Go.Proofs.YtdnklgceghllaaaGreatDoor.M
open Go.RowKit Go.ChangeShapes Go.WideShapes Go.ChangeAt
set_option linter.unusedVariables false
set_option linter.unusedSimpArgs false
set_option maxRecDepth 100000
theorem own : ownKnob Tryz.prog.godebug = none := by kernel_rfl
def laidL : List (String × DataW Unit) := Rows.treeBackRow.laid
def br32Name : String := Rows.treeBackRow.named.getD 2 ""
def br64Name : String := Rows.treeBackRow.named.getD 3 ""
theorem laid_list : laidL = [(br32Name, Rows.laid_math_bits_deBruijn32tab), (br64Name, Rows.laid_math_bits_deBruijn64tab), (Tryz.pow10Name, Lib.tabData .u64 Lib.pow10Tab)] := by kernel_rfl
theorem p10_of_laid {W : World} (h : laidMetH Tryz.prog laidL W) : P10 W := by
 rw [laid_list] at h
 have h0 : laidMet Tryz.prog [(br32Name, Rows.laid_math_bits_deBruijn32tab), (br64Name, Rows.laid_math_bits_deBruijn64tab), (Tryz.pow10Name, Lib.tabData .u64 Lib.pow10Tab)] W := h
 have h2 := h0.tail.tail
 exact Lib.tabIs_of_head (g := 2) (t := 267) (e := 176) (n := 20) (by kernel_rfl) (by kernel_rfl) (by kernel_rfl) (by kernel_rfl) (by kernel_rfl) (by kernel_rfl) h2
theorem door_met (os : Os) (args : Array Value) : laidMet Tryz.prog laidL ((World.doorLaid Tryz.prog 14 os).forCall (fun _ _ => 0) ⟨#[], args, []⟩).memory :=
 laidMet_of_run' 8 (by kernel_rfl) (by kernel_rfl)
end Go.Proofs.YtdnklgceghllaaaGreatDoor.M
