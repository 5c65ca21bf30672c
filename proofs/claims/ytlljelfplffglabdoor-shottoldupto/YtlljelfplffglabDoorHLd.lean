import Derived.Test.YtlljelfplffglabDoorRows
import Derived.Test.YtlljelfplffglabDoorHTon
import Derived.ProofKit
import Derived.OpenShut
import Derived.LaidMore
import Derived.Deep.DeepHandedRow
import Derived.Lib.LaidTab
import Derived.Stop.LaidErr
import Derived.Lib.TrailingZeros
import Derived.ChangeOld
import Derived.Below
import Derived.WalkKit
/-! What the listed tables give a walk. -/
namespace Go.Proofs.YtlljelfplffglabDoor.H
open Go.RowKit Go.ChangeShapes Go.WideShapes Go.ChangeAt
open Go.Proofs.YtlljelfplffglabDoor.K
set_option linter.unusedVariables false
set_option linter.unusedSimpArgs false
set_option maxRecDepth 100000
theorem own : ownKnob Tryd.prog.godebug = none := by kernel_rfl
theorem laidOut : laidOutB Tryd.prog = true := by kernel_rfl
def laidN : List (String × DataW Unit) := Rows.shotNamesRow.laid
def laidT : List (String × DataW Unit) := Rows.shotToldRow.laid
def br32Name : String := Rows.shotToldRow.named.getD 1 ""
def br64Name : String := Rows.shotToldRow.named.getD 2 ""
def halvesName : String := Rows.shotToldRow.named.getD 3 ""
def tabL : List Int := (List.range 16).map fun i => ((it 4 i : Nat) : Int)
def t32 : List Int := Lib.deBruijn32tab.map (Int.ofNat ·)
def t64 : List Int := Lib.deBruijn64tab.map (Int.ofNat ·)
theorem laidN_is : laidN = [(br32Name, Lib.tabData .u8 t32), (br64Name, Lib.tabData .u8 t64), (Tryd.pow10Name, Lib.tabData .u64 Lib.pow10Tab)] := by kernel_rfl
theorem laidT_is : laidT = [(br32Name, Lib.tabData .u8 t32), (br64Name, Lib.tabData .u8 t64), (Tryd.pow10Name, Lib.tabData .u64 Lib.pow10Tab), (halvesName, Lib.tabData .u32 tabL)] := by kernel_rfl
theorem p10_of_N {W : World} (h : laidMetH Tryd.prog laidN W) : P10 W := by
  rw [laidN_is] at h
  have h0 : laidMet Tryd.prog [(br32Name, Lib.tabData .u8 t32), (br64Name, Lib.tabData .u8 t64), (Tryd.pow10Name, Lib.tabData .u64 Lib.pow10Tab)] W := h
  have h2 := h0.tail.tail
  exact Lib.tabIs_of_head (g := 2) (t := 98) (e := 64) (n := 20) (by kernel_rfl) (by kernel_rfl) (by kernel_rfl) (by kernel_rfl) (by kernel_rfl) (by kernel_rfl) h2
theorem p10_of_T {W : World} (h : laidMetH Tryd.prog laidT W) : P10 W := by
  rw [laidT_is] at h
  have h0 : laidMet Tryd.prog [(br32Name, Lib.tabData .u8 t32), (br64Name, Lib.tabData .u8 t64), (Tryd.pow10Name, Lib.tabData .u64 Lib.pow10Tab), (halvesName, Lib.tabData .u32 tabL)] W := h
  have h2 := h0.tail.tail
  exact Lib.tabIs_of_head (g := 2) (t := 98) (e := 64) (n := 20) (by kernel_rfl) (by kernel_rfl) (by kernel_rfl) (by kernel_rfl) (by kernel_rfl) (by kernel_rfl) h2
theorem tab_of_T {W : World} (h : laidMetH Tryd.prog laidT W) : Tab W := by
  rw [laidT_is] at h
  have h0 : laidMet Tryd.prog [(br32Name, Lib.tabData .u8 t32), (br64Name, Lib.tabData .u8 t64), (Tryd.pow10Name, Lib.tabData .u64 Lib.pow10Tab), (halvesName, Lib.tabData .u32 tabL)] W := h
  have h3 := h0.tail.tail.tail
  have hb := Lib.tabIs_of_head (name := halvesName) (g := 0) (t := 84) (e := 46) (n := 16) (rest := []) (by kernel_rfl) (by kernel_rfl) (by kernel_rfl) (by kernel_rfl) (by kernel_rfl) (by kernel_rfl) h3
  intro i hi
  have := hb.cell (g := 0) (by kernel_rfl) i (by simpa [tabL] using hi)
  rw [this]
  simp [tabL, hi]
end Go.Proofs.YtlljelfplffglabDoor.H
