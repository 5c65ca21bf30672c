import Derived.Test.YtnoedlcdcoeokaaDoorFixed
import Derived.ProofKit
import Derived.LaidMore
import Derived.OpenShut
import Derived.Stop.Joined
import Derived.Stop.LaidErr
import Derived.Lib.LaidTab
/-! What the listed tables give a walk; a world that meets the condition. -/
namespace Go.Proofs.YtnoedlcdcoeokaaDoor
open Go.RowKit
set_option linter.unusedVariables false

def laidL : List (String × DataW Unit) := Rows.textNamesRow.laid
def brName : String := Rows.textNamesRow.named.getD 2 ""

theorem own : ownKnob Tryd.prog.godebug = none := by kernel_rfl
set_option maxRecDepth 100000 in
theorem door_met (os : Os) (args : Array Value) : laidMetH Tryd.prog laidL ((World.doorLaid Tryd.prog 24 os).forCall (fun _ _ => 0) ⟨#[], args, []⟩).memory :=
  laidMetH_of_parts3 (fuel := 8) (laidMet_of_run' 8 (by kernel_rfl) (by kernel_rfl)) (by kernel_rfl) (by kernel_rfl)

theorem laid_list : laidL = [(Rows.textNamesRow.named.getD 1 "", Lib.tabData .u8 (Lib.deBruijn32tab.map (Int.ofNat ·))), (brName, Lib.tabData .u8 (Lib.deBruijn64tab.map (Int.ofNat ·))), (pow10Name, Lib.tabData .u64 Lib.pow10Tab)] := by kernel_rfl
theorem tabs_of_laid {W : World} (h : laidMetH Tryd.prog laidL W) : Tabs W := by
  rw [laid_list] at h
  have h0 : laidMet Tryd.prog [(Rows.textNamesRow.named.getD 1 "", Lib.tabData .u8 (Lib.deBruijn32tab.map (Int.ofNat ·))), (brName, Lib.tabData .u8 (Lib.deBruijn64tab.map (Int.ofNat ·))), (pow10Name, Lib.tabData .u64 Lib.pow10Tab)] W := h
  have h1 := h0.tail
  have h2 := h1.tail
  refine ⟨Lib.tabIs_of_head (g := 0) (t := 106) (e := 56) (n := 20) (by kernel_rfl) (by kernel_rfl) (by kernel_rfl) (by kernel_rfl) (by kernel_rfl) (by kernel_rfl) h2, ?_⟩
  have hb := Lib.tabIs_of_head (name := brName) (g := 3) (t := 121) (e := 5) (n := 64) (by kernel_rfl) (by kernel_rfl) (by kernel_rfl) (by kernel_rfl) (by kernel_rfl) (by kernel_rfl) h1
  intro j hj
  have := hb.cell (g := 3) (by kernel_rfl) j (by simpa using hj)
  rw [show Tryd.lays27_ren.g 1 = 3 from rfl]
  rw [this]
  simp [List.getD, hj]
end Go.Proofs.YtnoedlcdcoeokaaDoor
