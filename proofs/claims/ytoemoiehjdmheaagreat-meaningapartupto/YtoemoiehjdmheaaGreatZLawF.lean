import Derived.Test.YtoemoiehjdmheaaGreatZNew
import Derived.Test.YtoemoiehjdmheaaGreatYOwP
import Derived.Deep.DeepCutAuto
namespace Go.Proofs.YtoemoiehjdmheaaGreat.Z
open Go.RowKit
open Go.Proofs
open Go.Proofs.YtoemoiehjdmheaaGreat.R (chk Bk)
open Go.Proofs.YtoemoiehjdmheaaGreat.Y (Nd Df Ps Pl hid ZV DV BV BS rgN rgN_is rgD)
set_option linter.unusedVariables false
set_option linter.unusedSimpArgs false
set_option maxHeartbeats 40000000
set_option maxRecDepth 100000
theorem sizeG : (Tryz.prog.info? 47).map (·.size) = some 2 := by kernel_rfl
theorem sizeL : (Tryz.prog.info? 50).map (·.size) = some 2 := by kernel_rfl
theorem fresh_mono {n m g bd br bs : Nat} {F O : Nat -> Prop} (h : Fresh n g bd br bs F O) (k : m <= n) : Fresh m g bd br bs F O :=
 ⟨Nat.le_trans k h.g, Nat.le_trans k h.d, Nat.le_trans k h.r, Nat.le_trans k h.s, fun i e => Nat.le_trans k (h.f i e), fun i e => Nat.le_trans k (h.o i e)⟩
theorem new_no (ds : List Df) (bs : List Bk) (hnm : ∀ d ∈ ds, d.nm.size <= maxLen) (hlb : bs.length <= 1048576) (dv : Value) (bp : Option Addr) (bc : Nat) (O : Nat -> Prop) (w : World) (hO : ∀ j, O j -> j < w.heap.size) (hD : DV w O dv ds) (hK : BV w O (.slice bp bs.length bc) bs) (h : newE ds bs ≠ 0) :
  Calls Tryz.prog 14 #[.agg #[dv, .slice bp bs.length bc]] w fun e w' => e = .returned (.tuple #[.pointer none, .int .i64 (newE ds bs)]) /\ Below w.heap.size w w' := by
 by_cases q : chk ds bs = 0
 ·refine new_lay ds bs hnm hlb dv bp bc O w hO hD hK q fun e => h ?_
  unfold newE; rw [if_pos q]; exact e
 ·exact new_chk ds bs hnm hlb dv bp bc O w hO hD hK q
end Go.Proofs.YtoemoiehjdmheaaGreat.Z
