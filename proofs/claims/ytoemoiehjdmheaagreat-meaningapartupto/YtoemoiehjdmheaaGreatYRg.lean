import Derived.Test.YtoemoiehjdmheaaGreatYMath
import Derived.Test.YtoemoiehjdmheaaGreatCMath
namespace Go.Proofs.YtoemoiehjdmheaaGreat.Y
set_option linter.unusedVariables false
set_option linter.unusedSimpArgs false
def rgN : Nd -> Bool
 | ⟨_, _, v, _, th, el, _, _⟩ => (decide (0 <= v) && decide (v < 65536)) && ((th.map rgN).all (fun b => b) && (el.map rgN).all (fun b => b))
theorem rgN_is (n : Nd) : rgN n = true ↔ C.C n.v /\ (∀ m ∈ n.th, rgN m = true) /\ ∀ m ∈ n.el, rgN m = true := by
 cases n
 rw [rgN]
 simp [C.C]
def rgD (d : Df) : Prop := C.C d.v /\ ∀ n ∈ d.body, rgN n = true
end Go.Proofs.YtoemoiehjdmheaaGreat.Y
