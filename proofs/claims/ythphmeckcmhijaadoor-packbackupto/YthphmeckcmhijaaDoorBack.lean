import Derived.Test.YthphmeckcmhijaaDoorAgain
import Derived.Test.YthphmeckcmhijaaDoorBackS
import Derived.Test.YthphmeckcmhijaaDoorBackL
/-! PackBack's walk. -/
namespace Go.Proofs.YthphmeckcmhijaaDoor
open Go.RowKit
set_option linter.unusedVariables false

theorem back_walk (p : Option Addr) (c : Nat) (ps : List (Int × Int × List UInt8)) (hn : ps.length ≤ 1048576) (v0 : Value) (b : List UInt8) (hb : b.length ≤ 1048576) (p2 : Option Addr) (c2 : Nat) (ts : List (Int × Int)) (hts : ts.length ≤ room) (w : World) (h : PutsS w p ps) (h0 : Sl w v0 b) (hs : TakesS w p2 ts) (hT : Tab w) :
    Calls Tryd.prog 7 #[.slice p ps.length c, v0, .slice p2 ts.length c2] w fun r w' => r = .returned (.bool true) ∧ Below w.heap.size w w' := by
  have hag : ∀ w1 : World, Below w.heap.size w w1 → Calls Tryd.prog 30 #[v0, .slice p2 ts.length c2] w1 fun r w' => r = .returned (.bool true) ∧ Below w1.heap.size w1 w' := fun w1 hb1 =>
    again_any v0 b hb p2 c2 ts hts w1 (Nat.lt_of_lt_of_le hT.pos hb1.size) (h0.below hb1) (takes_below hs hb1)
  by_cases hc : ps.length ≤ 60
  · exact back_walkS p c ps hn hc v0 b hb p2 c2 ts hts w h h0 hT hag
  · exact back_walkL p c ps hn (by omega) v0 b hb p2 c2 ts hts w h h0 hT hag
end Go.Proofs.YthphmeckcmhijaaDoor
