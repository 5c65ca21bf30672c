import Derived.Test.YtdnklgceghllaaaGreatDoorProg
import Derived.Test.YtdnklgceghllaaaGreatDoorRows
import Derived.Lib.LaidTab
import Derived.Lib.ItoaNum
import Derived.Below
namespace Go.Proofs
def Tryz.pow10Name : String := YtdnklgceghllaaaGreatDoor.Rows.treeBackRow.named.getD 1 ""
open Go.RowKit
namespace YtdnklgceghllaaaGreatDoor.M
def P10 (w : World) : Prop := Lib.TabIs Tryz.prog w Tryz.pow10Name .u64 Lib.pow10Tab
theorem P10.below {w w' : World} (h : P10 w) (b : Below w.heap.size w w') : P10 w' := by
 have h1 := h
 unfold P10 at *
 unfold Lib.TabIs World.var? at *
 cases hg : Tryz.prog.globalNamed Tryz.pow10Name with
 | none => rw [hg] at h1; exact absurd h1 (by simp)
 | some g =>
  rw [hg] at h1
  simp only [Option.bind_some] at h1 ⊢
  cases hh : w.heap[g]? with
  | none => rw [hh] at h1; exact absurd h1 (by simp)
  | some o =>
   rw [b.block g (Array.getElem?_eq_some_iff.1 hh).1, hh]
   rw [hh] at h1
   exact h1
end YtdnklgceghllaaaGreatDoor.M
end Go.Proofs
