import Derived.Test.YtlljelfplffglabDoorKReader
/-! What the writer and the reader leave alone. -/
namespace Go.Proofs.YtlljelfplffglabDoor.K
open Go.RowKit
set_option linter.unusedVariables false

theorem WStep.belowB {bw B : Nat} {W W' : World} {v v' : Value} (h : WStep bw W W' v v') (h1 : B ≤ bw) (h2 : ∀ g, v.ownBlock = some g → B ≤ g) (h3 : B ≤ W.heap.size) : Below B W W' :=
  ⟨h.os, h.tape, h.output, h.size, fun k hk => h.block k (by omega) (by omega) (fun e => by have := h2 k e.symm; omega)⟩
theorem RStep.belowB {br B : Nat} {W W' : World} (h : RStep br W W') (h1 : B ≤ br) (h3 : B ≤ W.heap.size) : Below B W W' :=
  ⟨h.os, h.tape, h.output, h.size, fun k hk => h.block k (by omega) (by omega)⟩
theorem Tab.below {B : Nat} {W W' : World} (h : Tab W) (hb : Below B W W') (hB : 0 < B) : Tab W' := fun i hi => by rw [hb.cell (p := ⟨0, i, none⟩) hB]; exact h i hi
theorem Tab.pos {W : World} (h : Tab W) : 0 < W.heap.size := World.block_lt_of_cell? W _ (h 0 (by decide))
theorem cell_of_any (w : World) (b j : Nat) (cs : Array Value) (t : TypeId) (fr : Nat × Nat) (h : w.heap[b]? = some (.cells cs t fr)) : w.cell? ⟨b, j, none⟩ = cs[j]? := by simp [World.cell?, h]
theorem heap_alloc_any (w : World) (o : Obj) : (w.alloc o).heap[w.heap.size]? = some o := heap_alloc_new w o

end Go.Proofs.YtlljelfplffglabDoor.K
