import Derived.Test.YtokhlcioekbjdaaTLeaf
import Derived.Laws.Rows
import Derived.Laws.MakeOwn
import Derived.Laws.OwnMore
/-! Rows of integers in a block of their own, told whole. -/
namespace Go.Proofs.Ytokhlcioekbjdaa.T
open Go.RowKit
set_option linter.unusedVariables false

def irow (f : Nat → Int) (n : Nat) : Array Value := ((List.range n).map fun j => Value.int .i64 (f j)).toArray
def upd (f : Nat → Int) (k : Nat) (v : Int) : Nat → Int := fun j => if j = k then v else f j

theorem irow_size (f : Nat → Int) (n : Nat) : (irow f n).size = n := by simp [irow]
theorem irow_get (f : Nat → Int) (n j : Nat) (h : j < n) : (irow f n)[j]? = some (.int .i64 (f j)) := by simp [irow, h]
theorem irow_congr {f g : Nat → Int} {n : Nat} (h : ∀ j, j < n → f j = g j) : irow f n = irow g n := by
  unfold irow; congr 1; apply List.map_congr_left; intro j hj; rw [h j (by simpa using hj)]
theorem irow_set (f : Nat → Int) (n k : Nat) (v : Int) : (irow f n).setIfInBounds k (.int .i64 v) = irow (upd f k v) n := by
  apply Array.ext_getElem?
  intro j
  by_cases hj : j < n
  · rw [irow_get _ _ _ hj, Array.getElem?_setIfInBounds]
    by_cases e : k = j
    · subst e; simp [irow_size, hj, upd]
    · rw [if_neg e, irow_get _ _ _ hj]; simp [upd, Ne.symm e]
  · rw [Array.getElem?_eq_none (by simp [irow_size]; omega), Array.getElem?_eq_none (by simp [irow_size]; omega)]
theorem made_irow (z : Array Value) (n : Nat) (h : ∀ j, z[j % z.size]! = .int .i64 0) : madeCells z n = irow (fun _ => 0) n := by
  apply Array.ext_getElem?
  intro j
  by_cases hj : j < n
  · rw [irow_get _ _ _ hj]; unfold madeCells; simp [hj, h]
  · rw [Array.getElem?_eq_none (by simp [size_madeCells]; omega), Array.getElem?_eq_none (by simp [irow_size]; omega)]
theorem made_int (n : Nat) : madeCells (Value.int .i64 0).cells n = irow (fun _ => 0) n := made_irow _ _ fun j => by
  have : (Value.int .i64 0).cells = #[.int .i64 0] := by kernel_rfl
  rw [this]; have : j % #[Value.int .i64 0].size = 0 := by simp; omega
  rw [this]; rfl
theorem made_pos (n : Nat) : madeCells (Value.agg #[.int .i64 0, .int .i64 0]).cells n = irow (fun _ => 0) n := made_irow _ _ fun j => by
  have : (Value.agg #[.int .i64 0, .int .i64 0]).cells = #[.int .i64 0, .int .i64 0] := by kernel_rfl
  rw [this]
  have h2 : j % #[Value.int .i64 0, Value.int .i64 0].size = 0 ∨ j % #[Value.int .i64 0, Value.int .i64 0].size = 1 := by simp; omega
  rcases h2 with h | h <;> rw [h] <;> rfl

/-- Block b is just this row. -/
def IRow (w : World) (b : Nat) (t : TypeId) (f : Nat → Int) (n : Nat) : Prop := w.heap[b]? = some (.cells (irow f n) t (0, 0))
theorem IRow.lt {w : World} {b : Nat} {t : TypeId} {f : Nat → Int} {n : Nat} (h : IRow w b t f n) : b < w.heap.size := (Array.getElem?_eq_some_iff.1 h).1
theorem IRow.cell {w : World} {b : Nat} {t : TypeId} {f : Nat → Int} {n : Nat} (h : IRow w b t f n) (j : Nat) (hj : j < n) : w.cell? ⟨b, j, none⟩ = some (.int .i64 (f j)) := by
  rw [cell_of_row w b j _ t _ h, irow_get _ _ _ hj]
theorem IRow.frozen {w : World} {b : Nat} {t : TypeId} {f : Nat → Int} {n : Nat} (h : IRow w b t f n) (j : Nat) : w.frozen? ⟨b, j, none⟩ = false := frozen_of_row w b j _ t h
theorem IRow.store {w : World} {b : Nat} {t : TypeId} {f : Nat → Int} {n : Nat} (h : IRow w b t f n) (k : Nat) (v : Int) : IRow (w.setCell ⟨b, k, none⟩ (.int .i64 v)) b t (upd f k v) n := by
  unfold IRow; rw [heap_setCell_same w b k _ t _ h, irow_set]
theorem IRow.kept {w w' : World} {b : Nat} {t : TypeId} {f : Nat → Int} {n : Nat} (h : IRow w b t f n) (e : w'.heap[b]? = w.heap[b]?) : IRow w' b t f n := e.trans h
theorem IRow.congr {w : World} {b : Nat} {t : TypeId} {f g : Nat → Int} {n : Nat} (h : IRow w b t f n) (e : ∀ j, j < n → f j = g j) : IRow w b t g n := by
  unfold IRow; rw [← irow_congr e]; exact h
theorem IRow.made (w : World) (t : TypeId) (f : Nat → Int) (n : Nat) : IRow (w.alloc (.cells (irow f n) t)) w.heap.size t f n := heap_alloc_new w _
end Go.Proofs.Ytokhlcioekbjdaa.T
