import Derived.Test.YtdnklgceghllaaaGreatDoorTLeaf
import Derived.Laws.Rows
import Derived.Laws.MakeOwn
import Derived.Laws.OwnMore
namespace Go.Proofs.YtdnklgceghllaaaGreatDoor.T
open Go.RowKit
set_option linter.unusedVariables false
def irow (f : Nat -> Int) (n : Nat) : Array Value := ((List.range n).map fun j => Value.int .i64 (f j)).toArray
def upd (f : Nat -> Int) (k : Nat) (v : Int) : Nat -> Int := fun j => if j = k then v else f j
theorem irow_size (f : Nat -> Int) (n : Nat) : (irow f n).size = n := by simp [irow]
theorem irow_get (f : Nat -> Int) (n j : Nat) (h : j < n) : (irow f n)[j]? = some (.int .i64 (f j)) := by simp [irow, h]
theorem irow_congr {f g : Nat -> Int} {n : Nat} (h : ∀ j, j < n -> f j = g j) : irow f n = irow g n := by
 unfold irow; congr 1; apply List.map_congr_left; intro j hj; rw [h j (by simpa using hj)]
theorem irow_set (f : Nat -> Int) (n k : Nat) (v : Int) : (irow f n).setIfInBounds k (.int .i64 v) = irow (upd f k v) n := by
 apply Array.ext_getElem?
 intro j
 by_cases hj : j < n
 ·rw [irow_get _ _ _ hj, Array.getElem?_setIfInBounds]
  by_cases e : k = j
  ·subst e; simp [irow_size, hj, upd]
  ·rw [if_neg e, irow_get _ _ _ hj]; simp [upd, Ne.symm e]
 ·rw [Array.getElem?_eq_none (by simp [irow_size]; omega), Array.getElem?_eq_none (by simp [irow_size]; omega)]
theorem made_irow (z : Array Value) (n : Nat) (h : ∀ j, z[j % z.size]! = .int .i64 0) : madeCells z n = irow (fun _ => 0) n := by
 apply Array.ext_getElem?
 intro j
 by_cases hj : j < n
 ·rw [irow_get _ _ _ hj]; unfold madeCells; simp [hj, h]
 ·rw [Array.getElem?_eq_none (by simp [size_madeCells]; omega), Array.getElem?_eq_none (by simp [irow_size]; omega)]
theorem made_int (n : Nat) : madeCells (Value.int .i64 0).cells n = irow (fun _ => 0) n := made_irow _ _ fun j => by
 have : (Value.int .i64 0).cells = #[.int .i64 0] := by kernel_rfl
 rw [this]; have : j % #[Value.int .i64 0].size = 0 := by simp; omega
 rw [this]; rfl
theorem made_pos (n : Nat) : madeCells (Value.agg #[.int .i64 0, .int .i64 0]).cells n = irow (fun _ => 0) n := made_irow _ _ fun j => by
 have : (Value.agg #[.int .i64 0, .int .i64 0]).cells = #[.int .i64 0, .int .i64 0] := by kernel_rfl
 rw [this]
 have h2 : j % #[Value.int .i64 0, Value.int .i64 0].size = 0 \/ j % #[Value.int .i64 0, Value.int .i64 0].size = 1 := by simp; omega
 rcases h2 with h | h <;> rw [h] <;> rfl
def IRow (w : World) (b : Nat) (t : TypeId) (f : Nat -> Int) (n : Nat) : Prop := w.heap[b]? = some (.cells (irow f n) t (0, 0))
theorem IRow.lt {w : World} {b : Nat} {t : TypeId} {f : Nat -> Int} {n : Nat} (h : IRow w b t f n) : b < w.heap.size := (Array.getElem?_eq_some_iff.1 h).1
theorem IRow.cell {w : World} {b : Nat} {t : TypeId} {f : Nat -> Int} {n : Nat} (h : IRow w b t f n) (j : Nat) (hj : j < n) : w.cell? ⟨b, j, none⟩ = some (.int .i64 (f j)) := by
 rw [cell_of_row w b j _ t _ h, irow_get _ _ _ hj]
theorem IRow.frozen {w : World} {b : Nat} {t : TypeId} {f : Nat -> Int} {n : Nat} (h : IRow w b t f n) (j : Nat) : w.frozen? ⟨b, j, none⟩ = false := frozen_of_row w b j _ t h
theorem IRow.store {w : World} {b : Nat} {t : TypeId} {f : Nat -> Int} {n : Nat} (h : IRow w b t f n) (k : Nat) (v : Int) : IRow (w.setCell ⟨b, k, none⟩ (.int .i64 v)) b t (upd f k v) n := by
 unfold IRow; rw [heap_setCell_same w b k _ t _ h, irow_set]
theorem IRow.kept {w w' : World} {b : Nat} {t : TypeId} {f : Nat -> Int} {n : Nat} (h : IRow w b t f n) (e : w'.heap[b]? = w.heap[b]?) : IRow w' b t f n := e.trans h
theorem IRow.congr {w : World} {b : Nat} {t : TypeId} {f g : Nat -> Int} {n : Nat} (h : IRow w b t f n) (e : ∀ j, j < n -> f j = g j) : IRow w b t g n := by
 unfold IRow; rw [<- irow_congr e]; exact h
theorem IRow.made (w : World) (t : TypeId) (f : Nat -> Int) (n : Nat) : IRow (w.alloc (.cells (irow f n) t)) w.heap.size t f n := heap_alloc_new w _
theorem info3 : (Tryz.prog.info? 3).map (fun i => (i.zero, i.size, i.bytes)) = some (some (.int .i64 0), 1, 8) := by kernel_rfl
theorem info27 : (Tryz.prog.info? 28).map (fun i => (i.zero, i.size, i.bytes)) = some (some (.agg #[.int .i64 0, .int .i64 0]), 2, 16) := by kernel_rfl
theorem make_ints (n : Nat) (hn : n <= 1000000) (w : World) : (Instr.makeSlice 38 (.int .i64 (n : Int)) (.int .i64 (n : Int))).run Tryz.prog w = .ok (.slice (some ⟨w.heap.size, 0, none⟩) n n) (w.alloc (.cells (irow (fun _ => 0) n) 3)) := by
 obtain ⟨i0, hi, hz0, hz1, hz2⟩ := info_parts info3
 have := run_make (P := Tryz.prog) w 38 3 i0 (.int .i64 0) Tryz.underlying38 hi hz0 .i64 .i64 n n (by omega) (by omega) (by rw [hz2]; omega) (by omega)
 rw [this, hz1]; simp [made_int]
theorem make_poss (n : Nat) (hn : n <= 1000000) (w : World) : (Instr.makeSlice 81 (.int .i64 (n : Int)) (.int .i64 (n : Int))).run Tryz.prog w = .ok (.slice (some ⟨w.heap.size, 0, none⟩) n n) (w.alloc (.cells (irow (fun _ => 0) (n * 2)) 28)) := by
 obtain ⟨i0, hi, hz0, hz1, hz2⟩ := info_parts info27
 have := run_make (P := Tryz.prog) w 81 28 i0 _ Tryz.underlying81 hi hz0 .i64 .i64 n n (by omega) (by omega) (by rw [hz2]; omega) (by omega)
 rw [this, hz1]; simp [made_pos]
theorem clampI_if (o : Int) (n : Nat) : (if 0 < if (n : Int) < o then (n : Int) else o then if (n : Int) < o then (n : Int) else o else 0) = clampI o n := by
 unfold clampI; split <;> split <;> omega
theorem add_block (x : Addr) (k : Nat) : (x.add k).block = x.block := by unfold Addr.add; split <;> rfl
set_option maxHeartbeats 1000000 in
set_option maxRecDepth 100000 in
theorem within_any (p : Option Addr) (n c : Nat) (f : Nat -> Int) (len : Nat) (hn : n <= 1000000) (hl : len <= maxLen) (w : World)
  (hc : n = 0 \/ ∃ x, p = some x /\ x.block < w.heap.size /\ ∀ j, j < n -> w.cell? (x.add j) = some (.int .i64 (f j))) :
  Calls Tryz.prog 61 #[.slice p n c, .int .i64 len] w fun e w' => e = .returned (.slice (some ⟨w.heap.size, 0, none⟩) n n) /\ Below w.heap.size w w' /\ IRow w' w.heap.size 3 (fun j => clampI (f j) len) n := by
 have hm := fun W => make_ints n hn W
 unfold maxLen at hl
 go_enter Tryz.func61, Tryz.ntmps61
 go_wp2
 go_loopw [13] (fun i wr => ∃ k : Nat, k <= n /\ i = .int .i64 k /\ Below w.heap.size w wr /\ IRow wr w.heap.size 3 (fun j => if j < k then clampI (f j) len else 0) n) (fun i _ => n - (intOf i).toNat)
 case atStart => exact ⟨0, Nat.zero_le _, rfl, (Below.refl _ _).alloc (Nat.le_refl _) _, (IRow.made w 3 _ n).congr (fun j _ => by simp)⟩
 case round =>
  obtain ⟨k, hk, rfl, hb, hr⟩ := hrel
  by_cases hlt : k < n
  ·rcases hc with h0 | ⟨x, rfl, hx, hcx⟩
   ·omega
   ·have hcell : wr.cell? (x.add k) = some (.int .i64 (f k)) := by rw [hb.cell (p := x.add k) (by rw [add_block]; exact hx)]; exact hcx k hlt
    have hfz := hr.frozen k
    have hold := hr.cell k hlt
    have hst := hr.store k (clampI (f k) len)
    have hb2 := hb.setCell (p := ⟨w.heap.size, k, none⟩) (Nat.le_refl _) (.int .i64 (clampI (f k) len))
    clear hm
    go_wp2
    go_roundw
    case rel =>
     refine ⟨k + 1, by omega, by go_num, ?_, ?_⟩
     ·rw [clampI_if]; exact hb2
     ·rw [clampI_if]
      refine hst.congr fun j _ => ?_
      unfold upd
      by_cases e : j = k
      ·subst e; simp
      ·by_cases e2 : j < k
       ·have : j < k + 1 := by omega
        simp [e, e2, this]
       ·have : ¬ j < k + 1 := by omega
        simp [e, e2, this]
    case measure => simp [intOf]; omega
  ·clear hm
   go_wp2
   go_ret
   exact ⟨rfl, hb, hr.congr fun j hj => by rw [if_pos (by omega)]⟩
end Go.Proofs.YtdnklgceghllaaaGreatDoor.T
