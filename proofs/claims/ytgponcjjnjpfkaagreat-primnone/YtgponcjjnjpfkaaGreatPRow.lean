import Derived.Test.YtgponcjjnjpfkaaGreatProg
import Derived.WalkKit
import Derived.KernelRfl
import Derived.ProofKit
import Derived.BigQuiet
import Derived.Laws.Rows
import Derived.Laws.Tables
/-! Rows of the table. -/
namespace Go.Proofs.YtgponcjjnjpfkaaGreat.P
open Go.RowKit
open Go.Proofs
set_option linter.unusedVariables false
set_option linter.unusedSimpArgs false
set_option maxHeartbeats 1000000
set_option maxRecDepth 100000
def rowV (op : Int) (name : ByteArray) (i o c : Int) (b : Bool) : Value := .agg #[.int .i64 op, .string name, .int .i64 i, .int .i64 o, .int .i64 c, .bool b]
theorem row_any (op : Int) (name : ByteArray) (i o c : Int) (w : World) : Calls Tryz.prog 86 #[.int .i64 op, .string name, .int .i64 i, .int .i64 o, .int .i64 c] w fun e w' => e = .returned (rowV op name i o c false) ∧ Below w.heap.size w w' := by
  go_enter Tryz.func86, Tryz.ntmps86
  go_wp2
  refine bodyPost_ret (v := rowV op name i o c false) (by simp [results, Tryz.results86, go_sem, rowV]) rfl ⟨rfl, ?_⟩
  exact (Below.refl _ w).alloc (Nat.le_refl _) _
def zE : Array Value := #[.int .i64 0, .string { data := #[] }, .int .i64 0, .int .i64 0, .int .i64 0, .bool false, .int .i64 0, .int .i64 0, .int .i64 0, .nilFunc]
theorem sizeE : (Tryz.prog.info? 94).map (·.size) = some 10 := by kernel_rfl
theorem sizeR : (Tryz.prog.info? 59).map (·.size) = some 6 := by kernel_rfl
theorem Below.setRow {B : Nat} {a w : World} (h : Below B a w) (g : Nat) (hg : B ≤ g) (c : Array Value) : Below B a (w.setRow g c) :=
  ⟨h.os, h.tape, h.output, by rw [setRow_size]; exact h.size, fun k hk => (setRow_other w g k c (by omega)).trans (h.block k hk)⟩
/-- The entry's block, as it is when a maker begins. -/
theorem mk (w : World) : ∃ wA, w.alloc (.cells #[.int .i64 0, .string { data := #[] }, .int .i64 0, .int .i64 0, .int .i64 0, .bool false, .int .i64 0, .int .i64 0, .int .i64 0, .nilFunc] 94) = wA ∧ Below w.heap.size w wA ∧ wA.heap[w.heap.size]? = some (.cells zE 94 (0, 0)) :=
  ⟨_, rfl, (Below.refl _ w).alloc (Nat.le_refl _) _, heap_alloc_new w _⟩
structure Made (w wA w1 : World) : Prop where
  bel : Below w.heap.size w w1
  blk : w1.heap[w.heap.size]? = some (.cells zE 94 (0, 0))
theorem Made.of {w wA w1 : World} (hb : Below w.heap.size w wA) (hz : wA.heap[w.heap.size]? = some (.cells zE 94 (0, 0))) (h : Below wA.heap.size wA w1) : Made w wA w1 :=
  ⟨hb.trans ⟨h.os, h.tape, h.output, h.size, fun k hk => h.block k (Nat.lt_of_lt_of_le hk hb.size)⟩, (h.block _ (Array.getElem?_eq_some_iff.1 hz).1).trans hz⟩
/-- A maker's end: the entry is stored, and read. -/
theorem Made.fin {w wA w1 : World} (h : Made w wA w1) (c : Array Value) : (w1.setRow w.heap.size c).heap[w.heap.size]? = some (.cells c 94 (0, 0)) ∧ Below w.heap.size w (w1.setRow w.heap.size c) :=
  ⟨setRow_heap w1 _ _ _ _ _ h.blk, Below.setRow h.bel _ (Nat.le_refl _) _⟩
def entV (op : Int) (name : ByteArray) (i o c : Int) (b : Bool) (k bl s : Int) (f : Value) : Value := .agg #[.int .i64 op, .string name, .int .i64 i, .int .i64 o, .int .i64 c, .bool b, .int .i64 k, .int .i64 bl, .int .i64 s, f]
theorem Made.done {w wA w1 : World} (h : Made w wA w1) {fn : Func} {p : Tmp} {a : Act} {op i o c k bl s : Int} {name : ByteArray} {b : Bool} {f : Value} (hr : fn.results = #[.cell p 94]) (hp : a.tmps.getD p undef = .pointer (some ⟨w.heap.size, 0, none⟩)) (hd : a.defers = []) :
    bodyPost Tryz.prog fn (fun e w' => e = .returned (entV op name i o c b k bl s f) ∧ Below w.heap.size w w') .ret a (w1.setRow w.heap.size #[.int .i64 op, .string name, .int .i64 i, .int .i64 o, .int .i64 c, .bool b, .int .i64 k, .int .i64 bl, .int .i64 s, f]) :=
  bodyPost_ret (results_cell_row hr _ _ w.heap.size 94 _ (0, 0) _ hp (h.fin _).1 Tryz.underlying94 rfl sizeE) hd ⟨rfl, (h.fin _).2⟩
theorem binary_any (op : Int) (name : ByteArray) (c : Int) (w : World) : Calls Tryz.prog 101 #[.int .i64 op, .string name, .int .i64 c] w fun e w' => e = .returned (entV op name 2 1 c false 0 0 0 (.func (.func 124) #[] #[])) ∧ Below w.heap.size w w' := by
  obtain ⟨wA, hA, hb, hz⟩ := mk w
  go_enter Tryz.func101, Tryz.ntmps101
  go_wp2_with fail
  refine (row_any _ _ _ _ _ _).mono ?_
  rintro e w1 ⟨rfl, h1⟩
  have hm := Made.of hb hz h1
  unfold rowV
  go_wp2_with (refine wpList_store_row rfl 94 _ _ rfl w.heap.size _ rfl rfl 94 zE hm.blk (by exact sizeE) (by rfl) (by simp [Value.oneCell']) ?_)
  exact hm.done rfl rfl rfl
theorem unary_any (op : Int) (name : ByteArray) (w : World) : Calls Tryz.prog 102 #[.int .i64 op, .string name] w fun e w' => e = .returned (entV op name 1 1 1 false 0 0 0 (.func (.func 126) #[] #[])) ∧ Below w.heap.size w w' := by
  obtain ⟨wA, hA, hb, hz⟩ := mk w
  go_enter Tryz.func102, Tryz.ntmps102
  go_wp2_with fail
  refine (row_any _ _ _ _ _ _).mono ?_
  rintro e w1 ⟨rfl, h1⟩
  have hm := Made.of hb hz h1
  unfold rowV
  go_wp2_with (refine wpList_store_row rfl 94 _ _ rfl w.heap.size _ rfl rfl 94 zE hm.blk (by exact sizeE) (by rfl) (by simp [Value.oneCell']) ?_)
  exact hm.done rfl rfl rfl
theorem peek_any (op : Int) (name : ByteArray) (k bl : Int) (w : World) : Calls Tryz.prog 114 #[.int .i64 op, .string name, .int .i64 k, .int .i64 bl] w fun e w' => e = .returned (entV op name 0 1 1 false k bl 0 (.func (.func 130) #[] #[])) ∧ Below w.heap.size w w' := by
  obtain ⟨wA, hA, hb, hz⟩ := mk w
  go_enter Tryz.func114, Tryz.ntmps114
  go_wp2_with fail
  refine (row_any _ _ _ _ _ _).mono ?_
  rintro e w1 ⟨rfl, h1⟩
  have hm := Made.of hb hz h1
  unfold rowV
  go_wp2_with (refine wpList_store_row rfl 94 _ _ rfl w.heap.size _ rfl rfl 94 zE hm.blk (by exact sizeE) (by rfl) (by simp [Value.oneCell']) ?_)
  exact hm.done rfl rfl rfl
theorem withOperand_any (op i o c : Int) (w : World) : Calls Tryz.prog 87 #[.int .i64 op, .int .i64 i, .int .i64 o, .int .i64 c] w fun e w' => e = .returned (entV op ⟨#[]⟩ i o c true 0 0 0 .nilFunc) ∧ Below w.heap.size w w' := by
  obtain ⟨wA, hA, hb, hz⟩ := mk w
  go_enter Tryz.func87, Tryz.ntmps87
  go_wp2_with fail
  refine (row_any _ _ _ _ _ _).mono ?_
  rintro e w1 ⟨rfl, h1⟩
  obtain ⟨w2, hw2⟩ : ∃ w2, w1.alloc (.cells #[.int .i64 op, .string { data := #[] }, .int .i64 i, .int .i64 o, .int .i64 c, .bool true] 59) = w2 := ⟨_, rfl⟩
  have h2 : Below wA.heap.size wA w2 := by rw [← hw2]; exact h1.alloc h1.size _
  have hr2 : w2.heap[w1.heap.size]? = some (.cells #[.int .i64 op, .string { data := #[] }, .int .i64 i, .int .i64 o, .int .i64 c, .bool true] 59 (0, 0)) := by rw [← hw2]; exact heap_alloc_new w1 _
  have hm := Made.of hb hz h2
  unfold rowV
  go_wp2_with (first | (refine wpList_load_row rfl 59 _ rfl w1.heap.size rfl 59 _ (0, 0) _ hr2 Tryz.underlying59 rfl (by exact sizeR) ?_) | (refine wpList_store_row rfl 94 _ _ rfl w.heap.size _ rfl rfl 94 zE hm.blk (by exact sizeE) (by rfl) (by simp [Value.oneCell']) ?_))
  exact hm.done rfl rfl rfl
end Go.Proofs.YtgponcjjnjpfkaaGreat.P
