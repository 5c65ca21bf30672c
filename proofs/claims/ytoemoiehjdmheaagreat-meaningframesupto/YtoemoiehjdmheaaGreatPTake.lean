import Derived.Test.YtoemoiehjdmheaaGreatPDoes
namespace Go.Proofs.YtoemoiehjdmheaaGreat.P
open Go.RowKit
open Go.Proofs
set_option linter.unusedVariables false
set_option linter.unusedSimpArgs false
set_option maxHeartbeats 2000000
set_option maxRecDepth 100000
theorem size3 : (Tryz.prog.info? 205).map (·.size) = some 3 := by kernel_rfl
def tk0 (bd : Nat) (D : List Int) (W : World) (i : Value) (wr : World) : Prop :=
 ((i = .int .i64 (-1) /\ S.HasD wr bd (D) /\ wr.heap[W.heap.size + 1]? = some (.cells [.int .u16 0, .int .u16 0, .int .u16 0].toArray 205 (0, 0)))) /\ wr.heap[W.heap.size]? = some (.cells [.int .u16 0, .int .u16 0, .int .u16 0].toArray 205 (0, 0)) /\ S.At bd W wr
theorem take_0 (bd : Nat) (D : List Int) (W : World) (h : S.HasD W bd (D)) :
  Calls Tryz.prog 93 #[.pointer (some ⟨bd, 0, none⟩), .int .i64 0] W fun e W' => e = .returned (.agg #[.int .u16 0, .int .u16 0, .int .u16 0]) /\ S.HasD W' bd D /\ S.At bd W W' := by
 obtain ⟨w0, hw0⟩ : ∃ w0, (W.alloc (.cells #[.int .u16 0, .int .u16 0, .int .u16 0] 205)).alloc (.cells #[.int .u16 0, .int .u16 0, .int .u16 0] 205) = w0 := ⟨_, rfl⟩
 have hb : Below W.heap.size W w0 := by rw [<- hw0]; exact ((Below.refl _ W).alloc (Nat.le_refl _) _).alloc (by simp) _
 have r0 : w0.heap[W.heap.size]? = some (.cells [.int .u16 0, .int .u16 0, .int .u16 0].toArray 205 (0, 0)) := by rw [<- hw0]; exact (Below.heap_alloc _ _ _ (by simp)).trans (heap_alloc_new W _)
 have r1 : w0.heap[W.heap.size + 1]? = some (.cells [.int .u16 0, .int .u16 0, .int .u16 0].toArray 205 (0, 0)) := by rw [<- hw0]; exact heap_alloc2_new W _ _
 have hlt := S.lt_of h.1
 have T0 : tk0 bd D  W (.int .i64 (-1)) w0 := ⟨⟨rfl, h.below hb, r1⟩, r0, hb.os, hb.tape, hb.output, hb.size, fun k hk _ => hb.block k hk⟩
 clear hb r0 r1
 have T := S.hid T0
 clear T0
 go_enter Tryz.func93, Tryz.ntmps93
 go_wp2
 go_loopw [6] (fun i wr => tk0 bd D  W i wr) (fun i _ => ((intOf i) + 1).toNat)
 case atStart => exact T.out
 case round =>
  clear T
  obtain ⟨hc, r0, ht⟩ := hrel
  obtain ⟨rfl, hd, r1⟩ := hc
  have hx := setRow_heap wr W.heap.size _ [.int .u16 0, .int .u16 0, .int .u16 0].toArray _ _ r0
  have ht2 : S.At bd W (wr.setRow W.heap.size [.int .u16 0, .int .u16 0, .int .u16 0].toArray) := ⟨ht.os, ht.tape, ht.output, by rw [setRow_size]; exact ht.size, fun k hk hn => (setRow_other wr _ k _ (by omega)).trans (ht.block k hk hn)⟩
  have hd2 : S.HasD (wr.setRow W.heap.size [.int .u16 0, .int .u16 0, .int .u16 0].toArray) bd D := hd.kept (setRow_other wr _ _ _ (by omega))
  go_wp2_with (first | (refine wpList_load_row rfl 205 _ rfl (W.heap.size + 1) rfl 205 _ (0, 0) _ r1 Tryz.underlying205 rfl (by exact size3) ?_) | (refine wpList_store_row rfl 205 _ _ rfl W.heap.size _ rfl rfl 205 _ r0 (by exact size3) (by rfl) (by simp [Value.oneCell']) ?_))
  refine bodyPost_ret (results_cell_row rfl _ _ W.heap.size 205 _ (0, 0) _ rfl hx Tryz.underlying205 rfl size3) rfl ⟨rfl, hd2, ht2⟩
def tk1 (bd : Nat) (D : List Int) (x : Int) (W : World) (i : Value) (wr : World) : Prop :=
 ((i = .int .i64 (-1) /\ S.HasD wr bd (D) /\ wr.heap[W.heap.size + 1]? = some (.cells [.int .u16 x, .int .u16 0, .int .u16 0].toArray 205 (0, 0))) \/
 (i = .int .i64 (0) /\ S.HasD wr bd (D ++ [x]) /\ wr.heap[W.heap.size + 1]? = some (.cells [.int .u16 0, .int .u16 0, .int .u16 0].toArray 205 (0, 0)))) /\ wr.heap[W.heap.size]? = some (.cells [.int .u16 0, .int .u16 0, .int .u16 0].toArray 205 (0, 0)) /\ S.At bd W wr
theorem take_1 (bd : Nat) (D : List Int) (x : Int) (W : World) (h : S.HasD W bd (D ++ [x])) :
  Calls Tryz.prog 93 #[.pointer (some ⟨bd, 0, none⟩), .int .i64 1] W fun e W' => e = .returned (.agg #[.int .u16 x, .int .u16 0, .int .u16 0]) /\ S.HasD W' bd D /\ S.At bd W W' := by
 obtain ⟨w0, hw0⟩ : ∃ w0, (W.alloc (.cells #[.int .u16 0, .int .u16 0, .int .u16 0] 205)).alloc (.cells #[.int .u16 0, .int .u16 0, .int .u16 0] 205) = w0 := ⟨_, rfl⟩
 have hb : Below W.heap.size W w0 := by rw [<- hw0]; exact ((Below.refl _ W).alloc (Nat.le_refl _) _).alloc (by simp) _
 have r0 : w0.heap[W.heap.size]? = some (.cells [.int .u16 0, .int .u16 0, .int .u16 0].toArray 205 (0, 0)) := by rw [<- hw0]; exact (Below.heap_alloc _ _ _ (by simp)).trans (heap_alloc_new W _)
 have r1 : w0.heap[W.heap.size + 1]? = some (.cells [.int .u16 0, .int .u16 0, .int .u16 0].toArray 205 (0, 0)) := by rw [<- hw0]; exact heap_alloc2_new W _ _
 have hlt := S.lt_of h.1
 have T0 : tk1 bd D x W (.int .i64 (0)) w0 := ⟨.inr (⟨rfl, h.below hb, r1⟩), r0, hb.os, hb.tape, hb.output, hb.size, fun k hk _ => hb.block k hk⟩
 clear hb r0 r1
 have T := S.hid T0
 clear T0
 go_enter Tryz.func93, Tryz.ntmps93
 go_wp2
 go_loopw [6] (fun i wr => tk1 bd D x W i wr) (fun i _ => ((intOf i) + 1).toNat)
 case atStart => exact T.out
 case round =>
  clear T
  obtain ⟨hc, r0, ht⟩ := hrel
  rcases hc with ⟨rfl, hd, r1⟩ | ⟨rfl, hd, r1⟩
  ·have hx := setRow_heap wr W.heap.size _ [.int .u16 x, .int .u16 0, .int .u16 0].toArray _ _ r0
   have ht2 : S.At bd W (wr.setRow W.heap.size [.int .u16 x, .int .u16 0, .int .u16 0].toArray) := ⟨ht.os, ht.tape, ht.output, by rw [setRow_size]; exact ht.size, fun k hk hn => (setRow_other wr _ k _ (by omega)).trans (ht.block k hk hn)⟩
   have hd2 : S.HasD (wr.setRow W.heap.size [.int .u16 x, .int .u16 0, .int .u16 0].toArray) bd D := hd.kept (setRow_other wr _ _ _ (by omega))
   go_wp2_with (first | (refine wpList_load_row rfl 205 _ rfl (W.heap.size + 1) rfl 205 _ (0, 0) _ r1 Tryz.underlying205 rfl (by exact size3) ?_) | (refine wpList_store_row rfl 205 _ _ rfl W.heap.size _ rfl rfl 205 _ r0 (by exact size3) (by rfl) (by simp [Value.oneCell']) ?_))
   refine bodyPost_ret (results_cell_row rfl _ _ W.heap.size 205 _ (0, 0) _ rfl hx Tryz.underlying205 rfl size3) rfl ⟨rfl, hd2, ht2⟩
  ·have hd0 : S.HasD wr bd ((D) ++ [x]) := by simpa using hd
   have hp := S.dpop bd (D) x wr hd0
   go_wp2_with fail
   refine hp.mono ?_
   rintro e w2 ⟨rfl, hd2, ht2⟩
   have q0 : w2.heap[W.heap.size]? = _ := (ht2.block _ (S.lt_of r0) (by omega)).trans r0
   have q1 : w2.heap[W.heap.size + 1]? = _ := (ht2.block _ (S.lt_of r1) (by omega)).trans r1
   have c1 := S.cell_of w2 (W.heap.size + 1) 0 _ 205 _ q1 rfl
   have z1 := S.frozen_of w2 (W.heap.size + 1) 0 _ 205 q1
   have q2 : (w2.setCell ⟨W.heap.size + 1, 0, none⟩ (.int .u16 x)).heap[W.heap.size + 1]? = some (.cells [.int .u16 x, .int .u16 0, .int .u16 0].toArray 205 (0, 0)) := S.setCell_heap w2 (W.heap.size + 1) 0 _ 205 _ q1
   have q3 : (w2.setCell ⟨W.heap.size + 1, 0, none⟩ (.int .u16 x)).heap[W.heap.size]? = _ := (S.setCell_other w2 _ _ _ _ (by omega)).trans q0
   have hd3 : S.HasD (w2.setCell ⟨W.heap.size + 1, 0, none⟩ (.int .u16 x)) bd (D) := hd2.kept (S.setCell_other w2 _ _ _ _ (by omega))
   have ht3 : S.At bd W (w2.setCell ⟨W.heap.size + 1, 0, none⟩ (.int .u16 x)) := ⟨ht2.os.trans ht.os, ht2.tape.trans ht.tape, ht2.output.trans ht.output, by rw [S.setCell_size]; exact Nat.le_trans ht.size ht2.size, fun k hk hn => (S.setCell_other w2 _ _ _ _ (by omega)).trans ((ht2.block k (Nat.lt_of_lt_of_le hk ht.size) hn).trans (ht.block k hk hn))⟩
   have HT := S.hid (And.intro q3 ht3)
   have HD := S.hid (And.intro hd3 q2)
   clear q0 q1 q2 q3 hd2 hd3 ht2 ht3 hp hd0 hd r0 r1 ht
   go_wp2
   go_roundw
   case rel => exact ⟨.inl ⟨rfl, HD.out.1, HD.out.2⟩, HT.out.1, HT.out.2⟩
   case measure => simp [intOf]
def tk2 (bd : Nat) (D : List Int) (x y : Int) (W : World) (i : Value) (wr : World) : Prop :=
 ((i = .int .i64 (-1) /\ S.HasD wr bd (D) /\ wr.heap[W.heap.size + 1]? = some (.cells [.int .u16 x, .int .u16 y, .int .u16 0].toArray 205 (0, 0))) \/
 (i = .int .i64 (0) /\ S.HasD wr bd (D ++ [x]) /\ wr.heap[W.heap.size + 1]? = some (.cells [.int .u16 0, .int .u16 y, .int .u16 0].toArray 205 (0, 0))) \/
 (i = .int .i64 (1) /\ S.HasD wr bd (D ++ [x, y]) /\ wr.heap[W.heap.size + 1]? = some (.cells [.int .u16 0, .int .u16 0, .int .u16 0].toArray 205 (0, 0)))) /\ wr.heap[W.heap.size]? = some (.cells [.int .u16 0, .int .u16 0, .int .u16 0].toArray 205 (0, 0)) /\ S.At bd W wr
theorem take_2 (bd : Nat) (D : List Int) (x y : Int) (W : World) (h : S.HasD W bd (D ++ [x, y])) :
  Calls Tryz.prog 93 #[.pointer (some ⟨bd, 0, none⟩), .int .i64 2] W fun e W' => e = .returned (.agg #[.int .u16 x, .int .u16 y, .int .u16 0]) /\ S.HasD W' bd D /\ S.At bd W W' := by
 obtain ⟨w0, hw0⟩ : ∃ w0, (W.alloc (.cells #[.int .u16 0, .int .u16 0, .int .u16 0] 205)).alloc (.cells #[.int .u16 0, .int .u16 0, .int .u16 0] 205) = w0 := ⟨_, rfl⟩
 have hb : Below W.heap.size W w0 := by rw [<- hw0]; exact ((Below.refl _ W).alloc (Nat.le_refl _) _).alloc (by simp) _
 have r0 : w0.heap[W.heap.size]? = some (.cells [.int .u16 0, .int .u16 0, .int .u16 0].toArray 205 (0, 0)) := by rw [<- hw0]; exact (Below.heap_alloc _ _ _ (by simp)).trans (heap_alloc_new W _)
 have r1 : w0.heap[W.heap.size + 1]? = some (.cells [.int .u16 0, .int .u16 0, .int .u16 0].toArray 205 (0, 0)) := by rw [<- hw0]; exact heap_alloc2_new W _ _
 have hlt := S.lt_of h.1
 have T0 : tk2 bd D x y W (.int .i64 (1)) w0 := ⟨.inr (.inr (⟨rfl, h.below hb, r1⟩)), r0, hb.os, hb.tape, hb.output, hb.size, fun k hk _ => hb.block k hk⟩
 clear hb r0 r1
 have T := S.hid T0
 clear T0
 go_enter Tryz.func93, Tryz.ntmps93
 go_wp2
 go_loopw [6] (fun i wr => tk2 bd D x y W i wr) (fun i _ => ((intOf i) + 1).toNat)
 case atStart => exact T.out
 case round =>
  clear T
  obtain ⟨hc, r0, ht⟩ := hrel
  rcases hc with ⟨rfl, hd, r1⟩ | ⟨rfl, hd, r1⟩ | ⟨rfl, hd, r1⟩
  ·have hx := setRow_heap wr W.heap.size _ [.int .u16 x, .int .u16 y, .int .u16 0].toArray _ _ r0
   have ht2 : S.At bd W (wr.setRow W.heap.size [.int .u16 x, .int .u16 y, .int .u16 0].toArray) := ⟨ht.os, ht.tape, ht.output, by rw [setRow_size]; exact ht.size, fun k hk hn => (setRow_other wr _ k _ (by omega)).trans (ht.block k hk hn)⟩
   have hd2 : S.HasD (wr.setRow W.heap.size [.int .u16 x, .int .u16 y, .int .u16 0].toArray) bd D := hd.kept (setRow_other wr _ _ _ (by omega))
   go_wp2_with (first | (refine wpList_load_row rfl 205 _ rfl (W.heap.size + 1) rfl 205 _ (0, 0) _ r1 Tryz.underlying205 rfl (by exact size3) ?_) | (refine wpList_store_row rfl 205 _ _ rfl W.heap.size _ rfl rfl 205 _ r0 (by exact size3) (by rfl) (by simp [Value.oneCell']) ?_))
   refine bodyPost_ret (results_cell_row rfl _ _ W.heap.size 205 _ (0, 0) _ rfl hx Tryz.underlying205 rfl size3) rfl ⟨rfl, hd2, ht2⟩
  ·have hd0 : S.HasD wr bd ((D) ++ [x]) := by simpa using hd
   have hp := S.dpop bd (D) x wr hd0
   go_wp2_with fail
   refine hp.mono ?_
   rintro e w2 ⟨rfl, hd2, ht2⟩
   have q0 : w2.heap[W.heap.size]? = _ := (ht2.block _ (S.lt_of r0) (by omega)).trans r0
   have q1 : w2.heap[W.heap.size + 1]? = _ := (ht2.block _ (S.lt_of r1) (by omega)).trans r1
   have c1 := S.cell_of w2 (W.heap.size + 1) 0 _ 205 _ q1 rfl
   have z1 := S.frozen_of w2 (W.heap.size + 1) 0 _ 205 q1
   have q2 : (w2.setCell ⟨W.heap.size + 1, 0, none⟩ (.int .u16 x)).heap[W.heap.size + 1]? = some (.cells [.int .u16 x, .int .u16 y, .int .u16 0].toArray 205 (0, 0)) := S.setCell_heap w2 (W.heap.size + 1) 0 _ 205 _ q1
   have q3 : (w2.setCell ⟨W.heap.size + 1, 0, none⟩ (.int .u16 x)).heap[W.heap.size]? = _ := (S.setCell_other w2 _ _ _ _ (by omega)).trans q0
   have hd3 : S.HasD (w2.setCell ⟨W.heap.size + 1, 0, none⟩ (.int .u16 x)) bd (D) := hd2.kept (S.setCell_other w2 _ _ _ _ (by omega))
   have ht3 : S.At bd W (w2.setCell ⟨W.heap.size + 1, 0, none⟩ (.int .u16 x)) := ⟨ht2.os.trans ht.os, ht2.tape.trans ht.tape, ht2.output.trans ht.output, by rw [S.setCell_size]; exact Nat.le_trans ht.size ht2.size, fun k hk hn => (S.setCell_other w2 _ _ _ _ (by omega)).trans ((ht2.block k (Nat.lt_of_lt_of_le hk ht.size) hn).trans (ht.block k hk hn))⟩
   have HT := S.hid (And.intro q3 ht3)
   have HD := S.hid (And.intro hd3 q2)
   clear q0 q1 q2 q3 hd2 hd3 ht2 ht3 hp hd0 hd r0 r1 ht
   go_wp2
   go_roundw
   case rel => exact ⟨.inl ⟨rfl, HD.out.1, HD.out.2⟩, HT.out.1, HT.out.2⟩
   case measure => simp [intOf]
  ·have hd0 : S.HasD wr bd ((D ++ [x]) ++ [y]) := by simpa using hd
   have hp := S.dpop bd (D ++ [x]) y wr hd0
   go_wp2_with fail
   refine hp.mono ?_
   rintro e w2 ⟨rfl, hd2, ht2⟩
   have q0 : w2.heap[W.heap.size]? = _ := (ht2.block _ (S.lt_of r0) (by omega)).trans r0
   have q1 : w2.heap[W.heap.size + 1]? = _ := (ht2.block _ (S.lt_of r1) (by omega)).trans r1
   have c1 := S.cell_of w2 (W.heap.size + 1) 1 _ 205 _ q1 rfl
   have z1 := S.frozen_of w2 (W.heap.size + 1) 1 _ 205 q1
   have q2 : (w2.setCell ⟨W.heap.size + 1, 1, none⟩ (.int .u16 y)).heap[W.heap.size + 1]? = some (.cells [.int .u16 0, .int .u16 y, .int .u16 0].toArray 205 (0, 0)) := S.setCell_heap w2 (W.heap.size + 1) 1 _ 205 _ q1
   have q3 : (w2.setCell ⟨W.heap.size + 1, 1, none⟩ (.int .u16 y)).heap[W.heap.size]? = _ := (S.setCell_other w2 _ _ _ _ (by omega)).trans q0
   have hd3 : S.HasD (w2.setCell ⟨W.heap.size + 1, 1, none⟩ (.int .u16 y)) bd (D ++ [x]) := hd2.kept (S.setCell_other w2 _ _ _ _ (by omega))
   have ht3 : S.At bd W (w2.setCell ⟨W.heap.size + 1, 1, none⟩ (.int .u16 y)) := ⟨ht2.os.trans ht.os, ht2.tape.trans ht.tape, ht2.output.trans ht.output, by rw [S.setCell_size]; exact Nat.le_trans ht.size ht2.size, fun k hk hn => (S.setCell_other w2 _ _ _ _ (by omega)).trans ((ht2.block k (Nat.lt_of_lt_of_le hk ht.size) hn).trans (ht.block k hk hn))⟩
   have HT := S.hid (And.intro q3 ht3)
   have HD := S.hid (And.intro hd3 q2)
   clear q0 q1 q2 q3 hd2 hd3 ht2 ht3 hp hd0 hd r0 r1 ht
   go_wp2
   go_roundw
   case rel => exact ⟨.inr (.inl ⟨rfl, HD.out.1, HD.out.2⟩), HT.out.1, HT.out.2⟩
   case measure => simp [intOf]
def tk3 (bd : Nat) (D : List Int) (x y z : Int) (W : World) (i : Value) (wr : World) : Prop :=
 ((i = .int .i64 (-1) /\ S.HasD wr bd (D) /\ wr.heap[W.heap.size + 1]? = some (.cells [.int .u16 x, .int .u16 y, .int .u16 z].toArray 205 (0, 0))) \/
 (i = .int .i64 (0) /\ S.HasD wr bd (D ++ [x]) /\ wr.heap[W.heap.size + 1]? = some (.cells [.int .u16 0, .int .u16 y, .int .u16 z].toArray 205 (0, 0))) \/
 (i = .int .i64 (1) /\ S.HasD wr bd (D ++ [x, y]) /\ wr.heap[W.heap.size + 1]? = some (.cells [.int .u16 0, .int .u16 0, .int .u16 z].toArray 205 (0, 0))) \/
 (i = .int .i64 (2) /\ S.HasD wr bd (D ++ [x, y, z]) /\ wr.heap[W.heap.size + 1]? = some (.cells [.int .u16 0, .int .u16 0, .int .u16 0].toArray 205 (0, 0)))) /\ wr.heap[W.heap.size]? = some (.cells [.int .u16 0, .int .u16 0, .int .u16 0].toArray 205 (0, 0)) /\ S.At bd W wr
theorem take_3 (bd : Nat) (D : List Int) (x y z : Int) (W : World) (h : S.HasD W bd (D ++ [x, y, z])) :
  Calls Tryz.prog 93 #[.pointer (some ⟨bd, 0, none⟩), .int .i64 3] W fun e W' => e = .returned (.agg #[.int .u16 x, .int .u16 y, .int .u16 z]) /\ S.HasD W' bd D /\ S.At bd W W' := by
 obtain ⟨w0, hw0⟩ : ∃ w0, (W.alloc (.cells #[.int .u16 0, .int .u16 0, .int .u16 0] 205)).alloc (.cells #[.int .u16 0, .int .u16 0, .int .u16 0] 205) = w0 := ⟨_, rfl⟩
 have hb : Below W.heap.size W w0 := by rw [<- hw0]; exact ((Below.refl _ W).alloc (Nat.le_refl _) _).alloc (by simp) _
 have r0 : w0.heap[W.heap.size]? = some (.cells [.int .u16 0, .int .u16 0, .int .u16 0].toArray 205 (0, 0)) := by rw [<- hw0]; exact (Below.heap_alloc _ _ _ (by simp)).trans (heap_alloc_new W _)
 have r1 : w0.heap[W.heap.size + 1]? = some (.cells [.int .u16 0, .int .u16 0, .int .u16 0].toArray 205 (0, 0)) := by rw [<- hw0]; exact heap_alloc2_new W _ _
 have hlt := S.lt_of h.1
 have T0 : tk3 bd D x y z W (.int .i64 (2)) w0 := ⟨.inr (.inr (.inr (⟨rfl, h.below hb, r1⟩))), r0, hb.os, hb.tape, hb.output, hb.size, fun k hk _ => hb.block k hk⟩
 clear hb r0 r1
 have T := S.hid T0
 clear T0
 go_enter Tryz.func93, Tryz.ntmps93
 go_wp2
 go_loopw [6] (fun i wr => tk3 bd D x y z W i wr) (fun i _ => ((intOf i) + 1).toNat)
 case atStart => exact T.out
 case round =>
  clear T
  obtain ⟨hc, r0, ht⟩ := hrel
  rcases hc with ⟨rfl, hd, r1⟩ | ⟨rfl, hd, r1⟩ | ⟨rfl, hd, r1⟩ | ⟨rfl, hd, r1⟩
  ·have hx := setRow_heap wr W.heap.size _ [.int .u16 x, .int .u16 y, .int .u16 z].toArray _ _ r0
   have ht2 : S.At bd W (wr.setRow W.heap.size [.int .u16 x, .int .u16 y, .int .u16 z].toArray) := ⟨ht.os, ht.tape, ht.output, by rw [setRow_size]; exact ht.size, fun k hk hn => (setRow_other wr _ k _ (by omega)).trans (ht.block k hk hn)⟩
   have hd2 : S.HasD (wr.setRow W.heap.size [.int .u16 x, .int .u16 y, .int .u16 z].toArray) bd D := hd.kept (setRow_other wr _ _ _ (by omega))
   go_wp2_with (first | (refine wpList_load_row rfl 205 _ rfl (W.heap.size + 1) rfl 205 _ (0, 0) _ r1 Tryz.underlying205 rfl (by exact size3) ?_) | (refine wpList_store_row rfl 205 _ _ rfl W.heap.size _ rfl rfl 205 _ r0 (by exact size3) (by rfl) (by simp [Value.oneCell']) ?_))
   refine bodyPost_ret (results_cell_row rfl _ _ W.heap.size 205 _ (0, 0) _ rfl hx Tryz.underlying205 rfl size3) rfl ⟨rfl, hd2, ht2⟩
  ·have hd0 : S.HasD wr bd ((D) ++ [x]) := by simpa using hd
   have hp := S.dpop bd (D) x wr hd0
   go_wp2_with fail
   refine hp.mono ?_
   rintro e w2 ⟨rfl, hd2, ht2⟩
   have q0 : w2.heap[W.heap.size]? = _ := (ht2.block _ (S.lt_of r0) (by omega)).trans r0
   have q1 : w2.heap[W.heap.size + 1]? = _ := (ht2.block _ (S.lt_of r1) (by omega)).trans r1
   have c1 := S.cell_of w2 (W.heap.size + 1) 0 _ 205 _ q1 rfl
   have z1 := S.frozen_of w2 (W.heap.size + 1) 0 _ 205 q1
   have q2 : (w2.setCell ⟨W.heap.size + 1, 0, none⟩ (.int .u16 x)).heap[W.heap.size + 1]? = some (.cells [.int .u16 x, .int .u16 y, .int .u16 z].toArray 205 (0, 0)) := S.setCell_heap w2 (W.heap.size + 1) 0 _ 205 _ q1
   have q3 : (w2.setCell ⟨W.heap.size + 1, 0, none⟩ (.int .u16 x)).heap[W.heap.size]? = _ := (S.setCell_other w2 _ _ _ _ (by omega)).trans q0
   have hd3 : S.HasD (w2.setCell ⟨W.heap.size + 1, 0, none⟩ (.int .u16 x)) bd (D) := hd2.kept (S.setCell_other w2 _ _ _ _ (by omega))
   have ht3 : S.At bd W (w2.setCell ⟨W.heap.size + 1, 0, none⟩ (.int .u16 x)) := ⟨ht2.os.trans ht.os, ht2.tape.trans ht.tape, ht2.output.trans ht.output, by rw [S.setCell_size]; exact Nat.le_trans ht.size ht2.size, fun k hk hn => (S.setCell_other w2 _ _ _ _ (by omega)).trans ((ht2.block k (Nat.lt_of_lt_of_le hk ht.size) hn).trans (ht.block k hk hn))⟩
   have HT := S.hid (And.intro q3 ht3)
   have HD := S.hid (And.intro hd3 q2)
   clear q0 q1 q2 q3 hd2 hd3 ht2 ht3 hp hd0 hd r0 r1 ht
   go_wp2
   go_roundw
   case rel => exact ⟨.inl ⟨rfl, HD.out.1, HD.out.2⟩, HT.out.1, HT.out.2⟩
   case measure => simp [intOf]
  ·have hd0 : S.HasD wr bd ((D ++ [x]) ++ [y]) := by simpa using hd
   have hp := S.dpop bd (D ++ [x]) y wr hd0
   go_wp2_with fail
   refine hp.mono ?_
   rintro e w2 ⟨rfl, hd2, ht2⟩
   have q0 : w2.heap[W.heap.size]? = _ := (ht2.block _ (S.lt_of r0) (by omega)).trans r0
   have q1 : w2.heap[W.heap.size + 1]? = _ := (ht2.block _ (S.lt_of r1) (by omega)).trans r1
   have c1 := S.cell_of w2 (W.heap.size + 1) 1 _ 205 _ q1 rfl
   have z1 := S.frozen_of w2 (W.heap.size + 1) 1 _ 205 q1
   have q2 : (w2.setCell ⟨W.heap.size + 1, 1, none⟩ (.int .u16 y)).heap[W.heap.size + 1]? = some (.cells [.int .u16 0, .int .u16 y, .int .u16 z].toArray 205 (0, 0)) := S.setCell_heap w2 (W.heap.size + 1) 1 _ 205 _ q1
   have q3 : (w2.setCell ⟨W.heap.size + 1, 1, none⟩ (.int .u16 y)).heap[W.heap.size]? = _ := (S.setCell_other w2 _ _ _ _ (by omega)).trans q0
   have hd3 : S.HasD (w2.setCell ⟨W.heap.size + 1, 1, none⟩ (.int .u16 y)) bd (D ++ [x]) := hd2.kept (S.setCell_other w2 _ _ _ _ (by omega))
   have ht3 : S.At bd W (w2.setCell ⟨W.heap.size + 1, 1, none⟩ (.int .u16 y)) := ⟨ht2.os.trans ht.os, ht2.tape.trans ht.tape, ht2.output.trans ht.output, by rw [S.setCell_size]; exact Nat.le_trans ht.size ht2.size, fun k hk hn => (S.setCell_other w2 _ _ _ _ (by omega)).trans ((ht2.block k (Nat.lt_of_lt_of_le hk ht.size) hn).trans (ht.block k hk hn))⟩
   have HT := S.hid (And.intro q3 ht3)
   have HD := S.hid (And.intro hd3 q2)
   clear q0 q1 q2 q3 hd2 hd3 ht2 ht3 hp hd0 hd r0 r1 ht
   go_wp2
   go_roundw
   case rel => exact ⟨.inr (.inl ⟨rfl, HD.out.1, HD.out.2⟩), HT.out.1, HT.out.2⟩
   case measure => simp [intOf]
  ·have hd0 : S.HasD wr bd ((D ++ [x, y]) ++ [z]) := by simpa using hd
   have hp := S.dpop bd (D ++ [x, y]) z wr hd0
   go_wp2_with fail
   refine hp.mono ?_
   rintro e w2 ⟨rfl, hd2, ht2⟩
   have q0 : w2.heap[W.heap.size]? = _ := (ht2.block _ (S.lt_of r0) (by omega)).trans r0
   have q1 : w2.heap[W.heap.size + 1]? = _ := (ht2.block _ (S.lt_of r1) (by omega)).trans r1
   have c1 := S.cell_of w2 (W.heap.size + 1) 2 _ 205 _ q1 rfl
   have z1 := S.frozen_of w2 (W.heap.size + 1) 2 _ 205 q1
   have q2 : (w2.setCell ⟨W.heap.size + 1, 2, none⟩ (.int .u16 z)).heap[W.heap.size + 1]? = some (.cells [.int .u16 0, .int .u16 0, .int .u16 z].toArray 205 (0, 0)) := S.setCell_heap w2 (W.heap.size + 1) 2 _ 205 _ q1
   have q3 : (w2.setCell ⟨W.heap.size + 1, 2, none⟩ (.int .u16 z)).heap[W.heap.size]? = _ := (S.setCell_other w2 _ _ _ _ (by omega)).trans q0
   have hd3 : S.HasD (w2.setCell ⟨W.heap.size + 1, 2, none⟩ (.int .u16 z)) bd (D ++ [x, y]) := hd2.kept (S.setCell_other w2 _ _ _ _ (by omega))
   have ht3 : S.At bd W (w2.setCell ⟨W.heap.size + 1, 2, none⟩ (.int .u16 z)) := ⟨ht2.os.trans ht.os, ht2.tape.trans ht.tape, ht2.output.trans ht.output, by rw [S.setCell_size]; exact Nat.le_trans ht.size ht2.size, fun k hk hn => (S.setCell_other w2 _ _ _ _ (by omega)).trans ((ht2.block k (Nat.lt_of_lt_of_le hk ht.size) hn).trans (ht.block k hk hn))⟩
   have HT := S.hid (And.intro q3 ht3)
   have HD := S.hid (And.intro hd3 q2)
   clear q0 q1 q2 q3 hd2 hd3 ht2 ht3 hp hd0 hd r0 r1 ht
   go_wp2
   go_roundw
   case rel => exact ⟨.inr (.inr (.inl ⟨rfl, HD.out.1, HD.out.2⟩)), HT.out.1, HT.out.2⟩
   case measure => simp [intOf]
theorem look_none (op : Int) (name : ByteArray) (i o c : Int) (b : Bool) (bl s : Int) (f : Value) (hf : f.oneCell' = true) (p : Value) (W : World) :
  Calls Tryz.prog 92 #[.agg #[.int .i64 op, .string name, .int .i64 i, .int .i64 o, .int .i64 c, .bool b, .int .i64 0, .int .i64 bl, .int .i64 s, f], p] W fun e W' => e = .returned (.tuple #[.int .u16 0, .int .i64 0]) /\ Below W.heap.size W W' := by
 go_enter Tryz.func92, Tryz.ntmps92
 go_wp2
 go_ret2
 exact ⟨rfl, bel_alloc W _⟩
theorem look_at (op : Int) (name : ByteArray) (i o c : Int) (b : Bool) (k bl s : Int) (hk : (k == 0) = false) (f : Value) (p : Value) (u v : Int) (W : World)
  (hc : Calls Tryz.prog 86 #[p, .int .i64 bl, .int .i64 k] (W.alloc (.cells #[.int .i64 op, .string name, .int .i64 i, .int .i64 o, .int .i64 c, .bool b, .int .i64 k, .int .i64 bl, .int .i64 s, f] 160)) fun e W' => e = .returned (.tuple #[.int .u16 u, .int .i64 v]) /\ ∃ q, W' = (W.alloc (.cells #[.int .i64 op, .string name, .int .i64 i, .int .i64 o, .int .i64 c, .bool b, .int .i64 k, .int .i64 bl, .int .i64 s, f] 160)).drewN q) :
  Calls Tryz.prog 92 #[.agg #[.int .i64 op, .string name, .int .i64 i, .int .i64 o, .int .i64 c, .bool b, .int .i64 k, .int .i64 bl, .int .i64 s, f], p] W fun e W' => e = .returned (.tuple #[.int .u16 u, .int .i64 v]) /\ Below W.heap.size W W' := by
 go_enter Tryz.func92, Tryz.ntmps92
 go_wp2_with fail
 refine hc.mono ?_
 rintro e w1 ⟨rfl, q, rfl⟩
 go_wp2
 go_ret2
 have hb := bel_alloc W (.cells #[.int .i64 op, .string name, .int .i64 i, .int .i64 o, .int .i64 c, .bool b, .int .i64 k, .int .i64 bl, .int .i64 s, f] 160)
 exact ⟨rfl, hb.os, hb.tape, hb.output, hb.size, hb.block⟩
end Go.Proofs.YtoemoiehjdmheaaGreat.P
