import Derived.Test.YtoemoiehjdmheaaGreatPDo
import Derived.Laws.ResultCell
namespace Go.Proofs.YtoemoiehjdmheaaGreat.P
open Go.RowKit
open Go.Proofs
set_option linter.unusedVariables false
set_option linter.unusedSimpArgs false
set_option maxHeartbeats 1000000
set_option maxRecDepth 100000
def zR : Array Value := #[.int .i64 0, .string { data := #[] }, .int .i64 0, .int .i64 0, .int .i64 0, .bool false]
theorem field0 (W : World) (op : Int) (name : ByteArray) (i o c : Int) (b : Bool) (k bl s : Int) (f : Value) : (Instr.field 160 (.agg #[.int .i64 op, .string name, .int .i64 i, .int .i64 o, .int .i64 c, .bool b, .int .i64 k, .int .i64 bl, .int .i64 s, f]) 0).run Tryz.prog W = .ok (rowV op name i o c b) W := by
 simp [Instr.field, run_underlying Tryz.underlying160, Value.cells, Tryz.sizeOf128, rowV, go_sem, asAgg, part]
theorem of_yes (op : Int) (name : ByteArray) (i o c : Int) (b : Bool) (k bl s : Int) (f : Value) (h0 : 1 <= op) (h1 : op < 64)
  (hE : ∀ w, Calls Tryz.prog 58 #[.int .i64 op] w fun e w' => e = .returned (entV op name i o c b k bl s f) /\ Below w.heap.size w w') (w : World) :
  Calls Tryz.prog 42 #[.int .i64 op] w fun e w' => e = .returned (.tuple #[rowV op name i o c b, .int .i64 0]) /\ Below w.heap.size w w' := by
 have e1 : decide (op < 1) = false := decide_eq_false (by omega)
 have e2 : decide (64 <= op) = false := decide_eq_false (by omega)
 obtain ⟨wA, hA⟩ : ∃ wA, w.alloc (.cells #[.int .i64 0, .string { data := #[] }, .int .i64 0, .int .i64 0, .int .i64 0, .bool false] 128) = wA := ⟨_, rfl⟩
 have hb : Below w.heap.size w wA := by rw [<- hA]; exact (Below.refl _ w).alloc (Nat.le_refl _) _
 have hz : wA.heap[w.heap.size]? = some (.cells zR 128 (0, 0)) := by rw [<- hA]; exact heap_alloc_new w _
 have hfd := field0
 unfold rowV at hfd
 go_enter Tryz.func42, Tryz.ntmps42
 go_wp2_with fail
 refine (hE _).mono ?_
 rintro e w1 ⟨rfl, h1⟩
 have hz1 : w1.heap[w.heap.size]? = some (.cells zR 128 (0, 0)) := (h1.block _ (S.lt_of hz)).trans hz
 have hb1 : Below w.heap.size w w1 := hb.trans ⟨h1.os, h1.tape, h1.output, h1.size, fun k hk => h1.block k (Nat.lt_of_lt_of_le hk hb.size)⟩
 have hfin := setRow_heap w1 w.heap.size _ #[.int .i64 op, .string name, .int .i64 i, .int .i64 o, .int .i64 c, .bool b] _ _ hz1
 have hbf := Below.setRow hb1 w.heap.size (Nat.le_refl _) #[.int .i64 op, .string name, .int .i64 i, .int .i64 o, .int .i64 c, .bool b]
 unfold entV
 go_wp2_with (refine wpList_store_row rfl 128 _ _ rfl w.heap.size _ rfl rfl 128 zR hz1 (by exact sizeR) (by rfl) (by simp [Value.oneCell']) ?_)
 refine bodyPost_ret (v := .tuple #[rowV op name i o c b, .int .i64 0]) ?_ rfl ⟨rfl, hbf⟩
 rw [results_cell_tmp rfl]
 simp [asAddr, run_loadVar_row _ w.heap.size _ 128 _ _ _ hfin Tryz.underlying128 rfl sizeR, rowV]
theorem of_no (op : Int) (h : op < 1 \/ 64 <= op) (w : World) :
  Calls Tryz.prog 42 #[.int .i64 op] w fun e w' => e = .returned (.tuple #[rowV 0 ⟨#[]⟩ 0 0 0 false, .int .i64 60]) /\ Below w.heap.size w w' := by
 by_cases a : op < 1
 ·have e1 : decide (op < 1) = true := decide_eq_true a
  go_enter Tryz.func42, Tryz.ntmps42
  go_wp2
  refine bodyPost_ret (v := .tuple #[rowV 0 ⟨#[]⟩ 0 0 0 false, .int .i64 60]) (by simp [results, Tryz.results42, go_sem, rowV]) rfl ⟨rfl, bel_alloc w _⟩
 ·have e1 : decide (op < 1) = false := decide_eq_false a
  have e2 : decide (64 <= op) = true := decide_eq_true (by omega)
  go_enter Tryz.func42, Tryz.ntmps42
  go_wp2
  refine bodyPost_ret (v := .tuple #[rowV 0 ⟨#[]⟩ 0 0 0 false, .int .i64 60]) (by simp [results, Tryz.results42, go_sem, rowV]) rfl ⟨rfl, bel_alloc w _⟩
end Go.Proofs.YtoemoiehjdmheaaGreat.P
