import Derived.Test.YtdnklgceghllaaaGreatDoorProg
import Derived.WalkKit
import Derived.KernelRfl
import Derived.ProofKit
import Derived.BigQuiet
import Derived.Laws.Rows
import Derived.Laws.Tables
namespace Go.Proofs.YtdnklgceghllaaaGreatDoor.P
open Go.RowKit
open Go.Proofs
set_option linter.unusedVariables false
set_option linter.unusedSimpArgs false
set_option maxHeartbeats 1000000
set_option maxRecDepth 100000
def rowV (op : Int) (name : ByteArray) (i o c : Int) (b : Bool) : Value := .agg #[.int .i64 op, .string name, .int .i64 i, .int .i64 o, .int .i64 c, .bool b]
theorem row_any (op : Int) (name : ByteArray) (i o c : Int) (w : World) : Calls Tryz.prog 174 #[.int .i64 op, .string name, .int .i64 i, .int .i64 o, .int .i64 c] w fun e w' => e = .returned (rowV op name i o c false) /\ Below w.heap.size w w' := by
 go_enter Tryz.func174, Tryz.ntmps174
 go_wp2
 refine bodyPost_ret (v := rowV op name i o c false) (by simp [results, Tryz.results174, go_sem, rowV]) rfl ⟨rfl, ?_⟩
 exact (Below.refl _ w).alloc (Nat.le_refl _) _
def zE : Array Value := #[.int .i64 0, .string { data := #[] }, .int .i64 0, .int .i64 0, .int .i64 0, .bool false, .int .i64 0, .int .i64 0, .int .i64 0, .nilFunc]
theorem sizeE : (Tryz.prog.info? 164).map (·.size) = some 10 := by kernel_rfl
theorem sizeR : (Tryz.prog.info? 129).map (·.size) = some 6 := by kernel_rfl
theorem Below.setRow {B : Nat} {a w : World} (h : Below B a w) (g : Nat) (hg : B <= g) (c : Array Value) : Below B a (w.setRow g c) :=
 ⟨h.os, h.tape, h.output, by rw [setRow_size]; exact h.size, fun k hk => (setRow_other w g k c (by omega)).trans (h.block k hk)⟩
theorem mk (w : World) : ∃ wA, w.alloc (.cells #[.int .i64 0, .string { data := #[] }, .int .i64 0, .int .i64 0, .int .i64 0, .bool false, .int .i64 0, .int .i64 0, .int .i64 0, .nilFunc] 164) = wA /\ Below w.heap.size w wA /\ wA.heap[w.heap.size]? = some (.cells zE 164 (0, 0)) :=
 ⟨_, rfl, (Below.refl _ w).alloc (Nat.le_refl _) _, heap_alloc_new w _⟩
structure Made (w wA w1 : World) : Prop where
 bel : Below w.heap.size w w1
 blk : w1.heap[w.heap.size]? = some (.cells zE 164 (0, 0))
theorem Made.of {w wA w1 : World} (hb : Below w.heap.size w wA) (hz : wA.heap[w.heap.size]? = some (.cells zE 164 (0, 0))) (h : Below wA.heap.size wA w1) : Made w wA w1 :=
 ⟨hb.trans ⟨h.os, h.tape, h.output, h.size, fun k hk => h.block k (Nat.lt_of_lt_of_le hk hb.size)⟩, (h.block _ (Array.getElem?_eq_some_iff.1 hz).1).trans hz⟩
theorem Made.fin {w wA w1 : World} (h : Made w wA w1) (c : Array Value) : (w1.setRow w.heap.size c).heap[w.heap.size]? = some (.cells c 164 (0, 0)) /\ Below w.heap.size w (w1.setRow w.heap.size c) :=
 ⟨setRow_heap w1 _ _ _ _ _ h.blk, Below.setRow h.bel _ (Nat.le_refl _) _⟩
def entV (op : Int) (name : ByteArray) (i o c : Int) (b : Bool) (k bl s : Int) (f : Value) : Value := .agg #[.int .i64 op, .string name, .int .i64 i, .int .i64 o, .int .i64 c, .bool b, .int .i64 k, .int .i64 bl, .int .i64 s, f]
theorem Made.done {w wA w1 : World} (h : Made w wA w1) {fn : Func} {p : Tmp} {a : Act} {op i o c k bl s : Int} {name : ByteArray} {b : Bool} {f : Value} (hr : fn.results = #[.cell p 164]) (hp : a.tmps.getD p undef = .pointer (some ⟨w.heap.size, 0, none⟩)) (hd : a.defers = []) :
  bodyPost Tryz.prog fn (fun e w' => e = .returned (entV op name i o c b k bl s f) /\ Below w.heap.size w w') .ret a (w1.setRow w.heap.size #[.int .i64 op, .string name, .int .i64 i, .int .i64 o, .int .i64 c, .bool b, .int .i64 k, .int .i64 bl, .int .i64 s, f]) :=
 bodyPost_ret (results_cell_row hr _ _ w.heap.size 164 _ (0, 0) _ hp (h.fin _).1 Tryz.underlying164 rfl sizeE) hd ⟨rfl, (h.fin _).2⟩
theorem binary_any (op : Int) (name : ByteArray) (c : Int) (w : World) : Calls Tryz.prog 189 #[.int .i64 op, .string name, .int .i64 c] w fun e w' => e = .returned (entV op name 2 1 c false 0 0 0 (.func (.func 242) #[] #[])) /\ Below w.heap.size w w' := by
 obtain ⟨wA, hA, hb, hz⟩ := mk w
 go_enter Tryz.func189, Tryz.ntmps189
 go_wp2_with fail
 refine (row_any _ _ _ _ _ _).mono ?_
 rintro e w1 ⟨rfl, h1⟩
 have hm := Made.of hb hz h1
 unfold rowV
 go_wp2_with (refine wpList_store_row rfl 164 _ _ rfl w.heap.size _ rfl rfl 164 zE hm.blk (by exact sizeE) (by rfl) (by simp [Value.oneCell']) ?_)
 exact hm.done rfl rfl rfl
theorem unary_any (op : Int) (name : ByteArray) (w : World) : Calls Tryz.prog 190 #[.int .i64 op, .string name] w fun e w' => e = .returned (entV op name 1 1 1 false 0 0 0 (.func (.func 244) #[] #[])) /\ Below w.heap.size w w' := by
 obtain ⟨wA, hA, hb, hz⟩ := mk w
 go_enter Tryz.func190, Tryz.ntmps190
 go_wp2_with fail
 refine (row_any _ _ _ _ _ _).mono ?_
 rintro e w1 ⟨rfl, h1⟩
 have hm := Made.of hb hz h1
 unfold rowV
 go_wp2_with (refine wpList_store_row rfl 164 _ _ rfl w.heap.size _ rfl rfl 164 zE hm.blk (by exact sizeE) (by rfl) (by simp [Value.oneCell']) ?_)
 exact hm.done rfl rfl rfl
theorem peek_any (op : Int) (name : ByteArray) (k bl : Int) (w : World) : Calls Tryz.prog 203 #[.int .i64 op, .string name, .int .i64 k, .int .i64 bl] w fun e w' => e = .returned (entV op name 0 1 1 false k bl 0 (.func (.func 251) #[] #[])) /\ Below w.heap.size w w' := by
 obtain ⟨wA, hA, hb, hz⟩ := mk w
 go_enter Tryz.func203, Tryz.ntmps203
 go_wp2_with fail
 refine (row_any _ _ _ _ _ _).mono ?_
 rintro e w1 ⟨rfl, h1⟩
 have hm := Made.of hb hz h1
 unfold rowV
 go_wp2_with (refine wpList_store_row rfl 164 _ _ rfl w.heap.size _ rfl rfl 164 zE hm.blk (by exact sizeE) (by rfl) (by simp [Value.oneCell']) ?_)
 exact hm.done rfl rfl rfl
theorem withOperand_any (op i o c : Int) (w : World) : Calls Tryz.prog 175 #[.int .i64 op, .int .i64 i, .int .i64 o, .int .i64 c] w fun e w' => e = .returned (entV op ⟨#[]⟩ i o c true 0 0 0 .nilFunc) /\ Below w.heap.size w w' := by
 obtain ⟨wA, hA, hb, hz⟩ := mk w
 go_enter Tryz.func175, Tryz.ntmps175
 go_wp2_with fail
 refine (row_any _ _ _ _ _ _).mono ?_
 rintro e w1 ⟨rfl, h1⟩
 obtain ⟨w2, hw2⟩ : ∃ w2, w1.alloc (.cells #[.int .i64 op, .string { data := #[] }, .int .i64 i, .int .i64 o, .int .i64 c, .bool true] 129) = w2 := ⟨_, rfl⟩
 have h2 : Below wA.heap.size wA w2 := by rw [<- hw2]; exact h1.alloc h1.size _
 have hr2 : w2.heap[w1.heap.size]? = some (.cells #[.int .i64 op, .string { data := #[] }, .int .i64 i, .int .i64 o, .int .i64 c, .bool true] 129 (0, 0)) := by rw [<- hw2]; exact heap_alloc_new w1 _
 have hm := Made.of hb hz h2
 unfold rowV
 go_wp2_with (first | (refine wpList_load_row rfl 129 _ rfl w1.heap.size rfl 129 _ (0, 0) _ hr2 Tryz.underlying129 rfl (by exact sizeR) ?_) | (refine wpList_store_row rfl 164 _ _ rfl w.heap.size _ rfl rfl 164 zE hm.blk (by exact sizeE) (by rfl) (by simp [Value.oneCell']) ?_))
 exact hm.done rfl rfl rfl
def EC (f : Nat) (k : Int) (v : Value) (w : World) : Prop := Calls Tryz.prog f #[.int .i64 k] w fun e w' => e = .returned v /\ Below w.heap.size w w'
set_option maxHeartbeats 40000000
set_option maxRecDepth 100000
theorem ofA135 (w : World) : EC 135 1 (entV 1 ⟨#[]⟩ 0 0 2 false 0 0 0 .nilFunc) w /\ EC 135 2 (entV 2 ⟨#[]⟩ 0 1 2 false 0 0 0 .nilFunc) w /\ EC 135 3 (entV 3 ⟨#[]⟩ 0 1 2 true 0 0 0 .nilFunc) w /\ EC 135 4 (entV 4 ⟨#[]⟩ 0 0 2 true 0 0 0 .nilFunc) w /\ EC 135 5 (entV 5 ⟨#[]⟩ 1 0 2 true 0 0 0 .nilFunc) w /\ EC 135 6 (entV 6 ⟨#[]⟩ 2 0 3 false 0 0 2 (.func (.func 176) #[] #[])) w /\ EC 135 7 (entV 7 ⟨#[]⟩ 0 0 3 true 0 0 0 .nilFunc) w /\ EC 135 8 (entV 8 ⟨#[]⟩ 0 0 2 false 0 0 0 .nilFunc) w /\ EC 135 9 (entV 9 ⟨#[110, 111, 112]⟩ 0 0 1 false 0 0 0 (.func (.func 178) #[] #[])) w /\ EC 135 10 (entV 10 ⟨#[121, 105, 101, 108, 100]⟩ 0 0 1 false 0 0 0 .nilFunc) w /\ EC 135 11 (entV 11 ⟨#[104, 97, 108, 116]⟩ 0 0 1 false 0 0 0 .nilFunc) w := by
 refine ⟨?_, ?_, ?_, ?_, ?_, ?_, ?_, ?_, ?_, ?_, ?_⟩
 all_goals (unfold EC; obtain ⟨wA, hA, hb, hz⟩ := mk w; go_enter Tryz.func135, Tryz.ntmps135; go_wp2_with fail)
 refine (row_any _ _ _ _ _ _).mono ?_; rotate_left
 refine (row_any _ _ _ _ _ _).mono ?_; rotate_left
 refine (withOperand_any _ _ _ _ _).mono ?_; rotate_left
 refine (withOperand_any _ _ _ _ _).mono ?_; rotate_left
 refine (withOperand_any _ _ _ _ _).mono ?_; rotate_left
 refine (row_any _ _ _ _ _ _).mono ?_; rotate_left
 refine (withOperand_any _ _ _ _ _).mono ?_; rotate_left
 refine (row_any _ _ _ _ _ _).mono ?_; rotate_left
 refine (row_any _ _ _ _ _ _).mono ?_; rotate_left
 refine (row_any _ _ _ _ _ _).mono ?_; rotate_left
 refine (row_any _ _ _ _ _ _).mono ?_; rotate_left
 all_goals (rintro e w1 ⟨rfl, h1⟩; have hm := Made.of hb hz h1; first | unfold rowV | unfold entV)
 all_goals (go_wp2_with (refine wpList_store_row rfl 164 _ _ rfl w.heap.size _ rfl rfl 164 zE hm.blk (by exact sizeE) (by rfl) (by simp [Value.oneCell']) ?_))
 all_goals exact hm.done rfl rfl rfl
theorem ofA136 (w : World) : EC 136 12 (entV 12 ⟨#[100, 117, 112]⟩ 1 2 1 false 0 0 0 (.func (.func 179) #[] #[])) w /\ EC 136 13 (entV 13 ⟨#[100, 114, 111, 112]⟩ 1 0 1 false 0 0 0 (.func (.func 181) #[] #[])) w /\ EC 136 14 (entV 14 ⟨#[115, 119, 97, 112]⟩ 2 2 1 false 0 0 0 (.func (.func 182) #[] #[])) w /\ EC 136 15 (entV 15 ⟨#[111, 118, 101, 114]⟩ 2 3 1 false 0 0 0 (.func (.func 183) #[] #[])) w /\ EC 136 16 (entV 16 ⟨#[114, 111, 116]⟩ 3 3 1 false 0 0 0 (.func (.func 184) #[] #[])) w := by
 refine ⟨?_, ?_, ?_, ?_, ?_⟩
 all_goals (unfold EC; obtain ⟨wA, hA, hb, hz⟩ := mk w; go_enter Tryz.func136, Tryz.ntmps136; go_wp2_with fail)
 refine (row_any _ _ _ _ _ _).mono ?_; rotate_left
 refine (row_any _ _ _ _ _ _).mono ?_; rotate_left
 refine (row_any _ _ _ _ _ _).mono ?_; rotate_left
 refine (row_any _ _ _ _ _ _).mono ?_; rotate_left
 refine (row_any _ _ _ _ _ _).mono ?_; rotate_left
 all_goals (rintro e w1 ⟨rfl, h1⟩; have hm := Made.of hb hz h1; first | unfold rowV | unfold entV)
 all_goals (go_wp2_with (refine wpList_store_row rfl 164 _ _ rfl w.heap.size _ rfl rfl 164 zE hm.blk (by exact sizeE) (by rfl) (by simp [Value.oneCell']) ?_))
 all_goals exact hm.done rfl rfl rfl
theorem entA (w : World) : EC 105 1 (entV 1 ⟨#[]⟩ 0 0 2 false 0 0 0 .nilFunc) w /\ EC 105 2 (entV 2 ⟨#[]⟩ 0 1 2 false 0 0 0 .nilFunc) w /\ EC 105 3 (entV 3 ⟨#[]⟩ 0 1 2 true 0 0 0 .nilFunc) w /\ EC 105 4 (entV 4 ⟨#[]⟩ 0 0 2 true 0 0 0 .nilFunc) w /\ EC 105 5 (entV 5 ⟨#[]⟩ 1 0 2 true 0 0 0 .nilFunc) w /\ EC 105 6 (entV 6 ⟨#[]⟩ 2 0 3 false 0 0 2 (.func (.func 176) #[] #[])) w /\ EC 105 7 (entV 7 ⟨#[]⟩ 0 0 3 true 0 0 0 .nilFunc) w /\ EC 105 8 (entV 8 ⟨#[]⟩ 0 0 2 false 0 0 0 .nilFunc) w /\ EC 105 9 (entV 9 ⟨#[110, 111, 112]⟩ 0 0 1 false 0 0 0 (.func (.func 178) #[] #[])) w /\ EC 105 10 (entV 10 ⟨#[121, 105, 101, 108, 100]⟩ 0 0 1 false 0 0 0 .nilFunc) w /\ EC 105 11 (entV 11 ⟨#[104, 97, 108, 116]⟩ 0 0 1 false 0 0 0 .nilFunc) w /\ EC 105 12 (entV 12 ⟨#[100, 117, 112]⟩ 1 2 1 false 0 0 0 (.func (.func 179) #[] #[])) w /\ EC 105 13 (entV 13 ⟨#[100, 114, 111, 112]⟩ 1 0 1 false 0 0 0 (.func (.func 181) #[] #[])) w /\ EC 105 14 (entV 14 ⟨#[115, 119, 97, 112]⟩ 2 2 1 false 0 0 0 (.func (.func 182) #[] #[])) w /\ EC 105 15 (entV 15 ⟨#[111, 118, 101, 114]⟩ 2 3 1 false 0 0 0 (.func (.func 183) #[] #[])) w /\ EC 105 16 (entV 16 ⟨#[114, 111, 116]⟩ 3 3 1 false 0 0 0 (.func (.func 184) #[] #[])) w := by
 refine ⟨?_, ?_, ?_, ?_, ?_, ?_, ?_, ?_, ?_, ?_, ?_, ?_, ?_, ?_, ?_, ?_⟩
 all_goals (unfold EC; obtain ⟨wA, hA, hb, hz⟩ := mk w; go_enter Tryz.func105, Tryz.ntmps105; go_wp2_with fail)
 refine Calls.mono (ofA135 _).1 ?_; rotate_left
 refine Calls.mono (ofA135 _).2.1 ?_; rotate_left
 refine Calls.mono (ofA135 _).2.2.1 ?_; rotate_left
 refine Calls.mono (ofA135 _).2.2.2.1 ?_; rotate_left
 refine Calls.mono (ofA135 _).2.2.2.2.1 ?_; rotate_left
 refine Calls.mono (ofA135 _).2.2.2.2.2.1 ?_; rotate_left
 refine Calls.mono (ofA135 _).2.2.2.2.2.2.1 ?_; rotate_left
 refine Calls.mono (ofA135 _).2.2.2.2.2.2.2.1 ?_; rotate_left
 refine Calls.mono (ofA135 _).2.2.2.2.2.2.2.2.1 ?_; rotate_left
 refine Calls.mono (ofA135 _).2.2.2.2.2.2.2.2.2.1 ?_; rotate_left
 refine Calls.mono (ofA135 _).2.2.2.2.2.2.2.2.2.2 ?_; rotate_left
 refine Calls.mono (ofA136 _).1 ?_; rotate_left
 refine Calls.mono (ofA136 _).2.1 ?_; rotate_left
 refine Calls.mono (ofA136 _).2.2.1 ?_; rotate_left
 refine Calls.mono (ofA136 _).2.2.2.1 ?_; rotate_left
 refine Calls.mono (ofA136 _).2.2.2.2 ?_; rotate_left
 all_goals (rintro e w1 ⟨rfl, h1⟩; have hm := Made.of hb hz h1; first | unfold rowV | unfold entV)
 all_goals (go_wp2_with (refine wpList_store_row rfl 164 _ _ rfl w.heap.size _ rfl rfl 164 zE hm.blk (by exact sizeE) (by rfl) (by simp [Value.oneCell']) ?_))
 all_goals exact hm.done rfl rfl rfl
set_option maxHeartbeats 40000000
set_option maxRecDepth 100000
theorem ofC137 (w : World) : EC 137 33 (entV 33 ⟨#[49, 45]⟩ 1 1 1 false 0 0 0 (.func (.func 244) #[] #[])) w /\ EC 137 34 (entV 34 ⟨#[50, 42]⟩ 1 1 1 false 0 0 0 (.func (.func 244) #[] #[])) w /\ EC 137 35 (entV 35 ⟨#[50, 47]⟩ 1 1 1 false 0 0 0 (.func (.func 244) #[] #[])) w := by
 refine ⟨?_, ?_, ?_⟩
 all_goals (unfold EC; obtain ⟨wA, hA, hb, hz⟩ := mk w; go_enter Tryz.func137, Tryz.ntmps137; go_wp2_with fail)
 refine (unary_any _ _ _).mono ?_; rotate_left
 refine (unary_any _ _ _).mono ?_; rotate_left
 refine (unary_any _ _ _).mono ?_; rotate_left
 all_goals (rintro e w1 ⟨rfl, h1⟩; have hm := Made.of hb hz h1; first | unfold rowV | unfold entV)
 all_goals (go_wp2_with (refine wpList_store_row rfl 164 _ _ rfl w.heap.size _ rfl rfl 164 zE hm.blk (by exact sizeE) (by rfl) (by simp [Value.oneCell']) ?_))
 all_goals exact hm.done rfl rfl rfl
theorem ofC138 (w : World) : EC 138 36 (entV 36 ⟨#[97, 110, 100]⟩ 2 1 1 false 0 0 0 (.func (.func 242) #[] #[])) w /\ EC 138 37 (entV 37 ⟨#[111, 114]⟩ 2 1 1 false 0 0 0 (.func (.func 242) #[] #[])) w /\ EC 138 38 (entV 38 ⟨#[120, 111, 114]⟩ 2 1 1 false 0 0 0 (.func (.func 242) #[] #[])) w /\ EC 138 39 (entV 39 ⟨#[105, 110, 118, 101, 114, 116]⟩ 1 1 1 false 0 0 0 (.func (.func 244) #[] #[])) w /\ EC 138 40 (entV 40 ⟨#[108, 115, 104, 105, 102, 116]⟩ 2 1 1 false 0 0 0 (.func (.func 242) #[] #[])) w /\ EC 138 41 (entV 41 ⟨#[114, 115, 104, 105, 102, 116]⟩ 2 1 1 false 0 0 0 (.func (.func 242) #[] #[])) w /\ EC 138 42 (entV 42 ⟨#[61]⟩ 2 1 1 false 0 0 0 (.func (.func 242) #[] #[])) w /\ EC 138 43 (entV 43 ⟨#[60, 62]⟩ 2 1 1 false 0 0 0 (.func (.func 242) #[] #[])) w /\ EC 138 44 (entV 44 ⟨#[60]⟩ 2 1 1 false 0 0 0 (.func (.func 242) #[] #[])) w /\ EC 138 45 (entV 45 ⟨#[62]⟩ 2 1 1 false 0 0 0 (.func (.func 242) #[] #[])) w /\ EC 138 46 (entV 46 ⟨#[117, 60]⟩ 2 1 1 false 0 0 0 (.func (.func 242) #[] #[])) w /\ EC 138 47 (entV 47 ⟨#[117, 62]⟩ 2 1 1 false 0 0 0 (.func (.func 242) #[] #[])) w /\ EC 138 48 (entV 48 ⟨#[48, 61]⟩ 1 1 1 false 0 0 0 (.func (.func 244) #[] #[])) w := by
 refine ⟨?_, ?_, ?_, ?_, ?_, ?_, ?_, ?_, ?_, ?_, ?_, ?_, ?_⟩
 all_goals (unfold EC; obtain ⟨wA, hA, hb, hz⟩ := mk w; go_enter Tryz.func138, Tryz.ntmps138; go_wp2_with fail)
 refine (binary_any _ _ _ _).mono ?_; rotate_left
 refine (binary_any _ _ _ _).mono ?_; rotate_left
 refine (binary_any _ _ _ _).mono ?_; rotate_left
 refine (unary_any _ _ _).mono ?_; rotate_left
 refine (binary_any _ _ _ _).mono ?_; rotate_left
 refine (binary_any _ _ _ _).mono ?_; rotate_left
 refine (binary_any _ _ _ _).mono ?_; rotate_left
 refine (binary_any _ _ _ _).mono ?_; rotate_left
 refine (binary_any _ _ _ _).mono ?_; rotate_left
 refine (binary_any _ _ _ _).mono ?_; rotate_left
 refine (binary_any _ _ _ _).mono ?_; rotate_left
 refine (binary_any _ _ _ _).mono ?_; rotate_left
 refine (unary_any _ _ _).mono ?_; rotate_left
 all_goals (rintro e w1 ⟨rfl, h1⟩; have hm := Made.of hb hz h1; first | unfold rowV | unfold entV)
 all_goals (go_wp2_with (refine wpList_store_row rfl 164 _ _ rfl w.heap.size _ rfl rfl 164 zE hm.blk (by exact sizeE) (by rfl) (by simp [Value.oneCell']) ?_))
 all_goals exact hm.done rfl rfl rfl
theorem entC (w : World) : EC 105 33 (entV 33 ⟨#[49, 45]⟩ 1 1 1 false 0 0 0 (.func (.func 244) #[] #[])) w /\ EC 105 34 (entV 34 ⟨#[50, 42]⟩ 1 1 1 false 0 0 0 (.func (.func 244) #[] #[])) w /\ EC 105 35 (entV 35 ⟨#[50, 47]⟩ 1 1 1 false 0 0 0 (.func (.func 244) #[] #[])) w /\ EC 105 36 (entV 36 ⟨#[97, 110, 100]⟩ 2 1 1 false 0 0 0 (.func (.func 242) #[] #[])) w /\ EC 105 37 (entV 37 ⟨#[111, 114]⟩ 2 1 1 false 0 0 0 (.func (.func 242) #[] #[])) w /\ EC 105 38 (entV 38 ⟨#[120, 111, 114]⟩ 2 1 1 false 0 0 0 (.func (.func 242) #[] #[])) w /\ EC 105 39 (entV 39 ⟨#[105, 110, 118, 101, 114, 116]⟩ 1 1 1 false 0 0 0 (.func (.func 244) #[] #[])) w /\ EC 105 40 (entV 40 ⟨#[108, 115, 104, 105, 102, 116]⟩ 2 1 1 false 0 0 0 (.func (.func 242) #[] #[])) w /\ EC 105 41 (entV 41 ⟨#[114, 115, 104, 105, 102, 116]⟩ 2 1 1 false 0 0 0 (.func (.func 242) #[] #[])) w /\ EC 105 42 (entV 42 ⟨#[61]⟩ 2 1 1 false 0 0 0 (.func (.func 242) #[] #[])) w /\ EC 105 43 (entV 43 ⟨#[60, 62]⟩ 2 1 1 false 0 0 0 (.func (.func 242) #[] #[])) w /\ EC 105 44 (entV 44 ⟨#[60]⟩ 2 1 1 false 0 0 0 (.func (.func 242) #[] #[])) w /\ EC 105 45 (entV 45 ⟨#[62]⟩ 2 1 1 false 0 0 0 (.func (.func 242) #[] #[])) w /\ EC 105 46 (entV 46 ⟨#[117, 60]⟩ 2 1 1 false 0 0 0 (.func (.func 242) #[] #[])) w /\ EC 105 47 (entV 47 ⟨#[117, 62]⟩ 2 1 1 false 0 0 0 (.func (.func 242) #[] #[])) w /\ EC 105 48 (entV 48 ⟨#[48, 61]⟩ 1 1 1 false 0 0 0 (.func (.func 244) #[] #[])) w := by
 refine ⟨?_, ?_, ?_, ?_, ?_, ?_, ?_, ?_, ?_, ?_, ?_, ?_, ?_, ?_, ?_, ?_⟩
 all_goals (unfold EC; obtain ⟨wA, hA, hb, hz⟩ := mk w; go_enter Tryz.func105, Tryz.ntmps105; go_wp2_with fail)
 refine Calls.mono (ofC137 _).1 ?_; rotate_left
 refine Calls.mono (ofC137 _).2.1 ?_; rotate_left
 refine Calls.mono (ofC137 _).2.2 ?_; rotate_left
 refine Calls.mono (ofC138 _).1 ?_; rotate_left
 refine Calls.mono (ofC138 _).2.1 ?_; rotate_left
 refine Calls.mono (ofC138 _).2.2.1 ?_; rotate_left
 refine Calls.mono (ofC138 _).2.2.2.1 ?_; rotate_left
 refine Calls.mono (ofC138 _).2.2.2.2.1 ?_; rotate_left
 refine Calls.mono (ofC138 _).2.2.2.2.2.1 ?_; rotate_left
 refine Calls.mono (ofC138 _).2.2.2.2.2.2.1 ?_; rotate_left
 refine Calls.mono (ofC138 _).2.2.2.2.2.2.2.1 ?_; rotate_left
 refine Calls.mono (ofC138 _).2.2.2.2.2.2.2.2.1 ?_; rotate_left
 refine Calls.mono (ofC138 _).2.2.2.2.2.2.2.2.2.1 ?_; rotate_left
 refine Calls.mono (ofC138 _).2.2.2.2.2.2.2.2.2.2.1 ?_; rotate_left
 refine Calls.mono (ofC138 _).2.2.2.2.2.2.2.2.2.2.2.1 ?_; rotate_left
 refine Calls.mono (ofC138 _).2.2.2.2.2.2.2.2.2.2.2.2 ?_; rotate_left
 all_goals (rintro e w1 ⟨rfl, h1⟩; have hm := Made.of hb hz h1; first | unfold rowV | unfold entV)
 all_goals (go_wp2_with (refine wpList_store_row rfl 164 _ _ rfl w.heap.size _ rfl rfl 164 zE hm.blk (by exact sizeE) (by rfl) (by simp [Value.oneCell']) ?_))
 all_goals exact hm.done rfl rfl rfl
set_option maxHeartbeats 40000000
set_option maxRecDepth 100000
theorem ofB136 (w : World) : EC 136 17 (entV 17 ⟨#[110, 105, 112]⟩ 2 1 1 false 0 0 0 (.func (.func 185) #[] #[])) w /\ EC 136 18 (entV 18 ⟨#[116, 117, 99, 107]⟩ 2 3 1 false 0 0 0 (.func (.func 186) #[] #[])) w /\ EC 136 19 (entV 19 ⟨#[50, 100, 117, 112]⟩ 2 4 2 false 0 0 0 (.func (.func 187) #[] #[])) w /\ EC 136 20 (entV 20 ⟨#[50, 100, 114, 111, 112]⟩ 2 0 1 false 0 0 0 (.func (.func 188) #[] #[])) w := by
 refine ⟨?_, ?_, ?_, ?_⟩
 all_goals (unfold EC; obtain ⟨wA, hA, hb, hz⟩ := mk w; go_enter Tryz.func136, Tryz.ntmps136; go_wp2_with fail)
 refine (row_any _ _ _ _ _ _).mono ?_; rotate_left
 refine (row_any _ _ _ _ _ _).mono ?_; rotate_left
 refine (row_any _ _ _ _ _ _).mono ?_; rotate_left
 refine (row_any _ _ _ _ _ _).mono ?_; rotate_left
 all_goals (rintro e w1 ⟨rfl, h1⟩; have hm := Made.of hb hz h1; first | unfold rowV | unfold entV)
 all_goals (go_wp2_with (refine wpList_store_row rfl 164 _ _ rfl w.heap.size _ rfl rfl 164 zE hm.blk (by exact sizeE) (by rfl) (by simp [Value.oneCell']) ?_))
 all_goals exact hm.done rfl rfl rfl
theorem ofB137 (w : World) : EC 137 21 (entV 21 ⟨#[43]⟩ 2 1 1 false 0 0 0 (.func (.func 242) #[] #[])) w /\ EC 137 22 (entV 22 ⟨#[45]⟩ 2 1 1 false 0 0 0 (.func (.func 242) #[] #[])) w /\ EC 137 23 (entV 23 ⟨#[42]⟩ 2 1 3 false 0 0 0 (.func (.func 242) #[] #[])) w /\ EC 137 24 (entV 24 ⟨#[47]⟩ 2 1 4 false 0 0 0 (.func (.func 242) #[] #[])) w /\ EC 137 25 (entV 25 ⟨#[109, 111, 100]⟩ 2 1 4 false 0 0 0 (.func (.func 242) #[] #[])) w /\ EC 137 26 (entV 26 ⟨#[117, 47]⟩ 2 1 4 false 0 0 0 (.func (.func 242) #[] #[])) w /\ EC 137 27 (entV 27 ⟨#[117, 109, 111, 100]⟩ 2 1 4 false 0 0 0 (.func (.func 242) #[] #[])) w /\ EC 137 28 (entV 28 ⟨#[110, 101, 103, 97, 116, 101]⟩ 1 1 1 false 0 0 0 (.func (.func 244) #[] #[])) w /\ EC 137 29 (entV 29 ⟨#[97, 98, 115]⟩ 1 1 1 false 0 0 0 (.func (.func 244) #[] #[])) w /\ EC 137 30 (entV 30 ⟨#[109, 105, 110]⟩ 2 1 1 false 0 0 0 (.func (.func 242) #[] #[])) w /\ EC 137 31 (entV 31 ⟨#[109, 97, 120]⟩ 2 1 1 false 0 0 0 (.func (.func 242) #[] #[])) w /\ EC 137 32 (entV 32 ⟨#[49, 43]⟩ 1 1 1 false 0 0 0 (.func (.func 244) #[] #[])) w := by
 refine ⟨?_, ?_, ?_, ?_, ?_, ?_, ?_, ?_, ?_, ?_, ?_, ?_⟩
 all_goals (unfold EC; obtain ⟨wA, hA, hb, hz⟩ := mk w; go_enter Tryz.func137, Tryz.ntmps137; go_wp2_with fail)
 refine (binary_any _ _ _ _).mono ?_; rotate_left
 refine (binary_any _ _ _ _).mono ?_; rotate_left
 refine (binary_any _ _ _ _).mono ?_; rotate_left
 refine (binary_any _ _ _ _).mono ?_; rotate_left
 refine (binary_any _ _ _ _).mono ?_; rotate_left
 refine (binary_any _ _ _ _).mono ?_; rotate_left
 refine (binary_any _ _ _ _).mono ?_; rotate_left
 refine (unary_any _ _ _).mono ?_; rotate_left
 refine (unary_any _ _ _).mono ?_; rotate_left
 refine (binary_any _ _ _ _).mono ?_; rotate_left
 refine (binary_any _ _ _ _).mono ?_; rotate_left
 refine (unary_any _ _ _).mono ?_; rotate_left
 all_goals (rintro e w1 ⟨rfl, h1⟩; have hm := Made.of hb hz h1; first | unfold rowV | unfold entV)
 all_goals (go_wp2_with (refine wpList_store_row rfl 164 _ _ rfl w.heap.size _ rfl rfl 164 zE hm.blk (by exact sizeE) (by rfl) (by simp [Value.oneCell']) ?_))
 all_goals exact hm.done rfl rfl rfl
theorem entB (w : World) : EC 105 17 (entV 17 ⟨#[110, 105, 112]⟩ 2 1 1 false 0 0 0 (.func (.func 185) #[] #[])) w /\ EC 105 18 (entV 18 ⟨#[116, 117, 99, 107]⟩ 2 3 1 false 0 0 0 (.func (.func 186) #[] #[])) w /\ EC 105 19 (entV 19 ⟨#[50, 100, 117, 112]⟩ 2 4 2 false 0 0 0 (.func (.func 187) #[] #[])) w /\ EC 105 20 (entV 20 ⟨#[50, 100, 114, 111, 112]⟩ 2 0 1 false 0 0 0 (.func (.func 188) #[] #[])) w /\ EC 105 21 (entV 21 ⟨#[43]⟩ 2 1 1 false 0 0 0 (.func (.func 242) #[] #[])) w /\ EC 105 22 (entV 22 ⟨#[45]⟩ 2 1 1 false 0 0 0 (.func (.func 242) #[] #[])) w /\ EC 105 23 (entV 23 ⟨#[42]⟩ 2 1 3 false 0 0 0 (.func (.func 242) #[] #[])) w /\ EC 105 24 (entV 24 ⟨#[47]⟩ 2 1 4 false 0 0 0 (.func (.func 242) #[] #[])) w /\ EC 105 25 (entV 25 ⟨#[109, 111, 100]⟩ 2 1 4 false 0 0 0 (.func (.func 242) #[] #[])) w /\ EC 105 26 (entV 26 ⟨#[117, 47]⟩ 2 1 4 false 0 0 0 (.func (.func 242) #[] #[])) w /\ EC 105 27 (entV 27 ⟨#[117, 109, 111, 100]⟩ 2 1 4 false 0 0 0 (.func (.func 242) #[] #[])) w /\ EC 105 28 (entV 28 ⟨#[110, 101, 103, 97, 116, 101]⟩ 1 1 1 false 0 0 0 (.func (.func 244) #[] #[])) w /\ EC 105 29 (entV 29 ⟨#[97, 98, 115]⟩ 1 1 1 false 0 0 0 (.func (.func 244) #[] #[])) w /\ EC 105 30 (entV 30 ⟨#[109, 105, 110]⟩ 2 1 1 false 0 0 0 (.func (.func 242) #[] #[])) w /\ EC 105 31 (entV 31 ⟨#[109, 97, 120]⟩ 2 1 1 false 0 0 0 (.func (.func 242) #[] #[])) w /\ EC 105 32 (entV 32 ⟨#[49, 43]⟩ 1 1 1 false 0 0 0 (.func (.func 244) #[] #[])) w := by
 refine ⟨?_, ?_, ?_, ?_, ?_, ?_, ?_, ?_, ?_, ?_, ?_, ?_, ?_, ?_, ?_, ?_⟩
 all_goals (unfold EC; obtain ⟨wA, hA, hb, hz⟩ := mk w; go_enter Tryz.func105, Tryz.ntmps105; go_wp2_with fail)
 refine Calls.mono (ofB136 _).1 ?_; rotate_left
 refine Calls.mono (ofB136 _).2.1 ?_; rotate_left
 refine Calls.mono (ofB136 _).2.2.1 ?_; rotate_left
 refine Calls.mono (ofB136 _).2.2.2 ?_; rotate_left
 refine Calls.mono (ofB137 _).1 ?_; rotate_left
 refine Calls.mono (ofB137 _).2.1 ?_; rotate_left
 refine Calls.mono (ofB137 _).2.2.1 ?_; rotate_left
 refine Calls.mono (ofB137 _).2.2.2.1 ?_; rotate_left
 refine Calls.mono (ofB137 _).2.2.2.2.1 ?_; rotate_left
 refine Calls.mono (ofB137 _).2.2.2.2.2.1 ?_; rotate_left
 refine Calls.mono (ofB137 _).2.2.2.2.2.2.1 ?_; rotate_left
 refine Calls.mono (ofB137 _).2.2.2.2.2.2.2.1 ?_; rotate_left
 refine Calls.mono (ofB137 _).2.2.2.2.2.2.2.2.1 ?_; rotate_left
 refine Calls.mono (ofB137 _).2.2.2.2.2.2.2.2.2.1 ?_; rotate_left
 refine Calls.mono (ofB137 _).2.2.2.2.2.2.2.2.2.2.1 ?_; rotate_left
 refine Calls.mono (ofB137 _).2.2.2.2.2.2.2.2.2.2.2 ?_; rotate_left
 all_goals (rintro e w1 ⟨rfl, h1⟩; have hm := Made.of hb hz h1; first | unfold rowV | unfold entV)
 all_goals (go_wp2_with (refine wpList_store_row rfl 164 _ _ rfl w.heap.size _ rfl rfl 164 zE hm.blk (by exact sizeE) (by rfl) (by simp [Value.oneCell']) ?_))
 all_goals exact hm.done rfl rfl rfl
set_option maxHeartbeats 40000000
set_option maxRecDepth 100000
theorem ofD138 (w : World) : EC 138 49 (entV 49 ⟨#[48, 60]⟩ 1 1 1 false 0 0 0 (.func (.func 244) #[] #[])) w := by
 all_goals (unfold EC; obtain ⟨wA, hA, hb, hz⟩ := mk w; go_enter Tryz.func138, Tryz.ntmps138; go_wp2_with fail)
 refine (unary_any _ _ _).mono ?_; rotate_left
 all_goals (rintro e w1 ⟨rfl, h1⟩; have hm := Made.of hb hz h1; first | unfold rowV | unfold entV)
 all_goals (go_wp2_with (refine wpList_store_row rfl 164 _ _ rfl w.heap.size _ rfl rfl 164 zE hm.blk (by exact sizeE) (by rfl) (by simp [Value.oneCell']) ?_))
 all_goals exact hm.done rfl rfl rfl
theorem ofD139 (w : World) : EC 139 50 (entV 50 ⟨#[64]⟩ 1 1 2 false 0 0 0 (.func (.func 191) #[] #[])) w /\ EC 139 51 (entV 51 ⟨#[33]⟩ 2 0 2 false 0 0 0 (.func (.func 193) #[] #[])) w /\ EC 139 52 (entV 52 ⟨#[99, 64]⟩ 1 1 2 false 0 0 0 (.func (.func 195) #[] #[])) w /\ EC 139 53 (entV 53 ⟨#[99, 33]⟩ 2 0 2 false 0 0 0 (.func (.func 197) #[] #[])) w /\ EC 139 54 (entV 54 ⟨#[43, 33]⟩ 2 0 3 false 0 0 0 (.func (.func 199) #[] #[])) w := by
 refine ⟨?_, ?_, ?_, ?_, ?_⟩
 all_goals (unfold EC; obtain ⟨wA, hA, hb, hz⟩ := mk w; go_enter Tryz.func139, Tryz.ntmps139; go_wp2_with fail)
 refine (row_any _ _ _ _ _ _).mono ?_; rotate_left
 refine (row_any _ _ _ _ _ _).mono ?_; rotate_left
 refine (row_any _ _ _ _ _ _).mono ?_; rotate_left
 refine (row_any _ _ _ _ _ _).mono ?_; rotate_left
 refine (row_any _ _ _ _ _ _).mono ?_; rotate_left
 all_goals (rintro e w1 ⟨rfl, h1⟩; have hm := Made.of hb hz h1; first | unfold rowV | unfold entV)
 all_goals (go_wp2_with (refine wpList_store_row rfl 164 _ _ rfl w.heap.size _ rfl rfl 164 zE hm.blk (by exact sizeE) (by rfl) (by simp [Value.oneCell']) ?_))
 all_goals exact hm.done rfl rfl rfl
theorem ofD140 (w : World) : EC 140 55 (entV 55 ⟨#[62, 114]⟩ 1 0 1 false 0 0 1 (.func (.func 200) #[] #[])) w /\ EC 140 56 (entV 56 ⟨#[114, 62]⟩ 0 1 1 false 4 0 0 (.func (.func 201) #[] #[])) w /\ EC 140 57 (entV 57 ⟨#[114, 64]⟩ 0 1 1 false 4 0 0 (.func (.func 251) #[] #[])) w /\ EC 140 58 (entV 58 ⟨#[105]⟩ 0 1 1 false 3 0 0 (.func (.func 251) #[] #[])) w /\ EC 140 59 (entV 59 ⟨#[106]⟩ 0 1 1 false 3 2 0 (.func (.func 251) #[] #[])) w := by
 refine ⟨?_, ?_, ?_, ?_, ?_⟩
 all_goals (unfold EC; obtain ⟨wA, hA, hb, hz⟩ := mk w; go_enter Tryz.func140, Tryz.ntmps140; go_wp2_with fail)
 refine (row_any _ _ _ _ _ _).mono ?_; rotate_left
 refine (row_any _ _ _ _ _ _).mono ?_; rotate_left
 refine (peek_any _ _ _ _ _).mono ?_; rotate_left
 refine (peek_any _ _ _ _ _).mono ?_; rotate_left
 refine (peek_any _ _ _ _ _).mono ?_; rotate_left
 all_goals (rintro e w1 ⟨rfl, h1⟩; have hm := Made.of hb hz h1; first | unfold rowV | unfold entV)
 all_goals (go_wp2_with (refine wpList_store_row rfl 164 _ _ rfl w.heap.size _ rfl rfl 164 zE hm.blk (by exact sizeE) (by rfl) (by simp [Value.oneCell']) ?_))
 all_goals exact hm.done rfl rfl rfl
theorem ofD141 (w : World) : EC 141 60 (entV 60 ⟨#[112, 108, 111, 116]⟩ 3 0 3 false 0 0 0 (.func (.func 204) #[] #[])) w /\ EC 141 61 (entV 61 ⟨#[112, 97, 100]⟩ 0 1 1 false 0 0 0 (.func (.func 206) #[] #[])) w /\ EC 141 62 (entV 62 ⟨#[116, 111, 110, 101]⟩ 2 0 2 false 0 0 0 (.func (.func 208) #[] #[])) w /\ EC 141 63 (entV 63 ⟨#[98, 97, 110, 107]⟩ 1 0 1 false 0 0 0 (.func (.func 210) #[] #[])) w := by
 refine ⟨?_, ?_, ?_, ?_⟩
 all_goals (unfold EC; obtain ⟨wA, hA, hb, hz⟩ := mk w; go_enter Tryz.func141, Tryz.ntmps141; go_wp2_with fail)
 refine (row_any _ _ _ _ _ _).mono ?_; rotate_left
 refine (row_any _ _ _ _ _ _).mono ?_; rotate_left
 refine (row_any _ _ _ _ _ _).mono ?_; rotate_left
 refine (row_any _ _ _ _ _ _).mono ?_; rotate_left
 all_goals (rintro e w1 ⟨rfl, h1⟩; have hm := Made.of hb hz h1; first | unfold rowV | unfold entV)
 all_goals (go_wp2_with (refine wpList_store_row rfl 164 _ _ rfl w.heap.size _ rfl rfl 164 zE hm.blk (by exact sizeE) (by rfl) (by simp [Value.oneCell']) ?_))
 all_goals exact hm.done rfl rfl rfl
theorem entD (w : World) : EC 105 49 (entV 49 ⟨#[48, 60]⟩ 1 1 1 false 0 0 0 (.func (.func 244) #[] #[])) w /\ EC 105 50 (entV 50 ⟨#[64]⟩ 1 1 2 false 0 0 0 (.func (.func 191) #[] #[])) w /\ EC 105 51 (entV 51 ⟨#[33]⟩ 2 0 2 false 0 0 0 (.func (.func 193) #[] #[])) w /\ EC 105 52 (entV 52 ⟨#[99, 64]⟩ 1 1 2 false 0 0 0 (.func (.func 195) #[] #[])) w /\ EC 105 53 (entV 53 ⟨#[99, 33]⟩ 2 0 2 false 0 0 0 (.func (.func 197) #[] #[])) w /\ EC 105 54 (entV 54 ⟨#[43, 33]⟩ 2 0 3 false 0 0 0 (.func (.func 199) #[] #[])) w /\ EC 105 55 (entV 55 ⟨#[62, 114]⟩ 1 0 1 false 0 0 1 (.func (.func 200) #[] #[])) w /\ EC 105 56 (entV 56 ⟨#[114, 62]⟩ 0 1 1 false 4 0 0 (.func (.func 201) #[] #[])) w /\ EC 105 57 (entV 57 ⟨#[114, 64]⟩ 0 1 1 false 4 0 0 (.func (.func 251) #[] #[])) w /\ EC 105 58 (entV 58 ⟨#[105]⟩ 0 1 1 false 3 0 0 (.func (.func 251) #[] #[])) w /\ EC 105 59 (entV 59 ⟨#[106]⟩ 0 1 1 false 3 2 0 (.func (.func 251) #[] #[])) w /\ EC 105 60 (entV 60 ⟨#[112, 108, 111, 116]⟩ 3 0 3 false 0 0 0 (.func (.func 204) #[] #[])) w /\ EC 105 61 (entV 61 ⟨#[112, 97, 100]⟩ 0 1 1 false 0 0 0 (.func (.func 206) #[] #[])) w /\ EC 105 62 (entV 62 ⟨#[116, 111, 110, 101]⟩ 2 0 2 false 0 0 0 (.func (.func 208) #[] #[])) w /\ EC 105 63 (entV 63 ⟨#[98, 97, 110, 107]⟩ 1 0 1 false 0 0 0 (.func (.func 210) #[] #[])) w := by
 refine ⟨?_, ?_, ?_, ?_, ?_, ?_, ?_, ?_, ?_, ?_, ?_, ?_, ?_, ?_, ?_⟩
 all_goals (unfold EC; obtain ⟨wA, hA, hb, hz⟩ := mk w; go_enter Tryz.func105, Tryz.ntmps105; go_wp2_with fail)
 refine Calls.mono (ofD138 _) ?_; rotate_left
 refine Calls.mono (ofD139 _).1 ?_; rotate_left
 refine Calls.mono (ofD139 _).2.1 ?_; rotate_left
 refine Calls.mono (ofD139 _).2.2.1 ?_; rotate_left
 refine Calls.mono (ofD139 _).2.2.2.1 ?_; rotate_left
 refine Calls.mono (ofD139 _).2.2.2.2 ?_; rotate_left
 refine Calls.mono (ofD140 _).1 ?_; rotate_left
 refine Calls.mono (ofD140 _).2.1 ?_; rotate_left
 refine Calls.mono (ofD140 _).2.2.1 ?_; rotate_left
 refine Calls.mono (ofD140 _).2.2.2.1 ?_; rotate_left
 refine Calls.mono (ofD140 _).2.2.2.2 ?_; rotate_left
 refine Calls.mono (ofD141 _).1 ?_; rotate_left
 refine Calls.mono (ofD141 _).2.1 ?_; rotate_left
 refine Calls.mono (ofD141 _).2.2.1 ?_; rotate_left
 refine Calls.mono (ofD141 _).2.2.2 ?_; rotate_left
 all_goals (rintro e w1 ⟨rfl, h1⟩; have hm := Made.of hb hz h1; first | unfold rowV | unfold entV)
 all_goals (go_wp2_with (refine wpList_store_row rfl 164 _ _ rfl w.heap.size _ rfl rfl 164 zE hm.blk (by exact sizeE) (by rfl) (by simp [Value.oneCell']) ?_))
 all_goals exact hm.done rfl rfl rfl
end Go.Proofs.YtdnklgceghllaaaGreatDoor.P
