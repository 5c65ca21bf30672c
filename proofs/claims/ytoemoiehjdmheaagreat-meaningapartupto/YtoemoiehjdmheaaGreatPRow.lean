import Derived.Test.YtoemoiehjdmheaaGreatProg
import Derived.WalkKit
import Derived.KernelRfl
import Derived.ProofKit
import Derived.BigQuiet
import Derived.Laws.Rows
import Derived.Laws.Tables
namespace Go.Proofs.YtoemoiehjdmheaaGreat.P
open Go.RowKit
open Go.Proofs
set_option linter.unusedVariables false
set_option linter.unusedSimpArgs false
set_option maxHeartbeats 1000000
set_option maxRecDepth 100000
def rowV (op : Int) (name : ByteArray) (i o c : Int) (b : Bool) : Value := .agg #[.int .i64 op, .string name, .int .i64 i, .int .i64 o, .int .i64 c, .bool b]
theorem row_any (op : Int) (name : ByteArray) (i o c : Int) (w : World) : Calls Tryz.prog 94 #[.int .i64 op, .string name, .int .i64 i, .int .i64 o, .int .i64 c] w fun e w' => e = .returned (rowV op name i o c false) /\ Below w.heap.size w w' := by
 go_enter Tryz.func94, Tryz.ntmps94
 go_wp2
 refine bodyPost_ret (v := rowV op name i o c false) (by simp [results, Tryz.results94, go_sem, rowV]) rfl ⟨rfl, ?_⟩
 exact (Below.refl _ w).alloc (Nat.le_refl _) _
def zE : Array Value := #[.int .i64 0, .string { data := #[] }, .int .i64 0, .int .i64 0, .int .i64 0, .bool false, .int .i64 0, .int .i64 0, .int .i64 0, .nilFunc]
theorem sizeE : (Tryz.prog.info? 160).map (·.size) = some 10 := by kernel_rfl
theorem sizeR : (Tryz.prog.info? 128).map (·.size) = some 6 := by kernel_rfl
theorem Below.setRow {B : Nat} {a w : World} (h : Below B a w) (g : Nat) (hg : B <= g) (c : Array Value) : Below B a (w.setRow g c) :=
 ⟨h.os, h.tape, h.output, by rw [setRow_size]; exact h.size, fun k hk => (setRow_other w g k c (by omega)).trans (h.block k hk)⟩
theorem mk (w : World) : ∃ wA, w.alloc (.cells #[.int .i64 0, .string { data := #[] }, .int .i64 0, .int .i64 0, .int .i64 0, .bool false, .int .i64 0, .int .i64 0, .int .i64 0, .nilFunc] 160) = wA /\ Below w.heap.size w wA /\ wA.heap[w.heap.size]? = some (.cells zE 160 (0, 0)) :=
 ⟨_, rfl, (Below.refl _ w).alloc (Nat.le_refl _) _, heap_alloc_new w _⟩
structure Made (w wA w1 : World) : Prop where
 bel : Below w.heap.size w w1
 blk : w1.heap[w.heap.size]? = some (.cells zE 160 (0, 0))
theorem Made.of {w wA w1 : World} (hb : Below w.heap.size w wA) (hz : wA.heap[w.heap.size]? = some (.cells zE 160 (0, 0))) (h : Below wA.heap.size wA w1) : Made w wA w1 :=
 ⟨hb.trans ⟨h.os, h.tape, h.output, h.size, fun k hk => h.block k (Nat.lt_of_lt_of_le hk hb.size)⟩, (h.block _ (Array.getElem?_eq_some_iff.1 hz).1).trans hz⟩
theorem Made.fin {w wA w1 : World} (h : Made w wA w1) (c : Array Value) : (w1.setRow w.heap.size c).heap[w.heap.size]? = some (.cells c 160 (0, 0)) /\ Below w.heap.size w (w1.setRow w.heap.size c) :=
 ⟨setRow_heap w1 _ _ _ _ _ h.blk, Below.setRow h.bel _ (Nat.le_refl _) _⟩
def entV (op : Int) (name : ByteArray) (i o c : Int) (b : Bool) (k bl s : Int) (f : Value) : Value := .agg #[.int .i64 op, .string name, .int .i64 i, .int .i64 o, .int .i64 c, .bool b, .int .i64 k, .int .i64 bl, .int .i64 s, f]
theorem Made.done {w wA w1 : World} (h : Made w wA w1) {fn : Func} {p : Tmp} {a : Act} {op i o c k bl s : Int} {name : ByteArray} {b : Bool} {f : Value} (hr : fn.results = #[.cell p 160]) (hp : a.tmps.getD p undef = .pointer (some ⟨w.heap.size, 0, none⟩)) (hd : a.defers = []) :
  bodyPost Tryz.prog fn (fun e w' => e = .returned (entV op name i o c b k bl s f) /\ Below w.heap.size w w') .ret a (w1.setRow w.heap.size #[.int .i64 op, .string name, .int .i64 i, .int .i64 o, .int .i64 c, .bool b, .int .i64 k, .int .i64 bl, .int .i64 s, f]) :=
 bodyPost_ret (results_cell_row hr _ _ w.heap.size 160 _ (0, 0) _ hp (h.fin _).1 Tryz.underlying160 rfl sizeE) hd ⟨rfl, (h.fin _).2⟩
theorem binary_any (op : Int) (name : ByteArray) (c : Int) (w : World) : Calls Tryz.prog 109 #[.int .i64 op, .string name, .int .i64 c] w fun e w' => e = .returned (entV op name 2 1 c false 0 0 0 (.func (.func 137) #[] #[])) /\ Below w.heap.size w w' := by
 obtain ⟨wA, hA, hb, hz⟩ := mk w
 go_enter Tryz.func109, Tryz.ntmps109
 go_wp2_with fail
 refine (row_any _ _ _ _ _ _).mono ?_
 rintro e w1 ⟨rfl, h1⟩
 have hm := Made.of hb hz h1
 unfold rowV
 go_wp2_with (refine wpList_store_row rfl 160 _ _ rfl w.heap.size _ rfl rfl 160 zE hm.blk (by exact sizeE) (by rfl) (by simp [Value.oneCell']) ?_)
 exact hm.done rfl rfl rfl
theorem unary_any (op : Int) (name : ByteArray) (w : World) : Calls Tryz.prog 110 #[.int .i64 op, .string name] w fun e w' => e = .returned (entV op name 1 1 1 false 0 0 0 (.func (.func 139) #[] #[])) /\ Below w.heap.size w w' := by
 obtain ⟨wA, hA, hb, hz⟩ := mk w
 go_enter Tryz.func110, Tryz.ntmps110
 go_wp2_with fail
 refine (row_any _ _ _ _ _ _).mono ?_
 rintro e w1 ⟨rfl, h1⟩
 have hm := Made.of hb hz h1
 unfold rowV
 go_wp2_with (refine wpList_store_row rfl 160 _ _ rfl w.heap.size _ rfl rfl 160 zE hm.blk (by exact sizeE) (by rfl) (by simp [Value.oneCell']) ?_)
 exact hm.done rfl rfl rfl
theorem peek_any (op : Int) (name : ByteArray) (k bl : Int) (w : World) : Calls Tryz.prog 122 #[.int .i64 op, .string name, .int .i64 k, .int .i64 bl] w fun e w' => e = .returned (entV op name 0 1 1 false k bl 0 (.func (.func 144) #[] #[])) /\ Below w.heap.size w w' := by
 obtain ⟨wA, hA, hb, hz⟩ := mk w
 go_enter Tryz.func122, Tryz.ntmps122
 go_wp2_with fail
 refine (row_any _ _ _ _ _ _).mono ?_
 rintro e w1 ⟨rfl, h1⟩
 have hm := Made.of hb hz h1
 unfold rowV
 go_wp2_with (refine wpList_store_row rfl 160 _ _ rfl w.heap.size _ rfl rfl 160 zE hm.blk (by exact sizeE) (by rfl) (by simp [Value.oneCell']) ?_)
 exact hm.done rfl rfl rfl
theorem withOperand_any (op i o c : Int) (w : World) : Calls Tryz.prog 95 #[.int .i64 op, .int .i64 i, .int .i64 o, .int .i64 c] w fun e w' => e = .returned (entV op ⟨#[]⟩ i o c true 0 0 0 .nilFunc) /\ Below w.heap.size w w' := by
 obtain ⟨wA, hA, hb, hz⟩ := mk w
 go_enter Tryz.func95, Tryz.ntmps95
 go_wp2_with fail
 refine (row_any _ _ _ _ _ _).mono ?_
 rintro e w1 ⟨rfl, h1⟩
 obtain ⟨w2, hw2⟩ : ∃ w2, w1.alloc (.cells #[.int .i64 op, .string { data := #[] }, .int .i64 i, .int .i64 o, .int .i64 c, .bool true] 128) = w2 := ⟨_, rfl⟩
 have h2 : Below wA.heap.size wA w2 := by rw [<- hw2]; exact h1.alloc h1.size _
 have hr2 : w2.heap[w1.heap.size]? = some (.cells #[.int .i64 op, .string { data := #[] }, .int .i64 i, .int .i64 o, .int .i64 c, .bool true] 128 (0, 0)) := by rw [<- hw2]; exact heap_alloc_new w1 _
 have hm := Made.of hb hz h2
 unfold rowV
 go_wp2_with (first | (refine wpList_load_row rfl 128 _ rfl w1.heap.size rfl 128 _ (0, 0) _ hr2 Tryz.underlying128 rfl (by exact sizeR) ?_) | (refine wpList_store_row rfl 160 _ _ rfl w.heap.size _ rfl rfl 160 zE hm.blk (by exact sizeE) (by rfl) (by simp [Value.oneCell']) ?_))
 exact hm.done rfl rfl rfl
def EC (f : Nat) (k : Int) (v : Value) (w : World) : Prop := Calls Tryz.prog f #[.int .i64 k] w fun e w' => e = .returned v /\ Below w.heap.size w w'
set_option maxHeartbeats 40000000
set_option maxRecDepth 100000
theorem ofA73 (w : World) : EC 73 1 (entV 1 ⟨#[]⟩ 0 0 2 false 0 0 0 .nilFunc) w /\ EC 73 2 (entV 2 ⟨#[]⟩ 0 1 2 false 0 0 0 .nilFunc) w /\ EC 73 3 (entV 3 ⟨#[]⟩ 0 1 2 true 0 0 0 .nilFunc) w /\ EC 73 4 (entV 4 ⟨#[]⟩ 0 0 2 true 0 0 0 .nilFunc) w /\ EC 73 5 (entV 5 ⟨#[]⟩ 1 0 2 true 0 0 0 .nilFunc) w /\ EC 73 6 (entV 6 ⟨#[]⟩ 2 0 3 false 0 0 2 (.func (.func 96) #[] #[])) w /\ EC 73 7 (entV 7 ⟨#[]⟩ 0 0 3 true 0 0 0 .nilFunc) w /\ EC 73 8 (entV 8 ⟨#[]⟩ 0 0 2 false 0 0 0 .nilFunc) w /\ EC 73 9 (entV 9 ⟨#[110, 111, 112]⟩ 0 0 1 false 0 0 0 (.func (.func 98) #[] #[])) w /\ EC 73 10 (entV 10 ⟨#[121, 105, 101, 108, 100]⟩ 0 0 1 false 0 0 0 .nilFunc) w /\ EC 73 11 (entV 11 ⟨#[104, 97, 108, 116]⟩ 0 0 1 false 0 0 0 .nilFunc) w := by
 refine ⟨?_, ?_, ?_, ?_, ?_, ?_, ?_, ?_, ?_, ?_, ?_⟩
 all_goals (unfold EC; obtain ⟨wA, hA, hb, hz⟩ := mk w; go_enter Tryz.func73, Tryz.ntmps73; go_wp2_with fail)
 refine (row_any _ _ _ _ _ _).mono ?_; rotate_left
 refine (row_any _ _ _ _ _ _).mono ?_; rotate_left
 refine (withOperand_any _ _ _ _ _).mono ?_; rotate_left
 refine (withOperand_any _ _ _ _ _).mono ?_; rotate_left
 refine (withOperand_any _ _ _ _ _).mono ?_; rotate_left
 refine (row_any _ _ _ _ _ _).mono ?_; rotate_left
 refine (withOperand_any _ _ _ _ _).mono ?_; rotate_left
 refine (row_any _ _ _ _ _ _).mono ?_; rotate_left
 refine (row_any _ _ _ _ _ _).mono ?_; rotate_left
 refine (row_any _ _ _ _ _ _).mono ?_; rotate_left
 refine (row_any _ _ _ _ _ _).mono ?_; rotate_left
 all_goals (rintro e w1 ⟨rfl, h1⟩; have hm := Made.of hb hz h1; first | unfold rowV | unfold entV)
 all_goals (go_wp2_with (refine wpList_store_row rfl 160 _ _ rfl w.heap.size _ rfl rfl 160 zE hm.blk (by exact sizeE) (by rfl) (by simp [Value.oneCell']) ?_))
 all_goals exact hm.done rfl rfl rfl
theorem ofA74 (w : World) : EC 74 12 (entV 12 ⟨#[100, 117, 112]⟩ 1 2 1 false 0 0 0 (.func (.func 99) #[] #[])) w /\ EC 74 13 (entV 13 ⟨#[100, 114, 111, 112]⟩ 1 0 1 false 0 0 0 (.func (.func 101) #[] #[])) w /\ EC 74 14 (entV 14 ⟨#[115, 119, 97, 112]⟩ 2 2 1 false 0 0 0 (.func (.func 102) #[] #[])) w /\ EC 74 15 (entV 15 ⟨#[111, 118, 101, 114]⟩ 2 3 1 false 0 0 0 (.func (.func 103) #[] #[])) w /\ EC 74 16 (entV 16 ⟨#[114, 111, 116]⟩ 3 3 1 false 0 0 0 (.func (.func 104) #[] #[])) w := by
 refine ⟨?_, ?_, ?_, ?_, ?_⟩
 all_goals (unfold EC; obtain ⟨wA, hA, hb, hz⟩ := mk w; go_enter Tryz.func74, Tryz.ntmps74; go_wp2_with fail)
 refine (row_any _ _ _ _ _ _).mono ?_; rotate_left
 refine (row_any _ _ _ _ _ _).mono ?_; rotate_left
 refine (row_any _ _ _ _ _ _).mono ?_; rotate_left
 refine (row_any _ _ _ _ _ _).mono ?_; rotate_left
 refine (row_any _ _ _ _ _ _).mono ?_; rotate_left
 all_goals (rintro e w1 ⟨rfl, h1⟩; have hm := Made.of hb hz h1; first | unfold rowV | unfold entV)
 all_goals (go_wp2_with (refine wpList_store_row rfl 160 _ _ rfl w.heap.size _ rfl rfl 160 zE hm.blk (by exact sizeE) (by rfl) (by simp [Value.oneCell']) ?_))
 all_goals exact hm.done rfl rfl rfl
theorem entA (w : World) : EC 58 1 (entV 1 ⟨#[]⟩ 0 0 2 false 0 0 0 .nilFunc) w /\ EC 58 2 (entV 2 ⟨#[]⟩ 0 1 2 false 0 0 0 .nilFunc) w /\ EC 58 3 (entV 3 ⟨#[]⟩ 0 1 2 true 0 0 0 .nilFunc) w /\ EC 58 4 (entV 4 ⟨#[]⟩ 0 0 2 true 0 0 0 .nilFunc) w /\ EC 58 5 (entV 5 ⟨#[]⟩ 1 0 2 true 0 0 0 .nilFunc) w /\ EC 58 6 (entV 6 ⟨#[]⟩ 2 0 3 false 0 0 2 (.func (.func 96) #[] #[])) w /\ EC 58 7 (entV 7 ⟨#[]⟩ 0 0 3 true 0 0 0 .nilFunc) w /\ EC 58 8 (entV 8 ⟨#[]⟩ 0 0 2 false 0 0 0 .nilFunc) w /\ EC 58 9 (entV 9 ⟨#[110, 111, 112]⟩ 0 0 1 false 0 0 0 (.func (.func 98) #[] #[])) w /\ EC 58 10 (entV 10 ⟨#[121, 105, 101, 108, 100]⟩ 0 0 1 false 0 0 0 .nilFunc) w /\ EC 58 11 (entV 11 ⟨#[104, 97, 108, 116]⟩ 0 0 1 false 0 0 0 .nilFunc) w /\ EC 58 12 (entV 12 ⟨#[100, 117, 112]⟩ 1 2 1 false 0 0 0 (.func (.func 99) #[] #[])) w /\ EC 58 13 (entV 13 ⟨#[100, 114, 111, 112]⟩ 1 0 1 false 0 0 0 (.func (.func 101) #[] #[])) w /\ EC 58 14 (entV 14 ⟨#[115, 119, 97, 112]⟩ 2 2 1 false 0 0 0 (.func (.func 102) #[] #[])) w /\ EC 58 15 (entV 15 ⟨#[111, 118, 101, 114]⟩ 2 3 1 false 0 0 0 (.func (.func 103) #[] #[])) w /\ EC 58 16 (entV 16 ⟨#[114, 111, 116]⟩ 3 3 1 false 0 0 0 (.func (.func 104) #[] #[])) w := by
 refine ⟨?_, ?_, ?_, ?_, ?_, ?_, ?_, ?_, ?_, ?_, ?_, ?_, ?_, ?_, ?_, ?_⟩
 all_goals (unfold EC; obtain ⟨wA, hA, hb, hz⟩ := mk w; go_enter Tryz.func58, Tryz.ntmps58; go_wp2_with fail)
 refine Calls.mono (ofA73 _).1 ?_; rotate_left
 refine Calls.mono (ofA73 _).2.1 ?_; rotate_left
 refine Calls.mono (ofA73 _).2.2.1 ?_; rotate_left
 refine Calls.mono (ofA73 _).2.2.2.1 ?_; rotate_left
 refine Calls.mono (ofA73 _).2.2.2.2.1 ?_; rotate_left
 refine Calls.mono (ofA73 _).2.2.2.2.2.1 ?_; rotate_left
 refine Calls.mono (ofA73 _).2.2.2.2.2.2.1 ?_; rotate_left
 refine Calls.mono (ofA73 _).2.2.2.2.2.2.2.1 ?_; rotate_left
 refine Calls.mono (ofA73 _).2.2.2.2.2.2.2.2.1 ?_; rotate_left
 refine Calls.mono (ofA73 _).2.2.2.2.2.2.2.2.2.1 ?_; rotate_left
 refine Calls.mono (ofA73 _).2.2.2.2.2.2.2.2.2.2 ?_; rotate_left
 refine Calls.mono (ofA74 _).1 ?_; rotate_left
 refine Calls.mono (ofA74 _).2.1 ?_; rotate_left
 refine Calls.mono (ofA74 _).2.2.1 ?_; rotate_left
 refine Calls.mono (ofA74 _).2.2.2.1 ?_; rotate_left
 refine Calls.mono (ofA74 _).2.2.2.2 ?_; rotate_left
 all_goals (rintro e w1 ⟨rfl, h1⟩; have hm := Made.of hb hz h1; first | unfold rowV | unfold entV)
 all_goals (go_wp2_with (refine wpList_store_row rfl 160 _ _ rfl w.heap.size _ rfl rfl 160 zE hm.blk (by exact sizeE) (by rfl) (by simp [Value.oneCell']) ?_))
 all_goals exact hm.done rfl rfl rfl
set_option maxHeartbeats 40000000
set_option maxRecDepth 100000
theorem ofC75 (w : World) : EC 75 33 (entV 33 ⟨#[49, 45]⟩ 1 1 1 false 0 0 0 (.func (.func 139) #[] #[])) w /\ EC 75 34 (entV 34 ⟨#[50, 42]⟩ 1 1 1 false 0 0 0 (.func (.func 139) #[] #[])) w /\ EC 75 35 (entV 35 ⟨#[50, 47]⟩ 1 1 1 false 0 0 0 (.func (.func 139) #[] #[])) w := by
 refine ⟨?_, ?_, ?_⟩
 all_goals (unfold EC; obtain ⟨wA, hA, hb, hz⟩ := mk w; go_enter Tryz.func75, Tryz.ntmps75; go_wp2_with fail)
 refine (unary_any _ _ _).mono ?_; rotate_left
 refine (unary_any _ _ _).mono ?_; rotate_left
 refine (unary_any _ _ _).mono ?_; rotate_left
 all_goals (rintro e w1 ⟨rfl, h1⟩; have hm := Made.of hb hz h1; first | unfold rowV | unfold entV)
 all_goals (go_wp2_with (refine wpList_store_row rfl 160 _ _ rfl w.heap.size _ rfl rfl 160 zE hm.blk (by exact sizeE) (by rfl) (by simp [Value.oneCell']) ?_))
 all_goals exact hm.done rfl rfl rfl
theorem ofC76 (w : World) : EC 76 36 (entV 36 ⟨#[97, 110, 100]⟩ 2 1 1 false 0 0 0 (.func (.func 137) #[] #[])) w /\ EC 76 37 (entV 37 ⟨#[111, 114]⟩ 2 1 1 false 0 0 0 (.func (.func 137) #[] #[])) w /\ EC 76 38 (entV 38 ⟨#[120, 111, 114]⟩ 2 1 1 false 0 0 0 (.func (.func 137) #[] #[])) w /\ EC 76 39 (entV 39 ⟨#[105, 110, 118, 101, 114, 116]⟩ 1 1 1 false 0 0 0 (.func (.func 139) #[] #[])) w /\ EC 76 40 (entV 40 ⟨#[108, 115, 104, 105, 102, 116]⟩ 2 1 1 false 0 0 0 (.func (.func 137) #[] #[])) w /\ EC 76 41 (entV 41 ⟨#[114, 115, 104, 105, 102, 116]⟩ 2 1 1 false 0 0 0 (.func (.func 137) #[] #[])) w /\ EC 76 42 (entV 42 ⟨#[61]⟩ 2 1 1 false 0 0 0 (.func (.func 137) #[] #[])) w /\ EC 76 43 (entV 43 ⟨#[60, 62]⟩ 2 1 1 false 0 0 0 (.func (.func 137) #[] #[])) w /\ EC 76 44 (entV 44 ⟨#[60]⟩ 2 1 1 false 0 0 0 (.func (.func 137) #[] #[])) w /\ EC 76 45 (entV 45 ⟨#[62]⟩ 2 1 1 false 0 0 0 (.func (.func 137) #[] #[])) w /\ EC 76 46 (entV 46 ⟨#[117, 60]⟩ 2 1 1 false 0 0 0 (.func (.func 137) #[] #[])) w /\ EC 76 47 (entV 47 ⟨#[117, 62]⟩ 2 1 1 false 0 0 0 (.func (.func 137) #[] #[])) w /\ EC 76 48 (entV 48 ⟨#[48, 61]⟩ 1 1 1 false 0 0 0 (.func (.func 139) #[] #[])) w := by
 refine ⟨?_, ?_, ?_, ?_, ?_, ?_, ?_, ?_, ?_, ?_, ?_, ?_, ?_⟩
 all_goals (unfold EC; obtain ⟨wA, hA, hb, hz⟩ := mk w; go_enter Tryz.func76, Tryz.ntmps76; go_wp2_with fail)
 refine (binary_any _ _ _ _).mono ?_; rotate_left
 refine (binary_any _ _ _ _).mono ?_; rotate_left
 refine (binary_any _ _ _ _).mono ?_; rotate_left
 refine (unary_any _ _ _).mono ?_; rotate_left
 refine (binary_any _ _ _ _).mono ?_; rotate_left
 refine (binary_any _ _ _ _).mono ?_; rotate_left
 refine (binary_any _ _ _ _).mono ?_; rotate_left
 refine (binary_any _ _ _ _).mono ?_; rotate_left
 refine (binary_any _ _ _ _).mono ?_; rotate_left
 refine (binary_any _ _ _ _).mono ?_; rotate_left
 refine (binary_any _ _ _ _).mono ?_; rotate_left
 refine (binary_any _ _ _ _).mono ?_; rotate_left
 refine (unary_any _ _ _).mono ?_; rotate_left
 all_goals (rintro e w1 ⟨rfl, h1⟩; have hm := Made.of hb hz h1; first | unfold rowV | unfold entV)
 all_goals (go_wp2_with (refine wpList_store_row rfl 160 _ _ rfl w.heap.size _ rfl rfl 160 zE hm.blk (by exact sizeE) (by rfl) (by simp [Value.oneCell']) ?_))
 all_goals exact hm.done rfl rfl rfl
theorem entC (w : World) : EC 58 33 (entV 33 ⟨#[49, 45]⟩ 1 1 1 false 0 0 0 (.func (.func 139) #[] #[])) w /\ EC 58 34 (entV 34 ⟨#[50, 42]⟩ 1 1 1 false 0 0 0 (.func (.func 139) #[] #[])) w /\ EC 58 35 (entV 35 ⟨#[50, 47]⟩ 1 1 1 false 0 0 0 (.func (.func 139) #[] #[])) w /\ EC 58 36 (entV 36 ⟨#[97, 110, 100]⟩ 2 1 1 false 0 0 0 (.func (.func 137) #[] #[])) w /\ EC 58 37 (entV 37 ⟨#[111, 114]⟩ 2 1 1 false 0 0 0 (.func (.func 137) #[] #[])) w /\ EC 58 38 (entV 38 ⟨#[120, 111, 114]⟩ 2 1 1 false 0 0 0 (.func (.func 137) #[] #[])) w /\ EC 58 39 (entV 39 ⟨#[105, 110, 118, 101, 114, 116]⟩ 1 1 1 false 0 0 0 (.func (.func 139) #[] #[])) w /\ EC 58 40 (entV 40 ⟨#[108, 115, 104, 105, 102, 116]⟩ 2 1 1 false 0 0 0 (.func (.func 137) #[] #[])) w /\ EC 58 41 (entV 41 ⟨#[114, 115, 104, 105, 102, 116]⟩ 2 1 1 false 0 0 0 (.func (.func 137) #[] #[])) w /\ EC 58 42 (entV 42 ⟨#[61]⟩ 2 1 1 false 0 0 0 (.func (.func 137) #[] #[])) w /\ EC 58 43 (entV 43 ⟨#[60, 62]⟩ 2 1 1 false 0 0 0 (.func (.func 137) #[] #[])) w /\ EC 58 44 (entV 44 ⟨#[60]⟩ 2 1 1 false 0 0 0 (.func (.func 137) #[] #[])) w /\ EC 58 45 (entV 45 ⟨#[62]⟩ 2 1 1 false 0 0 0 (.func (.func 137) #[] #[])) w /\ EC 58 46 (entV 46 ⟨#[117, 60]⟩ 2 1 1 false 0 0 0 (.func (.func 137) #[] #[])) w /\ EC 58 47 (entV 47 ⟨#[117, 62]⟩ 2 1 1 false 0 0 0 (.func (.func 137) #[] #[])) w /\ EC 58 48 (entV 48 ⟨#[48, 61]⟩ 1 1 1 false 0 0 0 (.func (.func 139) #[] #[])) w := by
 refine ⟨?_, ?_, ?_, ?_, ?_, ?_, ?_, ?_, ?_, ?_, ?_, ?_, ?_, ?_, ?_, ?_⟩
 all_goals (unfold EC; obtain ⟨wA, hA, hb, hz⟩ := mk w; go_enter Tryz.func58, Tryz.ntmps58; go_wp2_with fail)
 refine Calls.mono (ofC75 _).1 ?_; rotate_left
 refine Calls.mono (ofC75 _).2.1 ?_; rotate_left
 refine Calls.mono (ofC75 _).2.2 ?_; rotate_left
 refine Calls.mono (ofC76 _).1 ?_; rotate_left
 refine Calls.mono (ofC76 _).2.1 ?_; rotate_left
 refine Calls.mono (ofC76 _).2.2.1 ?_; rotate_left
 refine Calls.mono (ofC76 _).2.2.2.1 ?_; rotate_left
 refine Calls.mono (ofC76 _).2.2.2.2.1 ?_; rotate_left
 refine Calls.mono (ofC76 _).2.2.2.2.2.1 ?_; rotate_left
 refine Calls.mono (ofC76 _).2.2.2.2.2.2.1 ?_; rotate_left
 refine Calls.mono (ofC76 _).2.2.2.2.2.2.2.1 ?_; rotate_left
 refine Calls.mono (ofC76 _).2.2.2.2.2.2.2.2.1 ?_; rotate_left
 refine Calls.mono (ofC76 _).2.2.2.2.2.2.2.2.2.1 ?_; rotate_left
 refine Calls.mono (ofC76 _).2.2.2.2.2.2.2.2.2.2.1 ?_; rotate_left
 refine Calls.mono (ofC76 _).2.2.2.2.2.2.2.2.2.2.2.1 ?_; rotate_left
 refine Calls.mono (ofC76 _).2.2.2.2.2.2.2.2.2.2.2.2 ?_; rotate_left
 all_goals (rintro e w1 ⟨rfl, h1⟩; have hm := Made.of hb hz h1; first | unfold rowV | unfold entV)
 all_goals (go_wp2_with (refine wpList_store_row rfl 160 _ _ rfl w.heap.size _ rfl rfl 160 zE hm.blk (by exact sizeE) (by rfl) (by simp [Value.oneCell']) ?_))
 all_goals exact hm.done rfl rfl rfl
set_option maxHeartbeats 40000000
set_option maxRecDepth 100000
theorem ofB74 (w : World) : EC 74 17 (entV 17 ⟨#[110, 105, 112]⟩ 2 1 1 false 0 0 0 (.func (.func 105) #[] #[])) w /\ EC 74 18 (entV 18 ⟨#[116, 117, 99, 107]⟩ 2 3 1 false 0 0 0 (.func (.func 106) #[] #[])) w /\ EC 74 19 (entV 19 ⟨#[50, 100, 117, 112]⟩ 2 4 2 false 0 0 0 (.func (.func 107) #[] #[])) w /\ EC 74 20 (entV 20 ⟨#[50, 100, 114, 111, 112]⟩ 2 0 1 false 0 0 0 (.func (.func 108) #[] #[])) w := by
 refine ⟨?_, ?_, ?_, ?_⟩
 all_goals (unfold EC; obtain ⟨wA, hA, hb, hz⟩ := mk w; go_enter Tryz.func74, Tryz.ntmps74; go_wp2_with fail)
 refine (row_any _ _ _ _ _ _).mono ?_; rotate_left
 refine (row_any _ _ _ _ _ _).mono ?_; rotate_left
 refine (row_any _ _ _ _ _ _).mono ?_; rotate_left
 refine (row_any _ _ _ _ _ _).mono ?_; rotate_left
 all_goals (rintro e w1 ⟨rfl, h1⟩; have hm := Made.of hb hz h1; first | unfold rowV | unfold entV)
 all_goals (go_wp2_with (refine wpList_store_row rfl 160 _ _ rfl w.heap.size _ rfl rfl 160 zE hm.blk (by exact sizeE) (by rfl) (by simp [Value.oneCell']) ?_))
 all_goals exact hm.done rfl rfl rfl
theorem ofB75 (w : World) : EC 75 21 (entV 21 ⟨#[43]⟩ 2 1 1 false 0 0 0 (.func (.func 137) #[] #[])) w /\ EC 75 22 (entV 22 ⟨#[45]⟩ 2 1 1 false 0 0 0 (.func (.func 137) #[] #[])) w /\ EC 75 23 (entV 23 ⟨#[42]⟩ 2 1 3 false 0 0 0 (.func (.func 137) #[] #[])) w /\ EC 75 24 (entV 24 ⟨#[47]⟩ 2 1 4 false 0 0 0 (.func (.func 137) #[] #[])) w /\ EC 75 25 (entV 25 ⟨#[109, 111, 100]⟩ 2 1 4 false 0 0 0 (.func (.func 137) #[] #[])) w /\ EC 75 26 (entV 26 ⟨#[117, 47]⟩ 2 1 4 false 0 0 0 (.func (.func 137) #[] #[])) w /\ EC 75 27 (entV 27 ⟨#[117, 109, 111, 100]⟩ 2 1 4 false 0 0 0 (.func (.func 137) #[] #[])) w /\ EC 75 28 (entV 28 ⟨#[110, 101, 103, 97, 116, 101]⟩ 1 1 1 false 0 0 0 (.func (.func 139) #[] #[])) w /\ EC 75 29 (entV 29 ⟨#[97, 98, 115]⟩ 1 1 1 false 0 0 0 (.func (.func 139) #[] #[])) w /\ EC 75 30 (entV 30 ⟨#[109, 105, 110]⟩ 2 1 1 false 0 0 0 (.func (.func 137) #[] #[])) w /\ EC 75 31 (entV 31 ⟨#[109, 97, 120]⟩ 2 1 1 false 0 0 0 (.func (.func 137) #[] #[])) w /\ EC 75 32 (entV 32 ⟨#[49, 43]⟩ 1 1 1 false 0 0 0 (.func (.func 139) #[] #[])) w := by
 refine ⟨?_, ?_, ?_, ?_, ?_, ?_, ?_, ?_, ?_, ?_, ?_, ?_⟩
 all_goals (unfold EC; obtain ⟨wA, hA, hb, hz⟩ := mk w; go_enter Tryz.func75, Tryz.ntmps75; go_wp2_with fail)
 refine (binary_any _ _ _ _).mono ?_; rotate_left
 refine (binary_any _ _ _ _).mono ?_; rotate_left
 refine (binary_any _ _ _ _).mono ?_; rotate_left
 refine (binary_any _ _ _ _).mono ?_; rotate_left
 refine (binary_any _ _ _ _).mono ?_; rotate_left
 refine (binary_any _ _ _ _).mono ?_; rotate_left
 refine (binary_any _ _ _ _).mono ?_; rotate_left
 refine (unary_any _ _ _).mono ?_; rotate_left
 refine (unary_any _ _ _).mono ?_; rotate_left
 refine (binary_any _ _ _ _).mono ?_; rotate_left
 refine (binary_any _ _ _ _).mono ?_; rotate_left
 refine (unary_any _ _ _).mono ?_; rotate_left
 all_goals (rintro e w1 ⟨rfl, h1⟩; have hm := Made.of hb hz h1; first | unfold rowV | unfold entV)
 all_goals (go_wp2_with (refine wpList_store_row rfl 160 _ _ rfl w.heap.size _ rfl rfl 160 zE hm.blk (by exact sizeE) (by rfl) (by simp [Value.oneCell']) ?_))
 all_goals exact hm.done rfl rfl rfl
theorem entB (w : World) : EC 58 17 (entV 17 ⟨#[110, 105, 112]⟩ 2 1 1 false 0 0 0 (.func (.func 105) #[] #[])) w /\ EC 58 18 (entV 18 ⟨#[116, 117, 99, 107]⟩ 2 3 1 false 0 0 0 (.func (.func 106) #[] #[])) w /\ EC 58 19 (entV 19 ⟨#[50, 100, 117, 112]⟩ 2 4 2 false 0 0 0 (.func (.func 107) #[] #[])) w /\ EC 58 20 (entV 20 ⟨#[50, 100, 114, 111, 112]⟩ 2 0 1 false 0 0 0 (.func (.func 108) #[] #[])) w /\ EC 58 21 (entV 21 ⟨#[43]⟩ 2 1 1 false 0 0 0 (.func (.func 137) #[] #[])) w /\ EC 58 22 (entV 22 ⟨#[45]⟩ 2 1 1 false 0 0 0 (.func (.func 137) #[] #[])) w /\ EC 58 23 (entV 23 ⟨#[42]⟩ 2 1 3 false 0 0 0 (.func (.func 137) #[] #[])) w /\ EC 58 24 (entV 24 ⟨#[47]⟩ 2 1 4 false 0 0 0 (.func (.func 137) #[] #[])) w /\ EC 58 25 (entV 25 ⟨#[109, 111, 100]⟩ 2 1 4 false 0 0 0 (.func (.func 137) #[] #[])) w /\ EC 58 26 (entV 26 ⟨#[117, 47]⟩ 2 1 4 false 0 0 0 (.func (.func 137) #[] #[])) w /\ EC 58 27 (entV 27 ⟨#[117, 109, 111, 100]⟩ 2 1 4 false 0 0 0 (.func (.func 137) #[] #[])) w /\ EC 58 28 (entV 28 ⟨#[110, 101, 103, 97, 116, 101]⟩ 1 1 1 false 0 0 0 (.func (.func 139) #[] #[])) w /\ EC 58 29 (entV 29 ⟨#[97, 98, 115]⟩ 1 1 1 false 0 0 0 (.func (.func 139) #[] #[])) w /\ EC 58 30 (entV 30 ⟨#[109, 105, 110]⟩ 2 1 1 false 0 0 0 (.func (.func 137) #[] #[])) w /\ EC 58 31 (entV 31 ⟨#[109, 97, 120]⟩ 2 1 1 false 0 0 0 (.func (.func 137) #[] #[])) w /\ EC 58 32 (entV 32 ⟨#[49, 43]⟩ 1 1 1 false 0 0 0 (.func (.func 139) #[] #[])) w := by
 refine ⟨?_, ?_, ?_, ?_, ?_, ?_, ?_, ?_, ?_, ?_, ?_, ?_, ?_, ?_, ?_, ?_⟩
 all_goals (unfold EC; obtain ⟨wA, hA, hb, hz⟩ := mk w; go_enter Tryz.func58, Tryz.ntmps58; go_wp2_with fail)
 refine Calls.mono (ofB74 _).1 ?_; rotate_left
 refine Calls.mono (ofB74 _).2.1 ?_; rotate_left
 refine Calls.mono (ofB74 _).2.2.1 ?_; rotate_left
 refine Calls.mono (ofB74 _).2.2.2 ?_; rotate_left
 refine Calls.mono (ofB75 _).1 ?_; rotate_left
 refine Calls.mono (ofB75 _).2.1 ?_; rotate_left
 refine Calls.mono (ofB75 _).2.2.1 ?_; rotate_left
 refine Calls.mono (ofB75 _).2.2.2.1 ?_; rotate_left
 refine Calls.mono (ofB75 _).2.2.2.2.1 ?_; rotate_left
 refine Calls.mono (ofB75 _).2.2.2.2.2.1 ?_; rotate_left
 refine Calls.mono (ofB75 _).2.2.2.2.2.2.1 ?_; rotate_left
 refine Calls.mono (ofB75 _).2.2.2.2.2.2.2.1 ?_; rotate_left
 refine Calls.mono (ofB75 _).2.2.2.2.2.2.2.2.1 ?_; rotate_left
 refine Calls.mono (ofB75 _).2.2.2.2.2.2.2.2.2.1 ?_; rotate_left
 refine Calls.mono (ofB75 _).2.2.2.2.2.2.2.2.2.2.1 ?_; rotate_left
 refine Calls.mono (ofB75 _).2.2.2.2.2.2.2.2.2.2.2 ?_; rotate_left
 all_goals (rintro e w1 ⟨rfl, h1⟩; have hm := Made.of hb hz h1; first | unfold rowV | unfold entV)
 all_goals (go_wp2_with (refine wpList_store_row rfl 160 _ _ rfl w.heap.size _ rfl rfl 160 zE hm.blk (by exact sizeE) (by rfl) (by simp [Value.oneCell']) ?_))
 all_goals exact hm.done rfl rfl rfl
set_option maxHeartbeats 40000000
set_option maxRecDepth 100000
theorem ofD76 (w : World) : EC 76 49 (entV 49 ⟨#[48, 60]⟩ 1 1 1 false 0 0 0 (.func (.func 139) #[] #[])) w := by
 all_goals (unfold EC; obtain ⟨wA, hA, hb, hz⟩ := mk w; go_enter Tryz.func76, Tryz.ntmps76; go_wp2_with fail)
 refine (unary_any _ _ _).mono ?_; rotate_left
 all_goals (rintro e w1 ⟨rfl, h1⟩; have hm := Made.of hb hz h1; first | unfold rowV | unfold entV)
 all_goals (go_wp2_with (refine wpList_store_row rfl 160 _ _ rfl w.heap.size _ rfl rfl 160 zE hm.blk (by exact sizeE) (by rfl) (by simp [Value.oneCell']) ?_))
 all_goals exact hm.done rfl rfl rfl
theorem ofD77 (w : World) : EC 77 50 (entV 50 ⟨#[64]⟩ 1 1 2 false 0 0 0 (.func (.func 111) #[] #[])) w /\ EC 77 51 (entV 51 ⟨#[33]⟩ 2 0 2 false 0 0 0 (.func (.func 113) #[] #[])) w /\ EC 77 52 (entV 52 ⟨#[99, 64]⟩ 1 1 2 false 0 0 0 (.func (.func 115) #[] #[])) w /\ EC 77 53 (entV 53 ⟨#[99, 33]⟩ 2 0 2 false 0 0 0 (.func (.func 117) #[] #[])) w /\ EC 77 54 (entV 54 ⟨#[43, 33]⟩ 2 0 3 false 0 0 0 (.func (.func 119) #[] #[])) w := by
 refine ⟨?_, ?_, ?_, ?_, ?_⟩
 all_goals (unfold EC; obtain ⟨wA, hA, hb, hz⟩ := mk w; go_enter Tryz.func77, Tryz.ntmps77; go_wp2_with fail)
 refine (row_any _ _ _ _ _ _).mono ?_; rotate_left
 refine (row_any _ _ _ _ _ _).mono ?_; rotate_left
 refine (row_any _ _ _ _ _ _).mono ?_; rotate_left
 refine (row_any _ _ _ _ _ _).mono ?_; rotate_left
 refine (row_any _ _ _ _ _ _).mono ?_; rotate_left
 all_goals (rintro e w1 ⟨rfl, h1⟩; have hm := Made.of hb hz h1; first | unfold rowV | unfold entV)
 all_goals (go_wp2_with (refine wpList_store_row rfl 160 _ _ rfl w.heap.size _ rfl rfl 160 zE hm.blk (by exact sizeE) (by rfl) (by simp [Value.oneCell']) ?_))
 all_goals exact hm.done rfl rfl rfl
theorem ofD78 (w : World) : EC 78 55 (entV 55 ⟨#[62, 114]⟩ 1 0 1 false 0 0 1 (.func (.func 120) #[] #[])) w /\ EC 78 56 (entV 56 ⟨#[114, 62]⟩ 0 1 1 false 4 0 0 (.func (.func 121) #[] #[])) w /\ EC 78 57 (entV 57 ⟨#[114, 64]⟩ 0 1 1 false 4 0 0 (.func (.func 144) #[] #[])) w /\ EC 78 58 (entV 58 ⟨#[105]⟩ 0 1 1 false 3 0 0 (.func (.func 144) #[] #[])) w /\ EC 78 59 (entV 59 ⟨#[106]⟩ 0 1 1 false 3 2 0 (.func (.func 144) #[] #[])) w := by
 refine ⟨?_, ?_, ?_, ?_, ?_⟩
 all_goals (unfold EC; obtain ⟨wA, hA, hb, hz⟩ := mk w; go_enter Tryz.func78, Tryz.ntmps78; go_wp2_with fail)
 refine (row_any _ _ _ _ _ _).mono ?_; rotate_left
 refine (row_any _ _ _ _ _ _).mono ?_; rotate_left
 refine (peek_any _ _ _ _ _).mono ?_; rotate_left
 refine (peek_any _ _ _ _ _).mono ?_; rotate_left
 refine (peek_any _ _ _ _ _).mono ?_; rotate_left
 all_goals (rintro e w1 ⟨rfl, h1⟩; have hm := Made.of hb hz h1; first | unfold rowV | unfold entV)
 all_goals (go_wp2_with (refine wpList_store_row rfl 160 _ _ rfl w.heap.size _ rfl rfl 160 zE hm.blk (by exact sizeE) (by rfl) (by simp [Value.oneCell']) ?_))
 all_goals exact hm.done rfl rfl rfl
theorem ofD79 (w : World) : EC 79 60 (entV 60 ⟨#[112, 108, 111, 116]⟩ 3 0 3 false 0 0 0 (.func (.func 123) #[] #[])) w /\ EC 79 61 (entV 61 ⟨#[112, 97, 100]⟩ 0 1 1 false 0 0 0 (.func (.func 125) #[] #[])) w /\ EC 79 62 (entV 62 ⟨#[116, 111, 110, 101]⟩ 2 0 2 false 0 0 0 (.func (.func 127) #[] #[])) w /\ EC 79 63 (entV 63 ⟨#[98, 97, 110, 107]⟩ 1 0 1 false 0 0 0 (.func (.func 129) #[] #[])) w := by
 refine ⟨?_, ?_, ?_, ?_⟩
 all_goals (unfold EC; obtain ⟨wA, hA, hb, hz⟩ := mk w; go_enter Tryz.func79, Tryz.ntmps79; go_wp2_with fail)
 refine (row_any _ _ _ _ _ _).mono ?_; rotate_left
 refine (row_any _ _ _ _ _ _).mono ?_; rotate_left
 refine (row_any _ _ _ _ _ _).mono ?_; rotate_left
 refine (row_any _ _ _ _ _ _).mono ?_; rotate_left
 all_goals (rintro e w1 ⟨rfl, h1⟩; have hm := Made.of hb hz h1; first | unfold rowV | unfold entV)
 all_goals (go_wp2_with (refine wpList_store_row rfl 160 _ _ rfl w.heap.size _ rfl rfl 160 zE hm.blk (by exact sizeE) (by rfl) (by simp [Value.oneCell']) ?_))
 all_goals exact hm.done rfl rfl rfl
theorem entD (w : World) : EC 58 49 (entV 49 ⟨#[48, 60]⟩ 1 1 1 false 0 0 0 (.func (.func 139) #[] #[])) w /\ EC 58 50 (entV 50 ⟨#[64]⟩ 1 1 2 false 0 0 0 (.func (.func 111) #[] #[])) w /\ EC 58 51 (entV 51 ⟨#[33]⟩ 2 0 2 false 0 0 0 (.func (.func 113) #[] #[])) w /\ EC 58 52 (entV 52 ⟨#[99, 64]⟩ 1 1 2 false 0 0 0 (.func (.func 115) #[] #[])) w /\ EC 58 53 (entV 53 ⟨#[99, 33]⟩ 2 0 2 false 0 0 0 (.func (.func 117) #[] #[])) w /\ EC 58 54 (entV 54 ⟨#[43, 33]⟩ 2 0 3 false 0 0 0 (.func (.func 119) #[] #[])) w /\ EC 58 55 (entV 55 ⟨#[62, 114]⟩ 1 0 1 false 0 0 1 (.func (.func 120) #[] #[])) w /\ EC 58 56 (entV 56 ⟨#[114, 62]⟩ 0 1 1 false 4 0 0 (.func (.func 121) #[] #[])) w /\ EC 58 57 (entV 57 ⟨#[114, 64]⟩ 0 1 1 false 4 0 0 (.func (.func 144) #[] #[])) w /\ EC 58 58 (entV 58 ⟨#[105]⟩ 0 1 1 false 3 0 0 (.func (.func 144) #[] #[])) w /\ EC 58 59 (entV 59 ⟨#[106]⟩ 0 1 1 false 3 2 0 (.func (.func 144) #[] #[])) w /\ EC 58 60 (entV 60 ⟨#[112, 108, 111, 116]⟩ 3 0 3 false 0 0 0 (.func (.func 123) #[] #[])) w /\ EC 58 61 (entV 61 ⟨#[112, 97, 100]⟩ 0 1 1 false 0 0 0 (.func (.func 125) #[] #[])) w /\ EC 58 62 (entV 62 ⟨#[116, 111, 110, 101]⟩ 2 0 2 false 0 0 0 (.func (.func 127) #[] #[])) w /\ EC 58 63 (entV 63 ⟨#[98, 97, 110, 107]⟩ 1 0 1 false 0 0 0 (.func (.func 129) #[] #[])) w := by
 refine ⟨?_, ?_, ?_, ?_, ?_, ?_, ?_, ?_, ?_, ?_, ?_, ?_, ?_, ?_, ?_⟩
 all_goals (unfold EC; obtain ⟨wA, hA, hb, hz⟩ := mk w; go_enter Tryz.func58, Tryz.ntmps58; go_wp2_with fail)
 refine Calls.mono (ofD76 _) ?_; rotate_left
 refine Calls.mono (ofD77 _).1 ?_; rotate_left
 refine Calls.mono (ofD77 _).2.1 ?_; rotate_left
 refine Calls.mono (ofD77 _).2.2.1 ?_; rotate_left
 refine Calls.mono (ofD77 _).2.2.2.1 ?_; rotate_left
 refine Calls.mono (ofD77 _).2.2.2.2 ?_; rotate_left
 refine Calls.mono (ofD78 _).1 ?_; rotate_left
 refine Calls.mono (ofD78 _).2.1 ?_; rotate_left
 refine Calls.mono (ofD78 _).2.2.1 ?_; rotate_left
 refine Calls.mono (ofD78 _).2.2.2.1 ?_; rotate_left
 refine Calls.mono (ofD78 _).2.2.2.2 ?_; rotate_left
 refine Calls.mono (ofD79 _).1 ?_; rotate_left
 refine Calls.mono (ofD79 _).2.1 ?_; rotate_left
 refine Calls.mono (ofD79 _).2.2.1 ?_; rotate_left
 refine Calls.mono (ofD79 _).2.2.2 ?_; rotate_left
 all_goals (rintro e w1 ⟨rfl, h1⟩; have hm := Made.of hb hz h1; first | unfold rowV | unfold entV)
 all_goals (go_wp2_with (refine wpList_store_row rfl 160 _ _ rfl w.heap.size _ rfl rfl 160 zE hm.blk (by exact sizeE) (by rfl) (by simp [Value.oneCell']) ?_))
 all_goals exact hm.done rfl rfl rfl
end Go.Proofs.YtoemoiehjdmheaaGreat.P
