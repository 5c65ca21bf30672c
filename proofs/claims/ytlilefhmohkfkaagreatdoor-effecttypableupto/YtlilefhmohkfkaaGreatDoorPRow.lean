import Derived.Test.YtlilefhmohkfkaaGreatDoorProg
import Derived.WalkKit
import Derived.KernelRfl
import Derived.ProofKit
import Derived.BigQuiet
import Derived.Laws.Rows
import Derived.Laws.Tables
namespace Go.Proofs.YtlilefhmohkfkaaGreatDoor.P
open Go.RowKit
open Go.Proofs
set_option linter.unusedVariables false
set_option linter.unusedSimpArgs false
set_option maxHeartbeats 1000000
set_option maxRecDepth 100000
def rowV (op : Int) (name : ByteArray) (i o c : Int) (b : Bool) : Value := .agg #[.int .i64 op, .string name, .int .i64 i, .int .i64 o, .int .i64 c, .bool b]
theorem row_any (op : Int) (name : ByteArray) (i o c : Int) (w : World) : Calls Tryz.prog 129 #[.int .i64 op, .string name, .int .i64 i, .int .i64 o, .int .i64 c] w fun e w' => e = .returned (rowV op name i o c false) /\ Below w.heap.size w w' := by
 go_enter Tryz.func129, Tryz.ntmps129
 go_wp2
 refine bodyPost_ret (v := rowV op name i o c false) (by simp [results, Tryz.results129, go_sem, rowV]) rfl ⟨rfl, ?_⟩
 exact (Below.refl _ w).alloc (Nat.le_refl _) _
def zE : Array Value := #[.int .i64 0, .string { data := #[] }, .int .i64 0, .int .i64 0, .int .i64 0, .bool false, .int .i64 0, .int .i64 0, .int .i64 0, .nilFunc]
theorem sizeE : (Tryz.prog.info? 170).map (·.size) = some 10 := by kernel_rfl
theorem sizeR : (Tryz.prog.info? 119).map (·.size) = some 6 := by kernel_rfl
theorem Below.setRow {B : Nat} {a w : World} (h : Below B a w) (g : Nat) (hg : B <= g) (c : Array Value) : Below B a (w.setRow g c) :=
 ⟨h.os, h.tape, h.output, by rw [setRow_size]; exact h.size, fun k hk => (setRow_other w g k c (by omega)).trans (h.block k hk)⟩
theorem mk (w : World) : ∃ wA, w.alloc (.cells #[.int .i64 0, .string { data := #[] }, .int .i64 0, .int .i64 0, .int .i64 0, .bool false, .int .i64 0, .int .i64 0, .int .i64 0, .nilFunc] 170) = wA /\ Below w.heap.size w wA /\ wA.heap[w.heap.size]? = some (.cells zE 170 (0, 0)) :=
 ⟨_, rfl, (Below.refl _ w).alloc (Nat.le_refl _) _, heap_alloc_new w _⟩
structure Made (w wA w1 : World) : Prop where
 bel : Below w.heap.size w w1
 blk : w1.heap[w.heap.size]? = some (.cells zE 170 (0, 0))
theorem Made.of {w wA w1 : World} (hb : Below w.heap.size w wA) (hz : wA.heap[w.heap.size]? = some (.cells zE 170 (0, 0))) (h : Below wA.heap.size wA w1) : Made w wA w1 :=
 ⟨hb.trans ⟨h.os, h.tape, h.output, h.size, fun k hk => h.block k (Nat.lt_of_lt_of_le hk hb.size)⟩, (h.block _ (Array.getElem?_eq_some_iff.1 hz).1).trans hz⟩
theorem Made.fin {w wA w1 : World} (h : Made w wA w1) (c : Array Value) : (w1.setRow w.heap.size c).heap[w.heap.size]? = some (.cells c 170 (0, 0)) /\ Below w.heap.size w (w1.setRow w.heap.size c) :=
 ⟨setRow_heap w1 _ _ _ _ _ h.blk, Below.setRow h.bel _ (Nat.le_refl _) _⟩
def entV (op : Int) (name : ByteArray) (i o c : Int) (b : Bool) (k bl s : Int) (f : Value) : Value := .agg #[.int .i64 op, .string name, .int .i64 i, .int .i64 o, .int .i64 c, .bool b, .int .i64 k, .int .i64 bl, .int .i64 s, f]
theorem Made.done {w wA w1 : World} (h : Made w wA w1) {fn : Func} {p : Tmp} {a : Act} {op i o c k bl s : Int} {name : ByteArray} {b : Bool} {f : Value} (hr : fn.results = #[.cell p 170]) (hp : a.tmps.getD p undef = .pointer (some ⟨w.heap.size, 0, none⟩)) (hd : a.defers = []) :
  bodyPost Tryz.prog fn (fun e w' => e = .returned (entV op name i o c b k bl s f) /\ Below w.heap.size w w') .ret a (w1.setRow w.heap.size #[.int .i64 op, .string name, .int .i64 i, .int .i64 o, .int .i64 c, .bool b, .int .i64 k, .int .i64 bl, .int .i64 s, f]) :=
 bodyPost_ret (results_cell_row hr _ _ w.heap.size 170 _ (0, 0) _ hp (h.fin _).1 Tryz.underlying170 rfl sizeE) hd ⟨rfl, (h.fin _).2⟩
theorem binary_any (op : Int) (name : ByteArray) (c : Int) (w : World) : Calls Tryz.prog 144 #[.int .i64 op, .string name, .int .i64 c] w fun e w' => e = .returned (entV op name 2 1 c false 0 0 0 (.func (.func 169) #[] #[])) /\ Below w.heap.size w w' := by
 obtain ⟨wA, hA, hb, hz⟩ := mk w
 go_enter Tryz.func144, Tryz.ntmps144
 go_wp2_with fail
 refine (row_any _ _ _ _ _ _).mono ?_
 rintro e w1 ⟨rfl, h1⟩
 have hm := Made.of hb hz h1
 unfold rowV
 go_wp2_with (refine wpList_store_row rfl 170 _ _ rfl w.heap.size _ rfl rfl 170 zE hm.blk (by exact sizeE) (by rfl) (by simp [Value.oneCell']) ?_)
 exact hm.done rfl rfl rfl
theorem unary_any (op : Int) (name : ByteArray) (w : World) : Calls Tryz.prog 145 #[.int .i64 op, .string name] w fun e w' => e = .returned (entV op name 1 1 1 false 0 0 0 (.func (.func 171) #[] #[])) /\ Below w.heap.size w w' := by
 obtain ⟨wA, hA, hb, hz⟩ := mk w
 go_enter Tryz.func145, Tryz.ntmps145
 go_wp2_with fail
 refine (row_any _ _ _ _ _ _).mono ?_
 rintro e w1 ⟨rfl, h1⟩
 have hm := Made.of hb hz h1
 unfold rowV
 go_wp2_with (refine wpList_store_row rfl 170 _ _ rfl w.heap.size _ rfl rfl 170 zE hm.blk (by exact sizeE) (by rfl) (by simp [Value.oneCell']) ?_)
 exact hm.done rfl rfl rfl
theorem peek_any (op : Int) (name : ByteArray) (k bl : Int) (w : World) : Calls Tryz.prog 158 #[.int .i64 op, .string name, .int .i64 k, .int .i64 bl] w fun e w' => e = .returned (entV op name 0 1 1 false k bl 0 (.func (.func 178) #[] #[])) /\ Below w.heap.size w w' := by
 obtain ⟨wA, hA, hb, hz⟩ := mk w
 go_enter Tryz.func158, Tryz.ntmps158
 go_wp2_with fail
 refine (row_any _ _ _ _ _ _).mono ?_
 rintro e w1 ⟨rfl, h1⟩
 have hm := Made.of hb hz h1
 unfold rowV
 go_wp2_with (refine wpList_store_row rfl 170 _ _ rfl w.heap.size _ rfl rfl 170 zE hm.blk (by exact sizeE) (by rfl) (by simp [Value.oneCell']) ?_)
 exact hm.done rfl rfl rfl
theorem withOperand_any (op i o c : Int) (w : World) : Calls Tryz.prog 130 #[.int .i64 op, .int .i64 i, .int .i64 o, .int .i64 c] w fun e w' => e = .returned (entV op ⟨#[]⟩ i o c true 0 0 0 .nilFunc) /\ Below w.heap.size w w' := by
 obtain ⟨wA, hA, hb, hz⟩ := mk w
 go_enter Tryz.func130, Tryz.ntmps130
 go_wp2_with fail
 refine (row_any _ _ _ _ _ _).mono ?_
 rintro e w1 ⟨rfl, h1⟩
 obtain ⟨w2, hw2⟩ : ∃ w2, w1.alloc (.cells #[.int .i64 op, .string { data := #[] }, .int .i64 i, .int .i64 o, .int .i64 c, .bool true] 119) = w2 := ⟨_, rfl⟩
 have h2 : Below wA.heap.size wA w2 := by rw [<- hw2]; exact h1.alloc h1.size _
 have hr2 : w2.heap[w1.heap.size]? = some (.cells #[.int .i64 op, .string { data := #[] }, .int .i64 i, .int .i64 o, .int .i64 c, .bool true] 119 (0, 0)) := by rw [<- hw2]; exact heap_alloc_new w1 _
 have hm := Made.of hb hz h2
 unfold rowV
 go_wp2_with (first | (refine wpList_load_row rfl 119 _ rfl w1.heap.size rfl 119 _ (0, 0) _ hr2 Tryz.underlying119 rfl (by exact sizeR) ?_) | (refine wpList_store_row rfl 170 _ _ rfl w.heap.size _ rfl rfl 170 zE hm.blk (by exact sizeE) (by rfl) (by simp [Value.oneCell']) ?_))
 exact hm.done rfl rfl rfl
def EC (f : Nat) (k : Int) (v : Value) (w : World) : Prop := Calls Tryz.prog f #[.int .i64 k] w fun e w' => e = .returned v /\ Below w.heap.size w w'
set_option maxHeartbeats 40000000
set_option maxRecDepth 100000
theorem ofA122 (w : World) : EC 122 1 (entV 1 ⟨#[]⟩ 0 0 2 false 0 0 0 .nilFunc) w /\ EC 122 2 (entV 2 ⟨#[]⟩ 0 1 2 false 0 0 0 .nilFunc) w /\ EC 122 3 (entV 3 ⟨#[]⟩ 0 1 2 true 0 0 0 .nilFunc) w /\ EC 122 4 (entV 4 ⟨#[]⟩ 0 0 2 true 0 0 0 .nilFunc) w /\ EC 122 5 (entV 5 ⟨#[]⟩ 1 0 2 true 0 0 0 .nilFunc) w /\ EC 122 6 (entV 6 ⟨#[]⟩ 2 0 3 false 0 0 2 (.func (.func 131) #[] #[])) w /\ EC 122 7 (entV 7 ⟨#[]⟩ 0 0 3 true 0 0 0 .nilFunc) w /\ EC 122 8 (entV 8 ⟨#[]⟩ 0 0 2 false 0 0 0 .nilFunc) w /\ EC 122 9 (entV 9 ⟨#[110, 111, 112]⟩ 0 0 1 false 0 0 0 (.func (.func 133) #[] #[])) w /\ EC 122 10 (entV 10 ⟨#[121, 105, 101, 108, 100]⟩ 0 0 1 false 0 0 0 .nilFunc) w /\ EC 122 11 (entV 11 ⟨#[104, 97, 108, 116]⟩ 0 0 1 false 0 0 0 .nilFunc) w := by
 refine ⟨?_, ?_, ?_, ?_, ?_, ?_, ?_, ?_, ?_, ?_, ?_⟩
 all_goals (unfold EC; obtain ⟨wA, hA, hb, hz⟩ := mk w; go_enter Tryz.func122, Tryz.ntmps122; go_wp2_with fail)
 refine (row_any _ _ _ _ _ _).mono ?_; rotate_left
 refine (row_any _ _ _ _ _ _).mono ?_; rotate_left
 refine (withOperand_any _ _ _ _ _).mono ?_; rotate_left
 refine (withOperand_any _ _ _ _ _).mono ?_; rotate_left
 refine (withOperand_any _ _ _ _ _).mono ?_; rotate_left
 refine (row_any _ _ _ _ _ _).mono ?_; rotate_left
 refine (withOperand_any _ _ _ _ _).mono ?_; rotate_left
 refine (row_any _ _ _ _ _ _).mono ?_; rotate_left
 refine (row_any _ _ _ _ _ _).mono ?_; rotate_left
 refine (row_any _ _ _ _ _ _).mono ?_; rotate_left
 refine (row_any _ _ _ _ _ _).mono ?_; rotate_left
 all_goals (rintro e w1 ⟨rfl, h1⟩; have hm := Made.of hb hz h1; first | unfold rowV | unfold entV)
 all_goals (go_wp2_with (refine wpList_store_row rfl 170 _ _ rfl w.heap.size _ rfl rfl 170 zE hm.blk (by exact sizeE) (by rfl) (by simp [Value.oneCell']) ?_))
 all_goals exact hm.done rfl rfl rfl
theorem ofA123 (w : World) : EC 123 12 (entV 12 ⟨#[100, 117, 112]⟩ 1 2 1 false 0 0 0 (.func (.func 134) #[] #[])) w /\ EC 123 13 (entV 13 ⟨#[100, 114, 111, 112]⟩ 1 0 1 false 0 0 0 (.func (.func 136) #[] #[])) w /\ EC 123 14 (entV 14 ⟨#[115, 119, 97, 112]⟩ 2 2 1 false 0 0 0 (.func (.func 137) #[] #[])) w /\ EC 123 15 (entV 15 ⟨#[111, 118, 101, 114]⟩ 2 3 1 false 0 0 0 (.func (.func 138) #[] #[])) w /\ EC 123 16 (entV 16 ⟨#[114, 111, 116]⟩ 3 3 1 false 0 0 0 (.func (.func 139) #[] #[])) w := by
 refine ⟨?_, ?_, ?_, ?_, ?_⟩
 all_goals (unfold EC; obtain ⟨wA, hA, hb, hz⟩ := mk w; go_enter Tryz.func123, Tryz.ntmps123; go_wp2_with fail)
 refine (row_any _ _ _ _ _ _).mono ?_; rotate_left
 refine (row_any _ _ _ _ _ _).mono ?_; rotate_left
 refine (row_any _ _ _ _ _ _).mono ?_; rotate_left
 refine (row_any _ _ _ _ _ _).mono ?_; rotate_left
 refine (row_any _ _ _ _ _ _).mono ?_; rotate_left
 all_goals (rintro e w1 ⟨rfl, h1⟩; have hm := Made.of hb hz h1; first | unfold rowV | unfold entV)
 all_goals (go_wp2_with (refine wpList_store_row rfl 170 _ _ rfl w.heap.size _ rfl rfl 170 zE hm.blk (by exact sizeE) (by rfl) (by simp [Value.oneCell']) ?_))
 all_goals exact hm.done rfl rfl rfl
theorem entA (w : World) : EC 119 1 (entV 1 ⟨#[]⟩ 0 0 2 false 0 0 0 .nilFunc) w /\ EC 119 2 (entV 2 ⟨#[]⟩ 0 1 2 false 0 0 0 .nilFunc) w /\ EC 119 3 (entV 3 ⟨#[]⟩ 0 1 2 true 0 0 0 .nilFunc) w /\ EC 119 4 (entV 4 ⟨#[]⟩ 0 0 2 true 0 0 0 .nilFunc) w /\ EC 119 5 (entV 5 ⟨#[]⟩ 1 0 2 true 0 0 0 .nilFunc) w /\ EC 119 6 (entV 6 ⟨#[]⟩ 2 0 3 false 0 0 2 (.func (.func 131) #[] #[])) w /\ EC 119 7 (entV 7 ⟨#[]⟩ 0 0 3 true 0 0 0 .nilFunc) w /\ EC 119 8 (entV 8 ⟨#[]⟩ 0 0 2 false 0 0 0 .nilFunc) w /\ EC 119 9 (entV 9 ⟨#[110, 111, 112]⟩ 0 0 1 false 0 0 0 (.func (.func 133) #[] #[])) w /\ EC 119 10 (entV 10 ⟨#[121, 105, 101, 108, 100]⟩ 0 0 1 false 0 0 0 .nilFunc) w /\ EC 119 11 (entV 11 ⟨#[104, 97, 108, 116]⟩ 0 0 1 false 0 0 0 .nilFunc) w /\ EC 119 12 (entV 12 ⟨#[100, 117, 112]⟩ 1 2 1 false 0 0 0 (.func (.func 134) #[] #[])) w /\ EC 119 13 (entV 13 ⟨#[100, 114, 111, 112]⟩ 1 0 1 false 0 0 0 (.func (.func 136) #[] #[])) w /\ EC 119 14 (entV 14 ⟨#[115, 119, 97, 112]⟩ 2 2 1 false 0 0 0 (.func (.func 137) #[] #[])) w /\ EC 119 15 (entV 15 ⟨#[111, 118, 101, 114]⟩ 2 3 1 false 0 0 0 (.func (.func 138) #[] #[])) w /\ EC 119 16 (entV 16 ⟨#[114, 111, 116]⟩ 3 3 1 false 0 0 0 (.func (.func 139) #[] #[])) w := by
 refine ⟨?_, ?_, ?_, ?_, ?_, ?_, ?_, ?_, ?_, ?_, ?_, ?_, ?_, ?_, ?_, ?_⟩
 all_goals (unfold EC; obtain ⟨wA, hA, hb, hz⟩ := mk w; go_enter Tryz.func119, Tryz.ntmps119; go_wp2_with fail)
 refine Calls.mono (ofA122 _).1 ?_; rotate_left
 refine Calls.mono (ofA122 _).2.1 ?_; rotate_left
 refine Calls.mono (ofA122 _).2.2.1 ?_; rotate_left
 refine Calls.mono (ofA122 _).2.2.2.1 ?_; rotate_left
 refine Calls.mono (ofA122 _).2.2.2.2.1 ?_; rotate_left
 refine Calls.mono (ofA122 _).2.2.2.2.2.1 ?_; rotate_left
 refine Calls.mono (ofA122 _).2.2.2.2.2.2.1 ?_; rotate_left
 refine Calls.mono (ofA122 _).2.2.2.2.2.2.2.1 ?_; rotate_left
 refine Calls.mono (ofA122 _).2.2.2.2.2.2.2.2.1 ?_; rotate_left
 refine Calls.mono (ofA122 _).2.2.2.2.2.2.2.2.2.1 ?_; rotate_left
 refine Calls.mono (ofA122 _).2.2.2.2.2.2.2.2.2.2 ?_; rotate_left
 refine Calls.mono (ofA123 _).1 ?_; rotate_left
 refine Calls.mono (ofA123 _).2.1 ?_; rotate_left
 refine Calls.mono (ofA123 _).2.2.1 ?_; rotate_left
 refine Calls.mono (ofA123 _).2.2.2.1 ?_; rotate_left
 refine Calls.mono (ofA123 _).2.2.2.2 ?_; rotate_left
 all_goals (rintro e w1 ⟨rfl, h1⟩; have hm := Made.of hb hz h1; first | unfold rowV | unfold entV)
 all_goals (go_wp2_with (refine wpList_store_row rfl 170 _ _ rfl w.heap.size _ rfl rfl 170 zE hm.blk (by exact sizeE) (by rfl) (by simp [Value.oneCell']) ?_))
 all_goals exact hm.done rfl rfl rfl
set_option maxHeartbeats 40000000
set_option maxRecDepth 100000
theorem ofC124 (w : World) : EC 124 33 (entV 33 ⟨#[49, 45]⟩ 1 1 1 false 0 0 0 (.func (.func 171) #[] #[])) w /\ EC 124 34 (entV 34 ⟨#[50, 42]⟩ 1 1 1 false 0 0 0 (.func (.func 171) #[] #[])) w /\ EC 124 35 (entV 35 ⟨#[50, 47]⟩ 1 1 1 false 0 0 0 (.func (.func 171) #[] #[])) w := by
 refine ⟨?_, ?_, ?_⟩
 all_goals (unfold EC; obtain ⟨wA, hA, hb, hz⟩ := mk w; go_enter Tryz.func124, Tryz.ntmps124; go_wp2_with fail)
 refine (unary_any _ _ _).mono ?_; rotate_left
 refine (unary_any _ _ _).mono ?_; rotate_left
 refine (unary_any _ _ _).mono ?_; rotate_left
 all_goals (rintro e w1 ⟨rfl, h1⟩; have hm := Made.of hb hz h1; first | unfold rowV | unfold entV)
 all_goals (go_wp2_with (refine wpList_store_row rfl 170 _ _ rfl w.heap.size _ rfl rfl 170 zE hm.blk (by exact sizeE) (by rfl) (by simp [Value.oneCell']) ?_))
 all_goals exact hm.done rfl rfl rfl
theorem ofC125 (w : World) : EC 125 36 (entV 36 ⟨#[97, 110, 100]⟩ 2 1 1 false 0 0 0 (.func (.func 169) #[] #[])) w /\ EC 125 37 (entV 37 ⟨#[111, 114]⟩ 2 1 1 false 0 0 0 (.func (.func 169) #[] #[])) w /\ EC 125 38 (entV 38 ⟨#[120, 111, 114]⟩ 2 1 1 false 0 0 0 (.func (.func 169) #[] #[])) w /\ EC 125 39 (entV 39 ⟨#[105, 110, 118, 101, 114, 116]⟩ 1 1 1 false 0 0 0 (.func (.func 171) #[] #[])) w /\ EC 125 40 (entV 40 ⟨#[108, 115, 104, 105, 102, 116]⟩ 2 1 1 false 0 0 0 (.func (.func 169) #[] #[])) w /\ EC 125 41 (entV 41 ⟨#[114, 115, 104, 105, 102, 116]⟩ 2 1 1 false 0 0 0 (.func (.func 169) #[] #[])) w /\ EC 125 42 (entV 42 ⟨#[61]⟩ 2 1 1 false 0 0 0 (.func (.func 169) #[] #[])) w /\ EC 125 43 (entV 43 ⟨#[60, 62]⟩ 2 1 1 false 0 0 0 (.func (.func 169) #[] #[])) w /\ EC 125 44 (entV 44 ⟨#[60]⟩ 2 1 1 false 0 0 0 (.func (.func 169) #[] #[])) w /\ EC 125 45 (entV 45 ⟨#[62]⟩ 2 1 1 false 0 0 0 (.func (.func 169) #[] #[])) w /\ EC 125 46 (entV 46 ⟨#[117, 60]⟩ 2 1 1 false 0 0 0 (.func (.func 169) #[] #[])) w /\ EC 125 47 (entV 47 ⟨#[117, 62]⟩ 2 1 1 false 0 0 0 (.func (.func 169) #[] #[])) w /\ EC 125 48 (entV 48 ⟨#[48, 61]⟩ 1 1 1 false 0 0 0 (.func (.func 171) #[] #[])) w := by
 refine ⟨?_, ?_, ?_, ?_, ?_, ?_, ?_, ?_, ?_, ?_, ?_, ?_, ?_⟩
 all_goals (unfold EC; obtain ⟨wA, hA, hb, hz⟩ := mk w; go_enter Tryz.func125, Tryz.ntmps125; go_wp2_with fail)
 refine (binary_any _ _ _ _).mono ?_; rotate_left
 refine (binary_any _ _ _ _).mono ?_; rotate_left
 refine (binary_any _ _ _ _).mono ?_; rotate_left
 refine (unary_any _ _ _).mono ?_; rotate_left
 refine (binary_any _ _ _ _).mono ?_; rotate_left
 refine (binary_any _ _ _ _).mono ?_; rotate_left
 refine (binary_any _ _ _ _).mono ?_; rotate_left
 refine (binary_any _ _ _ _).mono ?_; rotate_left
 refine (binary_any _ _ _ _).mono ?_; rotate_left
 refine (binary_any _ _ _ _).mono ?_; rotate_left
 refine (binary_any _ _ _ _).mono ?_; rotate_left
 refine (binary_any _ _ _ _).mono ?_; rotate_left
 refine (unary_any _ _ _).mono ?_; rotate_left
 all_goals (rintro e w1 ⟨rfl, h1⟩; have hm := Made.of hb hz h1; first | unfold rowV | unfold entV)
 all_goals (go_wp2_with (refine wpList_store_row rfl 170 _ _ rfl w.heap.size _ rfl rfl 170 zE hm.blk (by exact sizeE) (by rfl) (by simp [Value.oneCell']) ?_))
 all_goals exact hm.done rfl rfl rfl
theorem entC (w : World) : EC 119 33 (entV 33 ⟨#[49, 45]⟩ 1 1 1 false 0 0 0 (.func (.func 171) #[] #[])) w /\ EC 119 34 (entV 34 ⟨#[50, 42]⟩ 1 1 1 false 0 0 0 (.func (.func 171) #[] #[])) w /\ EC 119 35 (entV 35 ⟨#[50, 47]⟩ 1 1 1 false 0 0 0 (.func (.func 171) #[] #[])) w /\ EC 119 36 (entV 36 ⟨#[97, 110, 100]⟩ 2 1 1 false 0 0 0 (.func (.func 169) #[] #[])) w /\ EC 119 37 (entV 37 ⟨#[111, 114]⟩ 2 1 1 false 0 0 0 (.func (.func 169) #[] #[])) w /\ EC 119 38 (entV 38 ⟨#[120, 111, 114]⟩ 2 1 1 false 0 0 0 (.func (.func 169) #[] #[])) w /\ EC 119 39 (entV 39 ⟨#[105, 110, 118, 101, 114, 116]⟩ 1 1 1 false 0 0 0 (.func (.func 171) #[] #[])) w /\ EC 119 40 (entV 40 ⟨#[108, 115, 104, 105, 102, 116]⟩ 2 1 1 false 0 0 0 (.func (.func 169) #[] #[])) w /\ EC 119 41 (entV 41 ⟨#[114, 115, 104, 105, 102, 116]⟩ 2 1 1 false 0 0 0 (.func (.func 169) #[] #[])) w /\ EC 119 42 (entV 42 ⟨#[61]⟩ 2 1 1 false 0 0 0 (.func (.func 169) #[] #[])) w /\ EC 119 43 (entV 43 ⟨#[60, 62]⟩ 2 1 1 false 0 0 0 (.func (.func 169) #[] #[])) w /\ EC 119 44 (entV 44 ⟨#[60]⟩ 2 1 1 false 0 0 0 (.func (.func 169) #[] #[])) w /\ EC 119 45 (entV 45 ⟨#[62]⟩ 2 1 1 false 0 0 0 (.func (.func 169) #[] #[])) w /\ EC 119 46 (entV 46 ⟨#[117, 60]⟩ 2 1 1 false 0 0 0 (.func (.func 169) #[] #[])) w /\ EC 119 47 (entV 47 ⟨#[117, 62]⟩ 2 1 1 false 0 0 0 (.func (.func 169) #[] #[])) w /\ EC 119 48 (entV 48 ⟨#[48, 61]⟩ 1 1 1 false 0 0 0 (.func (.func 171) #[] #[])) w := by
 refine ⟨?_, ?_, ?_, ?_, ?_, ?_, ?_, ?_, ?_, ?_, ?_, ?_, ?_, ?_, ?_, ?_⟩
 all_goals (unfold EC; obtain ⟨wA, hA, hb, hz⟩ := mk w; go_enter Tryz.func119, Tryz.ntmps119; go_wp2_with fail)
 refine Calls.mono (ofC124 _).1 ?_; rotate_left
 refine Calls.mono (ofC124 _).2.1 ?_; rotate_left
 refine Calls.mono (ofC124 _).2.2 ?_; rotate_left
 refine Calls.mono (ofC125 _).1 ?_; rotate_left
 refine Calls.mono (ofC125 _).2.1 ?_; rotate_left
 refine Calls.mono (ofC125 _).2.2.1 ?_; rotate_left
 refine Calls.mono (ofC125 _).2.2.2.1 ?_; rotate_left
 refine Calls.mono (ofC125 _).2.2.2.2.1 ?_; rotate_left
 refine Calls.mono (ofC125 _).2.2.2.2.2.1 ?_; rotate_left
 refine Calls.mono (ofC125 _).2.2.2.2.2.2.1 ?_; rotate_left
 refine Calls.mono (ofC125 _).2.2.2.2.2.2.2.1 ?_; rotate_left
 refine Calls.mono (ofC125 _).2.2.2.2.2.2.2.2.1 ?_; rotate_left
 refine Calls.mono (ofC125 _).2.2.2.2.2.2.2.2.2.1 ?_; rotate_left
 refine Calls.mono (ofC125 _).2.2.2.2.2.2.2.2.2.2.1 ?_; rotate_left
 refine Calls.mono (ofC125 _).2.2.2.2.2.2.2.2.2.2.2.1 ?_; rotate_left
 refine Calls.mono (ofC125 _).2.2.2.2.2.2.2.2.2.2.2.2 ?_; rotate_left
 all_goals (rintro e w1 ⟨rfl, h1⟩; have hm := Made.of hb hz h1; first | unfold rowV | unfold entV)
 all_goals (go_wp2_with (refine wpList_store_row rfl 170 _ _ rfl w.heap.size _ rfl rfl 170 zE hm.blk (by exact sizeE) (by rfl) (by simp [Value.oneCell']) ?_))
 all_goals exact hm.done rfl rfl rfl
set_option maxHeartbeats 40000000
set_option maxRecDepth 100000
theorem ofB123 (w : World) : EC 123 17 (entV 17 ⟨#[110, 105, 112]⟩ 2 1 1 false 0 0 0 (.func (.func 140) #[] #[])) w /\ EC 123 18 (entV 18 ⟨#[116, 117, 99, 107]⟩ 2 3 1 false 0 0 0 (.func (.func 141) #[] #[])) w /\ EC 123 19 (entV 19 ⟨#[50, 100, 117, 112]⟩ 2 4 2 false 0 0 0 (.func (.func 142) #[] #[])) w /\ EC 123 20 (entV 20 ⟨#[50, 100, 114, 111, 112]⟩ 2 0 1 false 0 0 0 (.func (.func 143) #[] #[])) w := by
 refine ⟨?_, ?_, ?_, ?_⟩
 all_goals (unfold EC; obtain ⟨wA, hA, hb, hz⟩ := mk w; go_enter Tryz.func123, Tryz.ntmps123; go_wp2_with fail)
 refine (row_any _ _ _ _ _ _).mono ?_; rotate_left
 refine (row_any _ _ _ _ _ _).mono ?_; rotate_left
 refine (row_any _ _ _ _ _ _).mono ?_; rotate_left
 refine (row_any _ _ _ _ _ _).mono ?_; rotate_left
 all_goals (rintro e w1 ⟨rfl, h1⟩; have hm := Made.of hb hz h1; first | unfold rowV | unfold entV)
 all_goals (go_wp2_with (refine wpList_store_row rfl 170 _ _ rfl w.heap.size _ rfl rfl 170 zE hm.blk (by exact sizeE) (by rfl) (by simp [Value.oneCell']) ?_))
 all_goals exact hm.done rfl rfl rfl
theorem ofB124 (w : World) : EC 124 21 (entV 21 ⟨#[43]⟩ 2 1 1 false 0 0 0 (.func (.func 169) #[] #[])) w /\ EC 124 22 (entV 22 ⟨#[45]⟩ 2 1 1 false 0 0 0 (.func (.func 169) #[] #[])) w /\ EC 124 23 (entV 23 ⟨#[42]⟩ 2 1 3 false 0 0 0 (.func (.func 169) #[] #[])) w /\ EC 124 24 (entV 24 ⟨#[47]⟩ 2 1 4 false 0 0 0 (.func (.func 169) #[] #[])) w /\ EC 124 25 (entV 25 ⟨#[109, 111, 100]⟩ 2 1 4 false 0 0 0 (.func (.func 169) #[] #[])) w /\ EC 124 26 (entV 26 ⟨#[117, 47]⟩ 2 1 4 false 0 0 0 (.func (.func 169) #[] #[])) w /\ EC 124 27 (entV 27 ⟨#[117, 109, 111, 100]⟩ 2 1 4 false 0 0 0 (.func (.func 169) #[] #[])) w /\ EC 124 28 (entV 28 ⟨#[110, 101, 103, 97, 116, 101]⟩ 1 1 1 false 0 0 0 (.func (.func 171) #[] #[])) w /\ EC 124 29 (entV 29 ⟨#[97, 98, 115]⟩ 1 1 1 false 0 0 0 (.func (.func 171) #[] #[])) w /\ EC 124 30 (entV 30 ⟨#[109, 105, 110]⟩ 2 1 1 false 0 0 0 (.func (.func 169) #[] #[])) w /\ EC 124 31 (entV 31 ⟨#[109, 97, 120]⟩ 2 1 1 false 0 0 0 (.func (.func 169) #[] #[])) w /\ EC 124 32 (entV 32 ⟨#[49, 43]⟩ 1 1 1 false 0 0 0 (.func (.func 171) #[] #[])) w := by
 refine ⟨?_, ?_, ?_, ?_, ?_, ?_, ?_, ?_, ?_, ?_, ?_, ?_⟩
 all_goals (unfold EC; obtain ⟨wA, hA, hb, hz⟩ := mk w; go_enter Tryz.func124, Tryz.ntmps124; go_wp2_with fail)
 refine (binary_any _ _ _ _).mono ?_; rotate_left
 refine (binary_any _ _ _ _).mono ?_; rotate_left
 refine (binary_any _ _ _ _).mono ?_; rotate_left
 refine (binary_any _ _ _ _).mono ?_; rotate_left
 refine (binary_any _ _ _ _).mono ?_; rotate_left
 refine (binary_any _ _ _ _).mono ?_; rotate_left
 refine (binary_any _ _ _ _).mono ?_; rotate_left
 refine (unary_any _ _ _).mono ?_; rotate_left
 refine (unary_any _ _ _).mono ?_; rotate_left
 refine (binary_any _ _ _ _).mono ?_; rotate_left
 refine (binary_any _ _ _ _).mono ?_; rotate_left
 refine (unary_any _ _ _).mono ?_; rotate_left
 all_goals (rintro e w1 ⟨rfl, h1⟩; have hm := Made.of hb hz h1; first | unfold rowV | unfold entV)
 all_goals (go_wp2_with (refine wpList_store_row rfl 170 _ _ rfl w.heap.size _ rfl rfl 170 zE hm.blk (by exact sizeE) (by rfl) (by simp [Value.oneCell']) ?_))
 all_goals exact hm.done rfl rfl rfl
theorem entB (w : World) : EC 119 17 (entV 17 ⟨#[110, 105, 112]⟩ 2 1 1 false 0 0 0 (.func (.func 140) #[] #[])) w /\ EC 119 18 (entV 18 ⟨#[116, 117, 99, 107]⟩ 2 3 1 false 0 0 0 (.func (.func 141) #[] #[])) w /\ EC 119 19 (entV 19 ⟨#[50, 100, 117, 112]⟩ 2 4 2 false 0 0 0 (.func (.func 142) #[] #[])) w /\ EC 119 20 (entV 20 ⟨#[50, 100, 114, 111, 112]⟩ 2 0 1 false 0 0 0 (.func (.func 143) #[] #[])) w /\ EC 119 21 (entV 21 ⟨#[43]⟩ 2 1 1 false 0 0 0 (.func (.func 169) #[] #[])) w /\ EC 119 22 (entV 22 ⟨#[45]⟩ 2 1 1 false 0 0 0 (.func (.func 169) #[] #[])) w /\ EC 119 23 (entV 23 ⟨#[42]⟩ 2 1 3 false 0 0 0 (.func (.func 169) #[] #[])) w /\ EC 119 24 (entV 24 ⟨#[47]⟩ 2 1 4 false 0 0 0 (.func (.func 169) #[] #[])) w /\ EC 119 25 (entV 25 ⟨#[109, 111, 100]⟩ 2 1 4 false 0 0 0 (.func (.func 169) #[] #[])) w /\ EC 119 26 (entV 26 ⟨#[117, 47]⟩ 2 1 4 false 0 0 0 (.func (.func 169) #[] #[])) w /\ EC 119 27 (entV 27 ⟨#[117, 109, 111, 100]⟩ 2 1 4 false 0 0 0 (.func (.func 169) #[] #[])) w /\ EC 119 28 (entV 28 ⟨#[110, 101, 103, 97, 116, 101]⟩ 1 1 1 false 0 0 0 (.func (.func 171) #[] #[])) w /\ EC 119 29 (entV 29 ⟨#[97, 98, 115]⟩ 1 1 1 false 0 0 0 (.func (.func 171) #[] #[])) w /\ EC 119 30 (entV 30 ⟨#[109, 105, 110]⟩ 2 1 1 false 0 0 0 (.func (.func 169) #[] #[])) w /\ EC 119 31 (entV 31 ⟨#[109, 97, 120]⟩ 2 1 1 false 0 0 0 (.func (.func 169) #[] #[])) w /\ EC 119 32 (entV 32 ⟨#[49, 43]⟩ 1 1 1 false 0 0 0 (.func (.func 171) #[] #[])) w := by
 refine ⟨?_, ?_, ?_, ?_, ?_, ?_, ?_, ?_, ?_, ?_, ?_, ?_, ?_, ?_, ?_, ?_⟩
 all_goals (unfold EC; obtain ⟨wA, hA, hb, hz⟩ := mk w; go_enter Tryz.func119, Tryz.ntmps119; go_wp2_with fail)
 refine Calls.mono (ofB123 _).1 ?_; rotate_left
 refine Calls.mono (ofB123 _).2.1 ?_; rotate_left
 refine Calls.mono (ofB123 _).2.2.1 ?_; rotate_left
 refine Calls.mono (ofB123 _).2.2.2 ?_; rotate_left
 refine Calls.mono (ofB124 _).1 ?_; rotate_left
 refine Calls.mono (ofB124 _).2.1 ?_; rotate_left
 refine Calls.mono (ofB124 _).2.2.1 ?_; rotate_left
 refine Calls.mono (ofB124 _).2.2.2.1 ?_; rotate_left
 refine Calls.mono (ofB124 _).2.2.2.2.1 ?_; rotate_left
 refine Calls.mono (ofB124 _).2.2.2.2.2.1 ?_; rotate_left
 refine Calls.mono (ofB124 _).2.2.2.2.2.2.1 ?_; rotate_left
 refine Calls.mono (ofB124 _).2.2.2.2.2.2.2.1 ?_; rotate_left
 refine Calls.mono (ofB124 _).2.2.2.2.2.2.2.2.1 ?_; rotate_left
 refine Calls.mono (ofB124 _).2.2.2.2.2.2.2.2.2.1 ?_; rotate_left
 refine Calls.mono (ofB124 _).2.2.2.2.2.2.2.2.2.2.1 ?_; rotate_left
 refine Calls.mono (ofB124 _).2.2.2.2.2.2.2.2.2.2.2 ?_; rotate_left
 all_goals (rintro e w1 ⟨rfl, h1⟩; have hm := Made.of hb hz h1; first | unfold rowV | unfold entV)
 all_goals (go_wp2_with (refine wpList_store_row rfl 170 _ _ rfl w.heap.size _ rfl rfl 170 zE hm.blk (by exact sizeE) (by rfl) (by simp [Value.oneCell']) ?_))
 all_goals exact hm.done rfl rfl rfl
set_option maxHeartbeats 40000000
set_option maxRecDepth 100000
theorem ofD125 (w : World) : EC 125 49 (entV 49 ⟨#[48, 60]⟩ 1 1 1 false 0 0 0 (.func (.func 171) #[] #[])) w := by
 all_goals (unfold EC; obtain ⟨wA, hA, hb, hz⟩ := mk w; go_enter Tryz.func125, Tryz.ntmps125; go_wp2_with fail)
 refine (unary_any _ _ _).mono ?_; rotate_left
 all_goals (rintro e w1 ⟨rfl, h1⟩; have hm := Made.of hb hz h1; first | unfold rowV | unfold entV)
 all_goals (go_wp2_with (refine wpList_store_row rfl 170 _ _ rfl w.heap.size _ rfl rfl 170 zE hm.blk (by exact sizeE) (by rfl) (by simp [Value.oneCell']) ?_))
 all_goals exact hm.done rfl rfl rfl
theorem ofD126 (w : World) : EC 126 50 (entV 50 ⟨#[64]⟩ 1 1 2 false 0 0 0 (.func (.func 146) #[] #[])) w /\ EC 126 51 (entV 51 ⟨#[33]⟩ 2 0 2 false 0 0 0 (.func (.func 148) #[] #[])) w /\ EC 126 52 (entV 52 ⟨#[99, 64]⟩ 1 1 2 false 0 0 0 (.func (.func 150) #[] #[])) w /\ EC 126 53 (entV 53 ⟨#[99, 33]⟩ 2 0 2 false 0 0 0 (.func (.func 152) #[] #[])) w /\ EC 126 54 (entV 54 ⟨#[43, 33]⟩ 2 0 3 false 0 0 0 (.func (.func 154) #[] #[])) w := by
 refine ⟨?_, ?_, ?_, ?_, ?_⟩
 all_goals (unfold EC; obtain ⟨wA, hA, hb, hz⟩ := mk w; go_enter Tryz.func126, Tryz.ntmps126; go_wp2_with fail)
 refine (row_any _ _ _ _ _ _).mono ?_; rotate_left
 refine (row_any _ _ _ _ _ _).mono ?_; rotate_left
 refine (row_any _ _ _ _ _ _).mono ?_; rotate_left
 refine (row_any _ _ _ _ _ _).mono ?_; rotate_left
 refine (row_any _ _ _ _ _ _).mono ?_; rotate_left
 all_goals (rintro e w1 ⟨rfl, h1⟩; have hm := Made.of hb hz h1; first | unfold rowV | unfold entV)
 all_goals (go_wp2_with (refine wpList_store_row rfl 170 _ _ rfl w.heap.size _ rfl rfl 170 zE hm.blk (by exact sizeE) (by rfl) (by simp [Value.oneCell']) ?_))
 all_goals exact hm.done rfl rfl rfl
theorem ofD127 (w : World) : EC 127 55 (entV 55 ⟨#[62, 114]⟩ 1 0 1 false 0 0 1 (.func (.func 155) #[] #[])) w /\ EC 127 56 (entV 56 ⟨#[114, 62]⟩ 0 1 1 false 4 0 0 (.func (.func 156) #[] #[])) w /\ EC 127 57 (entV 57 ⟨#[114, 64]⟩ 0 1 1 false 4 0 0 (.func (.func 178) #[] #[])) w /\ EC 127 58 (entV 58 ⟨#[105]⟩ 0 1 1 false 3 0 0 (.func (.func 178) #[] #[])) w /\ EC 127 59 (entV 59 ⟨#[106]⟩ 0 1 1 false 3 2 0 (.func (.func 178) #[] #[])) w := by
 refine ⟨?_, ?_, ?_, ?_, ?_⟩
 all_goals (unfold EC; obtain ⟨wA, hA, hb, hz⟩ := mk w; go_enter Tryz.func127, Tryz.ntmps127; go_wp2_with fail)
 refine (row_any _ _ _ _ _ _).mono ?_; rotate_left
 refine (row_any _ _ _ _ _ _).mono ?_; rotate_left
 refine (peek_any _ _ _ _ _).mono ?_; rotate_left
 refine (peek_any _ _ _ _ _).mono ?_; rotate_left
 refine (peek_any _ _ _ _ _).mono ?_; rotate_left
 all_goals (rintro e w1 ⟨rfl, h1⟩; have hm := Made.of hb hz h1; first | unfold rowV | unfold entV)
 all_goals (go_wp2_with (refine wpList_store_row rfl 170 _ _ rfl w.heap.size _ rfl rfl 170 zE hm.blk (by exact sizeE) (by rfl) (by simp [Value.oneCell']) ?_))
 all_goals exact hm.done rfl rfl rfl
theorem ofD128 (w : World) : EC 128 60 (entV 60 ⟨#[112, 108, 111, 116]⟩ 3 0 3 false 0 0 0 (.func (.func 159) #[] #[])) w /\ EC 128 61 (entV 61 ⟨#[112, 97, 100]⟩ 0 1 1 false 0 0 0 (.func (.func 161) #[] #[])) w /\ EC 128 62 (entV 62 ⟨#[116, 111, 110, 101]⟩ 2 0 2 false 0 0 0 (.func (.func 163) #[] #[])) w /\ EC 128 63 (entV 63 ⟨#[98, 97, 110, 107]⟩ 1 0 1 false 0 0 0 (.func (.func 165) #[] #[])) w := by
 refine ⟨?_, ?_, ?_, ?_⟩
 all_goals (unfold EC; obtain ⟨wA, hA, hb, hz⟩ := mk w; go_enter Tryz.func128, Tryz.ntmps128; go_wp2_with fail)
 refine (row_any _ _ _ _ _ _).mono ?_; rotate_left
 refine (row_any _ _ _ _ _ _).mono ?_; rotate_left
 refine (row_any _ _ _ _ _ _).mono ?_; rotate_left
 refine (row_any _ _ _ _ _ _).mono ?_; rotate_left
 all_goals (rintro e w1 ⟨rfl, h1⟩; have hm := Made.of hb hz h1; first | unfold rowV | unfold entV)
 all_goals (go_wp2_with (refine wpList_store_row rfl 170 _ _ rfl w.heap.size _ rfl rfl 170 zE hm.blk (by exact sizeE) (by rfl) (by simp [Value.oneCell']) ?_))
 all_goals exact hm.done rfl rfl rfl
theorem entD (w : World) : EC 119 49 (entV 49 ⟨#[48, 60]⟩ 1 1 1 false 0 0 0 (.func (.func 171) #[] #[])) w /\ EC 119 50 (entV 50 ⟨#[64]⟩ 1 1 2 false 0 0 0 (.func (.func 146) #[] #[])) w /\ EC 119 51 (entV 51 ⟨#[33]⟩ 2 0 2 false 0 0 0 (.func (.func 148) #[] #[])) w /\ EC 119 52 (entV 52 ⟨#[99, 64]⟩ 1 1 2 false 0 0 0 (.func (.func 150) #[] #[])) w /\ EC 119 53 (entV 53 ⟨#[99, 33]⟩ 2 0 2 false 0 0 0 (.func (.func 152) #[] #[])) w /\ EC 119 54 (entV 54 ⟨#[43, 33]⟩ 2 0 3 false 0 0 0 (.func (.func 154) #[] #[])) w /\ EC 119 55 (entV 55 ⟨#[62, 114]⟩ 1 0 1 false 0 0 1 (.func (.func 155) #[] #[])) w /\ EC 119 56 (entV 56 ⟨#[114, 62]⟩ 0 1 1 false 4 0 0 (.func (.func 156) #[] #[])) w /\ EC 119 57 (entV 57 ⟨#[114, 64]⟩ 0 1 1 false 4 0 0 (.func (.func 178) #[] #[])) w /\ EC 119 58 (entV 58 ⟨#[105]⟩ 0 1 1 false 3 0 0 (.func (.func 178) #[] #[])) w /\ EC 119 59 (entV 59 ⟨#[106]⟩ 0 1 1 false 3 2 0 (.func (.func 178) #[] #[])) w /\ EC 119 60 (entV 60 ⟨#[112, 108, 111, 116]⟩ 3 0 3 false 0 0 0 (.func (.func 159) #[] #[])) w /\ EC 119 61 (entV 61 ⟨#[112, 97, 100]⟩ 0 1 1 false 0 0 0 (.func (.func 161) #[] #[])) w /\ EC 119 62 (entV 62 ⟨#[116, 111, 110, 101]⟩ 2 0 2 false 0 0 0 (.func (.func 163) #[] #[])) w /\ EC 119 63 (entV 63 ⟨#[98, 97, 110, 107]⟩ 1 0 1 false 0 0 0 (.func (.func 165) #[] #[])) w := by
 refine ⟨?_, ?_, ?_, ?_, ?_, ?_, ?_, ?_, ?_, ?_, ?_, ?_, ?_, ?_, ?_⟩
 all_goals (unfold EC; obtain ⟨wA, hA, hb, hz⟩ := mk w; go_enter Tryz.func119, Tryz.ntmps119; go_wp2_with fail)
 refine Calls.mono (ofD125 _) ?_; rotate_left
 refine Calls.mono (ofD126 _).1 ?_; rotate_left
 refine Calls.mono (ofD126 _).2.1 ?_; rotate_left
 refine Calls.mono (ofD126 _).2.2.1 ?_; rotate_left
 refine Calls.mono (ofD126 _).2.2.2.1 ?_; rotate_left
 refine Calls.mono (ofD126 _).2.2.2.2 ?_; rotate_left
 refine Calls.mono (ofD127 _).1 ?_; rotate_left
 refine Calls.mono (ofD127 _).2.1 ?_; rotate_left
 refine Calls.mono (ofD127 _).2.2.1 ?_; rotate_left
 refine Calls.mono (ofD127 _).2.2.2.1 ?_; rotate_left
 refine Calls.mono (ofD127 _).2.2.2.2 ?_; rotate_left
 refine Calls.mono (ofD128 _).1 ?_; rotate_left
 refine Calls.mono (ofD128 _).2.1 ?_; rotate_left
 refine Calls.mono (ofD128 _).2.2.1 ?_; rotate_left
 refine Calls.mono (ofD128 _).2.2.2 ?_; rotate_left
 all_goals (rintro e w1 ⟨rfl, h1⟩; have hm := Made.of hb hz h1; first | unfold rowV | unfold entV)
 all_goals (go_wp2_with (refine wpList_store_row rfl 170 _ _ rfl w.heap.size _ rfl rfl 170 zE hm.blk (by exact sizeE) (by rfl) (by simp [Value.oneCell']) ?_))
 all_goals exact hm.done rfl rfl rfl
end Go.Proofs.YtlilefhmohkfkaaGreatDoor.P
