import Derived.Test.YtoemoiehjdmheaaGreatProg
import Derived.WalkKit
import Derived.KernelRfl
import Derived.ProofKit
import Derived.BigQuiet
import Derived.Laws.Rows
import Derived.Laws.Tables
namespace Go.Proofs.YtoemoiehjdmheaaGreat.P
open Go.RowKit
open Go.Proofs
set_option linter.unusedVariables false
set_option linter.unusedSimpArgs false
set_option maxHeartbeats 1000000
set_option maxRecDepth 100000
def rowV (op : Int) (name : ByteArray) (i o c : Int) (b : Bool) : Value := .agg #[.int .i64 op, .string name, .int .i64 i, .int .i64 o, .int .i64 c, .bool b]
theorem row_any (op : Int) (name : ByteArray) (i o c : Int) (w : World) : Calls Tryz.prog 94 #[.int .i64 op, .string name, .int .i64 i, .int .i64 o, .int .i64 c] w fun e w' => e = .returned (rowV op name i o c false) /\ Below w.heap.size w w' := by
 go_enter Tryz.func94, Tryz.ntmps94
 go_wp2
 refine bodyPost_ret (v := rowV op name i o c false) (by simp [results, Tryz.results94, go_sem, rowV]) rfl ⟨rfl, ?_⟩
 exact (Below.refl _ w).alloc (Nat.le_refl _) _
def zE : Array Value := #[.int .i64 0, .string { data := #[] }, .int .i64 0, .int .i64 0, .int .i64 0, .bool false, .int .i64 0, .int .i64 0, .int .i64 0, .nilFunc]
theorem sizeE : (Tryz.prog.info? 160).map (·.size) = some 10 := by kernel_rfl
theorem sizeR : (Tryz.prog.info? 128).map (·.size) = some 6 := by kernel_rfl
theorem Below.setRow {B : Nat} {a w : World} (h : Below B a w) (g : Nat) (hg : B <= g) (c : Array Value) : Below B a (w.setRow g c) :=
 ⟨h.os, h.tape, h.output, by rw [setRow_size]; exact h.size, fun k hk => (setRow_other w g k c (by omega)).trans (h.block k hk)⟩
theorem mk (w : World) : ∃ wA, w.alloc (.cells #[.int .i64 0, .string { data := #[] }, .int .i64 0, .int .i64 0, .int .i64 0, .bool false, .int .i64 0, .int .i64 0, .int .i64 0, .nilFunc] 160) = wA /\ Below w.heap.size w wA /\ wA.heap[w.heap.size]? = some (.cells zE 160 (0, 0)) :=
 ⟨_, rfl, (Below.refl _ w).alloc (Nat.le_refl _) _, heap_alloc_new w _⟩
structure Made (w wA w1 : World) : Prop where
 bel : Below w.heap.size w w1
 blk : w1.heap[w.heap.size]? = some (.cells zE 160 (0, 0))
theorem Made.of {w wA w1 : World} (hb : Below w.heap.size w wA) (hz : wA.heap[w.heap.size]? = some (.cells zE 160 (0, 0))) (h : Below wA.heap.size wA w1) : Made w wA w1 :=
 ⟨hb.trans ⟨h.os, h.tape, h.output, h.size, fun k hk => h.block k (Nat.lt_of_lt_of_le hk hb.size)⟩, (h.block _ (Array.getElem?_eq_some_iff.1 hz).1).trans hz⟩
theorem Made.fin {w wA w1 : World} (h : Made w wA w1) (c : Array Value) : (w1.setRow w.heap.size c).heap[w.heap.size]? = some (.cells c 160 (0, 0)) /\ Below w.heap.size w (w1.setRow w.heap.size c) :=
 ⟨setRow_heap w1 _ _ _ _ _ h.blk, Below.setRow h.bel _ (Nat.le_refl _) _⟩
def entV (op : Int) (name : ByteArray) (i o c : Int) (b : Bool) (k bl s : Int) (f : Value) : Value := .agg #[.int .i64 op, .string name, .int .i64 i, .int .i64 o, .int .i64 c, .bool b, .int .i64 k, .int .i64 bl, .int .i64 s, f]
theorem Made.done {w wA w1 : World} (h : Made w wA w1) {fn : Func} {p : Tmp} {a : Act} {op i o c k bl s : Int} {name : ByteArray} {b : Bool} {f : Value} (hr : fn.results = #[.cell p 160]) (hp : a.tmps.getD p undef = .pointer (some ⟨w.heap.size, 0, none⟩)) (hd : a.defers = []) :
  bodyPost Tryz.prog fn (fun e w' => e = .returned (entV op name i o c b k bl s f) /\ Below w.heap.size w w') .ret a (w1.setRow w.heap.size #[.int .i64 op, .string name, .int .i64 i, .int .i64 o, .int .i64 c, .bool b, .int .i64 k, .int .i64 bl, .int .i64 s, f]) :=
 bodyPost_ret (results_cell_row hr _ _ w.heap.size 160 _ (0, 0) _ hp (h.fin _).1 Tryz.underlying160 rfl sizeE) hd ⟨rfl, (h.fin _).2⟩
theorem binary_any (op : Int) (name : ByteArray) (c : Int) (w : World) : Calls Tryz.prog 109 #[.int .i64 op, .string name, .int .i64 c] w fun e w' => e = .returned (entV op name 2 1 c false 0 0 0 (.func (.func 137) #[] #[])) /\ Below w.heap.size w w' := by
 obtain ⟨wA, hA, hb, hz⟩ := mk w
 go_enter Tryz.func109, Tryz.ntmps109
 go_wp2_with fail
 refine (row_any _ _ _ _ _ _).mono ?_
 rintro e w1 ⟨rfl, h1⟩
 have hm := Made.of hb hz h1
 unfold rowV
 go_wp2_with (refine wpList_store_row rfl 160 _ _ rfl w.heap.size _ rfl rfl 160 zE hm.blk (by exact sizeE) (by rfl) (by simp [Value.oneCell']) ?_)
 exact hm.done rfl rfl rfl
theorem unary_any (op : Int) (name : ByteArray) (w : World) : Calls Tryz.prog 110 #[.int .i64 op, .string name] w fun e w' => e = .returned (entV op name 1 1 1 false 0 0 0 (.func (.func 139) #[] #[])) /\ Below w.heap.size w w' := by
 obtain ⟨wA, hA, hb, hz⟩ := mk w
 go_enter Tryz.func110, Tryz.ntmps110
 go_wp2_with fail
 refine (row_any _ _ _ _ _ _).mono ?_
 rintro e w1 ⟨rfl, h1⟩
 have hm := Made.of hb hz h1
 unfold rowV
 go_wp2_with (refine wpList_store_row rfl 160 _ _ rfl w.heap.size _ rfl rfl 160 zE hm.blk (by exact sizeE) (by rfl) (by simp [Value.oneCell']) ?_)
 exact hm.done rfl rfl rfl
theorem peek_any (op : Int) (name : ByteArray) (k bl : Int) (w : World) : Calls Tryz.prog 122 #[.int .i64 op, .string name, .int .i64 k, .int .i64 bl] w fun e w' => e = .returned (entV op name 0 1 1 false k bl 0 (.func (.func 144) #[] #[])) /\ Below w.heap.size w w' := by
 obtain ⟨wA, hA, hb, hz⟩ := mk w
 go_enter Tryz.func122, Tryz.ntmps122
 go_wp2_with fail
 refine (row_any _ _ _ _ _ _).mono ?_
 rintro e w1 ⟨rfl, h1⟩
 have hm := Made.of hb hz h1
 unfold rowV
 go_wp2_with (refine wpList_store_row rfl 160 _ _ rfl w.heap.size _ rfl rfl 160 zE hm.blk (by exact sizeE) (by rfl) (by simp [Value.oneCell']) ?_)
 exact hm.done rfl rfl rfl
theorem withOperand_any (op i o c : Int) (w : World) : Calls Tryz.prog 95 #[.int .i64 op, .int .i64 i, .int .i64 o, .int .i64 c] w fun e w' => e = .returned (entV op ⟨#[]⟩ i o c true 0 0 0 .nilFunc) /\ Below w.heap.size w w' := by
 obtain ⟨wA, hA, hb, hz⟩ := mk w
 go_enter Tryz.func95, Tryz.ntmps95
 go_wp2_with fail
 refine (row_any _ _ _ _ _ _).mono ?_
 rintro e w1 ⟨rfl, h1⟩
 obtain ⟨w2, hw2⟩ : ∃ w2, w1.alloc (.cells #[.int .i64 op, .string { data := #[] }, .int .i64 i, .int .i64 o, .int .i64 c, .bool true] 128) = w2 := ⟨_, rfl⟩
 have h2 : Below wA.heap.size wA w2 := by rw [<- hw2]; exact h1.alloc h1.size _
 have hr2 : w2.heap[w1.heap.size]? = some (.cells #[.int .i64 op, .string { data := #[] }, .int .i64 i, .int .i64 o, .int .i64 c, .bool true] 128 (0, 0)) := by rw [<- hw2]; exact heap_alloc_new w1 _
 have hm := Made.of hb hz h2
 unfold rowV
 go_wp2_with (first | (refine wpList_load_row rfl 128 _ rfl w1.heap.size rfl 128 _ (0, 0) _ hr2 Tryz.underlying128 rfl (by exact sizeR) ?_) | (refine wpList_store_row rfl 160 _ _ rfl w.heap.size _ rfl rfl 160 zE hm.blk (by exact sizeE) (by rfl) (by simp [Value.oneCell']) ?_))
 exact hm.done rfl rfl rfl
set_option maxHeartbeats 1000000
set_option maxRecDepth 100000
theorem of_49 (w : World) : Calls Tryz.prog 76 #[.int .i64 49] w fun e w' => e = .returned (entV 49 ⟨#[48, 60]⟩ 1 1 1 false 0 0 0 (.func (.func 139) #[] #[])) /\ Below w.heap.size w w' := by
 obtain ⟨wA, hA, hb, hz⟩ := mk w
 go_enter Tryz.func76, Tryz.ntmps76
 go_wp2_with fail
 refine (unary_any _ _ _).mono ?_
 rintro e w1 ⟨rfl, h1⟩
 have hm := Made.of hb hz h1
 unfold entV
 go_wp2_with (refine wpList_store_row rfl 160 _ _ rfl w.heap.size _ rfl rfl 160 zE hm.blk (by exact sizeE) (by rfl) (by simp [Value.oneCell']) ?_)
 exact hm.done rfl rfl rfl
theorem ent_49 (w : World) : Calls Tryz.prog 58 #[.int .i64 49] w fun e w' => e = .returned (entV 49 ⟨#[48, 60]⟩ 1 1 1 false 0 0 0 (.func (.func 139) #[] #[])) /\ Below w.heap.size w w' := by
 obtain ⟨wA, hA, hb, hz⟩ := mk w
 go_enter Tryz.func58, Tryz.ntmps58
 go_wp2_with fail
 refine (of_49 _).mono ?_
 rintro e w1 ⟨rfl, h1⟩
 have hm := Made.of hb hz h1
 unfold entV
 go_wp2_with (refine wpList_store_row rfl 160 _ _ rfl w.heap.size _ rfl rfl 160 zE hm.blk (by exact sizeE) (by rfl) (by simp [Value.oneCell']) ?_)
 exact hm.done rfl rfl rfl
theorem of_50 (w : World) : Calls Tryz.prog 77 #[.int .i64 50] w fun e w' => e = .returned (entV 50 ⟨#[64]⟩ 1 1 2 false 0 0 0 (.func (.func 111) #[] #[])) /\ Below w.heap.size w w' := by
 obtain ⟨wA, hA, hb, hz⟩ := mk w
 go_enter Tryz.func77, Tryz.ntmps77
 go_wp2_with fail
 refine (row_any _ _ _ _ _ _).mono ?_
 rintro e w1 ⟨rfl, h1⟩
 have hm := Made.of hb hz h1
 unfold rowV
 go_wp2_with (refine wpList_store_row rfl 160 _ _ rfl w.heap.size _ rfl rfl 160 zE hm.blk (by exact sizeE) (by rfl) (by simp [Value.oneCell']) ?_)
 exact hm.done rfl rfl rfl
theorem ent_50 (w : World) : Calls Tryz.prog 58 #[.int .i64 50] w fun e w' => e = .returned (entV 50 ⟨#[64]⟩ 1 1 2 false 0 0 0 (.func (.func 111) #[] #[])) /\ Below w.heap.size w w' := by
 obtain ⟨wA, hA, hb, hz⟩ := mk w
 go_enter Tryz.func58, Tryz.ntmps58
 go_wp2_with fail
 refine (of_50 _).mono ?_
 rintro e w1 ⟨rfl, h1⟩
 have hm := Made.of hb hz h1
 unfold entV
 go_wp2_with (refine wpList_store_row rfl 160 _ _ rfl w.heap.size _ rfl rfl 160 zE hm.blk (by exact sizeE) (by rfl) (by simp [Value.oneCell']) ?_)
 exact hm.done rfl rfl rfl
theorem of_51 (w : World) : Calls Tryz.prog 77 #[.int .i64 51] w fun e w' => e = .returned (entV 51 ⟨#[33]⟩ 2 0 2 false 0 0 0 (.func (.func 113) #[] #[])) /\ Below w.heap.size w w' := by
 obtain ⟨wA, hA, hb, hz⟩ := mk w
 go_enter Tryz.func77, Tryz.ntmps77
 go_wp2_with fail
 refine (row_any _ _ _ _ _ _).mono ?_
 rintro e w1 ⟨rfl, h1⟩
 have hm := Made.of hb hz h1
 unfold rowV
 go_wp2_with (refine wpList_store_row rfl 160 _ _ rfl w.heap.size _ rfl rfl 160 zE hm.blk (by exact sizeE) (by rfl) (by simp [Value.oneCell']) ?_)
 exact hm.done rfl rfl rfl
theorem ent_51 (w : World) : Calls Tryz.prog 58 #[.int .i64 51] w fun e w' => e = .returned (entV 51 ⟨#[33]⟩ 2 0 2 false 0 0 0 (.func (.func 113) #[] #[])) /\ Below w.heap.size w w' := by
 obtain ⟨wA, hA, hb, hz⟩ := mk w
 go_enter Tryz.func58, Tryz.ntmps58
 go_wp2_with fail
 refine (of_51 _).mono ?_
 rintro e w1 ⟨rfl, h1⟩
 have hm := Made.of hb hz h1
 unfold entV
 go_wp2_with (refine wpList_store_row rfl 160 _ _ rfl w.heap.size _ rfl rfl 160 zE hm.blk (by exact sizeE) (by rfl) (by simp [Value.oneCell']) ?_)
 exact hm.done rfl rfl rfl
theorem of_52 (w : World) : Calls Tryz.prog 77 #[.int .i64 52] w fun e w' => e = .returned (entV 52 ⟨#[99, 64]⟩ 1 1 2 false 0 0 0 (.func (.func 115) #[] #[])) /\ Below w.heap.size w w' := by
 obtain ⟨wA, hA, hb, hz⟩ := mk w
 go_enter Tryz.func77, Tryz.ntmps77
 go_wp2_with fail
 refine (row_any _ _ _ _ _ _).mono ?_
 rintro e w1 ⟨rfl, h1⟩
 have hm := Made.of hb hz h1
 unfold rowV
 go_wp2_with (refine wpList_store_row rfl 160 _ _ rfl w.heap.size _ rfl rfl 160 zE hm.blk (by exact sizeE) (by rfl) (by simp [Value.oneCell']) ?_)
 exact hm.done rfl rfl rfl
theorem ent_52 (w : World) : Calls Tryz.prog 58 #[.int .i64 52] w fun e w' => e = .returned (entV 52 ⟨#[99, 64]⟩ 1 1 2 false 0 0 0 (.func (.func 115) #[] #[])) /\ Below w.heap.size w w' := by
 obtain ⟨wA, hA, hb, hz⟩ := mk w
 go_enter Tryz.func58, Tryz.ntmps58
 go_wp2_with fail
 refine (of_52 _).mono ?_
 rintro e w1 ⟨rfl, h1⟩
 have hm := Made.of hb hz h1
 unfold entV
 go_wp2_with (refine wpList_store_row rfl 160 _ _ rfl w.heap.size _ rfl rfl 160 zE hm.blk (by exact sizeE) (by rfl) (by simp [Value.oneCell']) ?_)
 exact hm.done rfl rfl rfl
theorem of_53 (w : World) : Calls Tryz.prog 77 #[.int .i64 53] w fun e w' => e = .returned (entV 53 ⟨#[99, 33]⟩ 2 0 2 false 0 0 0 (.func (.func 117) #[] #[])) /\ Below w.heap.size w w' := by
 obtain ⟨wA, hA, hb, hz⟩ := mk w
 go_enter Tryz.func77, Tryz.ntmps77
 go_wp2_with fail
 refine (row_any _ _ _ _ _ _).mono ?_
 rintro e w1 ⟨rfl, h1⟩
 have hm := Made.of hb hz h1
 unfold rowV
 go_wp2_with (refine wpList_store_row rfl 160 _ _ rfl w.heap.size _ rfl rfl 160 zE hm.blk (by exact sizeE) (by rfl) (by simp [Value.oneCell']) ?_)
 exact hm.done rfl rfl rfl
theorem ent_53 (w : World) : Calls Tryz.prog 58 #[.int .i64 53] w fun e w' => e = .returned (entV 53 ⟨#[99, 33]⟩ 2 0 2 false 0 0 0 (.func (.func 117) #[] #[])) /\ Below w.heap.size w w' := by
 obtain ⟨wA, hA, hb, hz⟩ := mk w
 go_enter Tryz.func58, Tryz.ntmps58
 go_wp2_with fail
 refine (of_53 _).mono ?_
 rintro e w1 ⟨rfl, h1⟩
 have hm := Made.of hb hz h1
 unfold entV
 go_wp2_with (refine wpList_store_row rfl 160 _ _ rfl w.heap.size _ rfl rfl 160 zE hm.blk (by exact sizeE) (by rfl) (by simp [Value.oneCell']) ?_)
 exact hm.done rfl rfl rfl
theorem of_54 (w : World) : Calls Tryz.prog 77 #[.int .i64 54] w fun e w' => e = .returned (entV 54 ⟨#[43, 33]⟩ 2 0 3 false 0 0 0 (.func (.func 119) #[] #[])) /\ Below w.heap.size w w' := by
 obtain ⟨wA, hA, hb, hz⟩ := mk w
 go_enter Tryz.func77, Tryz.ntmps77
 go_wp2_with fail
 refine (row_any _ _ _ _ _ _).mono ?_
 rintro e w1 ⟨rfl, h1⟩
 have hm := Made.of hb hz h1
 unfold rowV
 go_wp2_with (refine wpList_store_row rfl 160 _ _ rfl w.heap.size _ rfl rfl 160 zE hm.blk (by exact sizeE) (by rfl) (by simp [Value.oneCell']) ?_)
 exact hm.done rfl rfl rfl
theorem ent_54 (w : World) : Calls Tryz.prog 58 #[.int .i64 54] w fun e w' => e = .returned (entV 54 ⟨#[43, 33]⟩ 2 0 3 false 0 0 0 (.func (.func 119) #[] #[])) /\ Below w.heap.size w w' := by
 obtain ⟨wA, hA, hb, hz⟩ := mk w
 go_enter Tryz.func58, Tryz.ntmps58
 go_wp2_with fail
 refine (of_54 _).mono ?_
 rintro e w1 ⟨rfl, h1⟩
 have hm := Made.of hb hz h1
 unfold entV
 go_wp2_with (refine wpList_store_row rfl 160 _ _ rfl w.heap.size _ rfl rfl 160 zE hm.blk (by exact sizeE) (by rfl) (by simp [Value.oneCell']) ?_)
 exact hm.done rfl rfl rfl
theorem of_55 (w : World) : Calls Tryz.prog 78 #[.int .i64 55] w fun e w' => e = .returned (entV 55 ⟨#[62, 114]⟩ 1 0 1 false 0 0 1 (.func (.func 120) #[] #[])) /\ Below w.heap.size w w' := by
 obtain ⟨wA, hA, hb, hz⟩ := mk w
 go_enter Tryz.func78, Tryz.ntmps78
 go_wp2_with fail
 refine (row_any _ _ _ _ _ _).mono ?_
 rintro e w1 ⟨rfl, h1⟩
 have hm := Made.of hb hz h1
 unfold rowV
 go_wp2_with (refine wpList_store_row rfl 160 _ _ rfl w.heap.size _ rfl rfl 160 zE hm.blk (by exact sizeE) (by rfl) (by simp [Value.oneCell']) ?_)
 exact hm.done rfl rfl rfl
theorem ent_55 (w : World) : Calls Tryz.prog 58 #[.int .i64 55] w fun e w' => e = .returned (entV 55 ⟨#[62, 114]⟩ 1 0 1 false 0 0 1 (.func (.func 120) #[] #[])) /\ Below w.heap.size w w' := by
 obtain ⟨wA, hA, hb, hz⟩ := mk w
 go_enter Tryz.func58, Tryz.ntmps58
 go_wp2_with fail
 refine (of_55 _).mono ?_
 rintro e w1 ⟨rfl, h1⟩
 have hm := Made.of hb hz h1
 unfold entV
 go_wp2_with (refine wpList_store_row rfl 160 _ _ rfl w.heap.size _ rfl rfl 160 zE hm.blk (by exact sizeE) (by rfl) (by simp [Value.oneCell']) ?_)
 exact hm.done rfl rfl rfl
theorem of_56 (w : World) : Calls Tryz.prog 78 #[.int .i64 56] w fun e w' => e = .returned (entV 56 ⟨#[114, 62]⟩ 0 1 1 false 4 0 0 (.func (.func 121) #[] #[])) /\ Below w.heap.size w w' := by
 obtain ⟨wA, hA, hb, hz⟩ := mk w
 go_enter Tryz.func78, Tryz.ntmps78
 go_wp2_with fail
 refine (row_any _ _ _ _ _ _).mono ?_
 rintro e w1 ⟨rfl, h1⟩
 have hm := Made.of hb hz h1
 unfold rowV
 go_wp2_with (refine wpList_store_row rfl 160 _ _ rfl w.heap.size _ rfl rfl 160 zE hm.blk (by exact sizeE) (by rfl) (by simp [Value.oneCell']) ?_)
 exact hm.done rfl rfl rfl
theorem ent_56 (w : World) : Calls Tryz.prog 58 #[.int .i64 56] w fun e w' => e = .returned (entV 56 ⟨#[114, 62]⟩ 0 1 1 false 4 0 0 (.func (.func 121) #[] #[])) /\ Below w.heap.size w w' := by
 obtain ⟨wA, hA, hb, hz⟩ := mk w
 go_enter Tryz.func58, Tryz.ntmps58
 go_wp2_with fail
 refine (of_56 _).mono ?_
 rintro e w1 ⟨rfl, h1⟩
 have hm := Made.of hb hz h1
 unfold entV
 go_wp2_with (refine wpList_store_row rfl 160 _ _ rfl w.heap.size _ rfl rfl 160 zE hm.blk (by exact sizeE) (by rfl) (by simp [Value.oneCell']) ?_)
 exact hm.done rfl rfl rfl
theorem of_57 (w : World) : Calls Tryz.prog 78 #[.int .i64 57] w fun e w' => e = .returned (entV 57 ⟨#[114, 64]⟩ 0 1 1 false 4 0 0 (.func (.func 144) #[] #[])) /\ Below w.heap.size w w' := by
 obtain ⟨wA, hA, hb, hz⟩ := mk w
 go_enter Tryz.func78, Tryz.ntmps78
 go_wp2_with fail
 refine (peek_any _ _ _ _ _).mono ?_
 rintro e w1 ⟨rfl, h1⟩
 have hm := Made.of hb hz h1
 unfold entV
 go_wp2_with (refine wpList_store_row rfl 160 _ _ rfl w.heap.size _ rfl rfl 160 zE hm.blk (by exact sizeE) (by rfl) (by simp [Value.oneCell']) ?_)
 exact hm.done rfl rfl rfl
theorem ent_57 (w : World) : Calls Tryz.prog 58 #[.int .i64 57] w fun e w' => e = .returned (entV 57 ⟨#[114, 64]⟩ 0 1 1 false 4 0 0 (.func (.func 144) #[] #[])) /\ Below w.heap.size w w' := by
 obtain ⟨wA, hA, hb, hz⟩ := mk w
 go_enter Tryz.func58, Tryz.ntmps58
 go_wp2_with fail
 refine (of_57 _).mono ?_
 rintro e w1 ⟨rfl, h1⟩
 have hm := Made.of hb hz h1
 unfold entV
 go_wp2_with (refine wpList_store_row rfl 160 _ _ rfl w.heap.size _ rfl rfl 160 zE hm.blk (by exact sizeE) (by rfl) (by simp [Value.oneCell']) ?_)
 exact hm.done rfl rfl rfl
theorem of_58 (w : World) : Calls Tryz.prog 78 #[.int .i64 58] w fun e w' => e = .returned (entV 58 ⟨#[105]⟩ 0 1 1 false 3 0 0 (.func (.func 144) #[] #[])) /\ Below w.heap.size w w' := by
 obtain ⟨wA, hA, hb, hz⟩ := mk w
 go_enter Tryz.func78, Tryz.ntmps78
 go_wp2_with fail
 refine (peek_any _ _ _ _ _).mono ?_
 rintro e w1 ⟨rfl, h1⟩
 have hm := Made.of hb hz h1
 unfold entV
 go_wp2_with (refine wpList_store_row rfl 160 _ _ rfl w.heap.size _ rfl rfl 160 zE hm.blk (by exact sizeE) (by rfl) (by simp [Value.oneCell']) ?_)
 exact hm.done rfl rfl rfl
theorem ent_58 (w : World) : Calls Tryz.prog 58 #[.int .i64 58] w fun e w' => e = .returned (entV 58 ⟨#[105]⟩ 0 1 1 false 3 0 0 (.func (.func 144) #[] #[])) /\ Below w.heap.size w w' := by
 obtain ⟨wA, hA, hb, hz⟩ := mk w
 go_enter Tryz.func58, Tryz.ntmps58
 go_wp2_with fail
 refine (of_58 _).mono ?_
 rintro e w1 ⟨rfl, h1⟩
 have hm := Made.of hb hz h1
 unfold entV
 go_wp2_with (refine wpList_store_row rfl 160 _ _ rfl w.heap.size _ rfl rfl 160 zE hm.blk (by exact sizeE) (by rfl) (by simp [Value.oneCell']) ?_)
 exact hm.done rfl rfl rfl
theorem of_59 (w : World) : Calls Tryz.prog 78 #[.int .i64 59] w fun e w' => e = .returned (entV 59 ⟨#[106]⟩ 0 1 1 false 3 2 0 (.func (.func 144) #[] #[])) /\ Below w.heap.size w w' := by
 obtain ⟨wA, hA, hb, hz⟩ := mk w
 go_enter Tryz.func78, Tryz.ntmps78
 go_wp2_with fail
 refine (peek_any _ _ _ _ _).mono ?_
 rintro e w1 ⟨rfl, h1⟩
 have hm := Made.of hb hz h1
 unfold entV
 go_wp2_with (refine wpList_store_row rfl 160 _ _ rfl w.heap.size _ rfl rfl 160 zE hm.blk (by exact sizeE) (by rfl) (by simp [Value.oneCell']) ?_)
 exact hm.done rfl rfl rfl
theorem ent_59 (w : World) : Calls Tryz.prog 58 #[.int .i64 59] w fun e w' => e = .returned (entV 59 ⟨#[106]⟩ 0 1 1 false 3 2 0 (.func (.func 144) #[] #[])) /\ Below w.heap.size w w' := by
 obtain ⟨wA, hA, hb, hz⟩ := mk w
 go_enter Tryz.func58, Tryz.ntmps58
 go_wp2_with fail
 refine (of_59 _).mono ?_
 rintro e w1 ⟨rfl, h1⟩
 have hm := Made.of hb hz h1
 unfold entV
 go_wp2_with (refine wpList_store_row rfl 160 _ _ rfl w.heap.size _ rfl rfl 160 zE hm.blk (by exact sizeE) (by rfl) (by simp [Value.oneCell']) ?_)
 exact hm.done rfl rfl rfl
theorem of_60 (w : World) : Calls Tryz.prog 79 #[.int .i64 60] w fun e w' => e = .returned (entV 60 ⟨#[112, 108, 111, 116]⟩ 3 0 3 false 0 0 0 (.func (.func 123) #[] #[])) /\ Below w.heap.size w w' := by
 obtain ⟨wA, hA, hb, hz⟩ := mk w
 go_enter Tryz.func79, Tryz.ntmps79
 go_wp2_with fail
 refine (row_any _ _ _ _ _ _).mono ?_
 rintro e w1 ⟨rfl, h1⟩
 have hm := Made.of hb hz h1
 unfold rowV
 go_wp2_with (refine wpList_store_row rfl 160 _ _ rfl w.heap.size _ rfl rfl 160 zE hm.blk (by exact sizeE) (by rfl) (by simp [Value.oneCell']) ?_)
 exact hm.done rfl rfl rfl
theorem ent_60 (w : World) : Calls Tryz.prog 58 #[.int .i64 60] w fun e w' => e = .returned (entV 60 ⟨#[112, 108, 111, 116]⟩ 3 0 3 false 0 0 0 (.func (.func 123) #[] #[])) /\ Below w.heap.size w w' := by
 obtain ⟨wA, hA, hb, hz⟩ := mk w
 go_enter Tryz.func58, Tryz.ntmps58
 go_wp2_with fail
 refine (of_60 _).mono ?_
 rintro e w1 ⟨rfl, h1⟩
 have hm := Made.of hb hz h1
 unfold entV
 go_wp2_with (refine wpList_store_row rfl 160 _ _ rfl w.heap.size _ rfl rfl 160 zE hm.blk (by exact sizeE) (by rfl) (by simp [Value.oneCell']) ?_)
 exact hm.done rfl rfl rfl
theorem of_61 (w : World) : Calls Tryz.prog 79 #[.int .i64 61] w fun e w' => e = .returned (entV 61 ⟨#[112, 97, 100]⟩ 0 1 1 false 0 0 0 (.func (.func 125) #[] #[])) /\ Below w.heap.size w w' := by
 obtain ⟨wA, hA, hb, hz⟩ := mk w
 go_enter Tryz.func79, Tryz.ntmps79
 go_wp2_with fail
 refine (row_any _ _ _ _ _ _).mono ?_
 rintro e w1 ⟨rfl, h1⟩
 have hm := Made.of hb hz h1
 unfold rowV
 go_wp2_with (refine wpList_store_row rfl 160 _ _ rfl w.heap.size _ rfl rfl 160 zE hm.blk (by exact sizeE) (by rfl) (by simp [Value.oneCell']) ?_)
 exact hm.done rfl rfl rfl
theorem ent_61 (w : World) : Calls Tryz.prog 58 #[.int .i64 61] w fun e w' => e = .returned (entV 61 ⟨#[112, 97, 100]⟩ 0 1 1 false 0 0 0 (.func (.func 125) #[] #[])) /\ Below w.heap.size w w' := by
 obtain ⟨wA, hA, hb, hz⟩ := mk w
 go_enter Tryz.func58, Tryz.ntmps58
 go_wp2_with fail
 refine (of_61 _).mono ?_
 rintro e w1 ⟨rfl, h1⟩
 have hm := Made.of hb hz h1
 unfold entV
 go_wp2_with (refine wpList_store_row rfl 160 _ _ rfl w.heap.size _ rfl rfl 160 zE hm.blk (by exact sizeE) (by rfl) (by simp [Value.oneCell']) ?_)
 exact hm.done rfl rfl rfl
theorem of_62 (w : World) : Calls Tryz.prog 79 #[.int .i64 62] w fun e w' => e = .returned (entV 62 ⟨#[116, 111, 110, 101]⟩ 2 0 2 false 0 0 0 (.func (.func 127) #[] #[])) /\ Below w.heap.size w w' := by
 obtain ⟨wA, hA, hb, hz⟩ := mk w
 go_enter Tryz.func79, Tryz.ntmps79
 go_wp2_with fail
 refine (row_any _ _ _ _ _ _).mono ?_
 rintro e w1 ⟨rfl, h1⟩
 have hm := Made.of hb hz h1
 unfold rowV
 go_wp2_with (refine wpList_store_row rfl 160 _ _ rfl w.heap.size _ rfl rfl 160 zE hm.blk (by exact sizeE) (by rfl) (by simp [Value.oneCell']) ?_)
 exact hm.done rfl rfl rfl
theorem ent_62 (w : World) : Calls Tryz.prog 58 #[.int .i64 62] w fun e w' => e = .returned (entV 62 ⟨#[116, 111, 110, 101]⟩ 2 0 2 false 0 0 0 (.func (.func 127) #[] #[])) /\ Below w.heap.size w w' := by
 obtain ⟨wA, hA, hb, hz⟩ := mk w
 go_enter Tryz.func58, Tryz.ntmps58
 go_wp2_with fail
 refine (of_62 _).mono ?_
 rintro e w1 ⟨rfl, h1⟩
 have hm := Made.of hb hz h1
 unfold entV
 go_wp2_with (refine wpList_store_row rfl 160 _ _ rfl w.heap.size _ rfl rfl 160 zE hm.blk (by exact sizeE) (by rfl) (by simp [Value.oneCell']) ?_)
 exact hm.done rfl rfl rfl
theorem of_63 (w : World) : Calls Tryz.prog 79 #[.int .i64 63] w fun e w' => e = .returned (entV 63 ⟨#[98, 97, 110, 107]⟩ 1 0 1 false 0 0 0 (.func (.func 129) #[] #[])) /\ Below w.heap.size w w' := by
 obtain ⟨wA, hA, hb, hz⟩ := mk w
 go_enter Tryz.func79, Tryz.ntmps79
 go_wp2_with fail
 refine (row_any _ _ _ _ _ _).mono ?_
 rintro e w1 ⟨rfl, h1⟩
 have hm := Made.of hb hz h1
 unfold rowV
 go_wp2_with (refine wpList_store_row rfl 160 _ _ rfl w.heap.size _ rfl rfl 160 zE hm.blk (by exact sizeE) (by rfl) (by simp [Value.oneCell']) ?_)
 exact hm.done rfl rfl rfl
theorem ent_63 (w : World) : Calls Tryz.prog 58 #[.int .i64 63] w fun e w' => e = .returned (entV 63 ⟨#[98, 97, 110, 107]⟩ 1 0 1 false 0 0 0 (.func (.func 129) #[] #[])) /\ Below w.heap.size w w' := by
 obtain ⟨wA, hA, hb, hz⟩ := mk w
 go_enter Tryz.func58, Tryz.ntmps58
 go_wp2_with fail
 refine (of_63 _).mono ?_
 rintro e w1 ⟨rfl, h1⟩
 have hm := Made.of hb hz h1
 unfold entV
 go_wp2_with (refine wpList_store_row rfl 160 _ _ rfl w.heap.size _ rfl rfl 160 zE hm.blk (by exact sizeE) (by rfl) (by simp [Value.oneCell']) ?_)
 exact hm.done rfl rfl rfl
set_option maxHeartbeats 1000000
set_option maxRecDepth 100000
theorem of_1 (w : World) : Calls Tryz.prog 73 #[.int .i64 1] w fun e w' => e = .returned (entV 1 ⟨#[]⟩ 0 0 2 false 0 0 0 .nilFunc) /\ Below w.heap.size w w' := by
 obtain ⟨wA, hA, hb, hz⟩ := mk w
 go_enter Tryz.func73, Tryz.ntmps73
 go_wp2_with fail
 refine (row_any _ _ _ _ _ _).mono ?_
 rintro e w1 ⟨rfl, h1⟩
 have hm := Made.of hb hz h1
 unfold rowV
 go_wp2_with (refine wpList_store_row rfl 160 _ _ rfl w.heap.size _ rfl rfl 160 zE hm.blk (by exact sizeE) (by rfl) (by simp [Value.oneCell']) ?_)
 exact hm.done rfl rfl rfl
theorem ent_1 (w : World) : Calls Tryz.prog 58 #[.int .i64 1] w fun e w' => e = .returned (entV 1 ⟨#[]⟩ 0 0 2 false 0 0 0 .nilFunc) /\ Below w.heap.size w w' := by
 obtain ⟨wA, hA, hb, hz⟩ := mk w
 go_enter Tryz.func58, Tryz.ntmps58
 go_wp2_with fail
 refine (of_1 _).mono ?_
 rintro e w1 ⟨rfl, h1⟩
 have hm := Made.of hb hz h1
 unfold entV
 go_wp2_with (refine wpList_store_row rfl 160 _ _ rfl w.heap.size _ rfl rfl 160 zE hm.blk (by exact sizeE) (by rfl) (by simp [Value.oneCell']) ?_)
 exact hm.done rfl rfl rfl
theorem of_2 (w : World) : Calls Tryz.prog 73 #[.int .i64 2] w fun e w' => e = .returned (entV 2 ⟨#[]⟩ 0 1 2 false 0 0 0 .nilFunc) /\ Below w.heap.size w w' := by
 obtain ⟨wA, hA, hb, hz⟩ := mk w
 go_enter Tryz.func73, Tryz.ntmps73
 go_wp2_with fail
 refine (row_any _ _ _ _ _ _).mono ?_
 rintro e w1 ⟨rfl, h1⟩
 have hm := Made.of hb hz h1
 unfold rowV
 go_wp2_with (refine wpList_store_row rfl 160 _ _ rfl w.heap.size _ rfl rfl 160 zE hm.blk (by exact sizeE) (by rfl) (by simp [Value.oneCell']) ?_)
 exact hm.done rfl rfl rfl
theorem ent_2 (w : World) : Calls Tryz.prog 58 #[.int .i64 2] w fun e w' => e = .returned (entV 2 ⟨#[]⟩ 0 1 2 false 0 0 0 .nilFunc) /\ Below w.heap.size w w' := by
 obtain ⟨wA, hA, hb, hz⟩ := mk w
 go_enter Tryz.func58, Tryz.ntmps58
 go_wp2_with fail
 refine (of_2 _).mono ?_
 rintro e w1 ⟨rfl, h1⟩
 have hm := Made.of hb hz h1
 unfold entV
 go_wp2_with (refine wpList_store_row rfl 160 _ _ rfl w.heap.size _ rfl rfl 160 zE hm.blk (by exact sizeE) (by rfl) (by simp [Value.oneCell']) ?_)
 exact hm.done rfl rfl rfl
theorem of_3 (w : World) : Calls Tryz.prog 73 #[.int .i64 3] w fun e w' => e = .returned (entV 3 ⟨#[]⟩ 0 1 2 true 0 0 0 .nilFunc) /\ Below w.heap.size w w' := by
 obtain ⟨wA, hA, hb, hz⟩ := mk w
 go_enter Tryz.func73, Tryz.ntmps73
 go_wp2_with fail
 refine (withOperand_any _ _ _ _ _).mono ?_
 rintro e w1 ⟨rfl, h1⟩
 have hm := Made.of hb hz h1
 unfold entV
 go_wp2_with (refine wpList_store_row rfl 160 _ _ rfl w.heap.size _ rfl rfl 160 zE hm.blk (by exact sizeE) (by rfl) (by simp [Value.oneCell']) ?_)
 exact hm.done rfl rfl rfl
theorem ent_3 (w : World) : Calls Tryz.prog 58 #[.int .i64 3] w fun e w' => e = .returned (entV 3 ⟨#[]⟩ 0 1 2 true 0 0 0 .nilFunc) /\ Below w.heap.size w w' := by
 obtain ⟨wA, hA, hb, hz⟩ := mk w
 go_enter Tryz.func58, Tryz.ntmps58
 go_wp2_with fail
 refine (of_3 _).mono ?_
 rintro e w1 ⟨rfl, h1⟩
 have hm := Made.of hb hz h1
 unfold entV
 go_wp2_with (refine wpList_store_row rfl 160 _ _ rfl w.heap.size _ rfl rfl 160 zE hm.blk (by exact sizeE) (by rfl) (by simp [Value.oneCell']) ?_)
 exact hm.done rfl rfl rfl
theorem of_4 (w : World) : Calls Tryz.prog 73 #[.int .i64 4] w fun e w' => e = .returned (entV 4 ⟨#[]⟩ 0 0 2 true 0 0 0 .nilFunc) /\ Below w.heap.size w w' := by
 obtain ⟨wA, hA, hb, hz⟩ := mk w
 go_enter Tryz.func73, Tryz.ntmps73
 go_wp2_with fail
 refine (withOperand_any _ _ _ _ _).mono ?_
 rintro e w1 ⟨rfl, h1⟩
 have hm := Made.of hb hz h1
 unfold entV
 go_wp2_with (refine wpList_store_row rfl 160 _ _ rfl w.heap.size _ rfl rfl 160 zE hm.blk (by exact sizeE) (by rfl) (by simp [Value.oneCell']) ?_)
 exact hm.done rfl rfl rfl
theorem ent_4 (w : World) : Calls Tryz.prog 58 #[.int .i64 4] w fun e w' => e = .returned (entV 4 ⟨#[]⟩ 0 0 2 true 0 0 0 .nilFunc) /\ Below w.heap.size w w' := by
 obtain ⟨wA, hA, hb, hz⟩ := mk w
 go_enter Tryz.func58, Tryz.ntmps58
 go_wp2_with fail
 refine (of_4 _).mono ?_
 rintro e w1 ⟨rfl, h1⟩
 have hm := Made.of hb hz h1
 unfold entV
 go_wp2_with (refine wpList_store_row rfl 160 _ _ rfl w.heap.size _ rfl rfl 160 zE hm.blk (by exact sizeE) (by rfl) (by simp [Value.oneCell']) ?_)
 exact hm.done rfl rfl rfl
theorem of_5 (w : World) : Calls Tryz.prog 73 #[.int .i64 5] w fun e w' => e = .returned (entV 5 ⟨#[]⟩ 1 0 2 true 0 0 0 .nilFunc) /\ Below w.heap.size w w' := by
 obtain ⟨wA, hA, hb, hz⟩ := mk w
 go_enter Tryz.func73, Tryz.ntmps73
 go_wp2_with fail
 refine (withOperand_any _ _ _ _ _).mono ?_
 rintro e w1 ⟨rfl, h1⟩
 have hm := Made.of hb hz h1
 unfold entV
 go_wp2_with (refine wpList_store_row rfl 160 _ _ rfl w.heap.size _ rfl rfl 160 zE hm.blk (by exact sizeE) (by rfl) (by simp [Value.oneCell']) ?_)
 exact hm.done rfl rfl rfl
theorem ent_5 (w : World) : Calls Tryz.prog 58 #[.int .i64 5] w fun e w' => e = .returned (entV 5 ⟨#[]⟩ 1 0 2 true 0 0 0 .nilFunc) /\ Below w.heap.size w w' := by
 obtain ⟨wA, hA, hb, hz⟩ := mk w
 go_enter Tryz.func58, Tryz.ntmps58
 go_wp2_with fail
 refine (of_5 _).mono ?_
 rintro e w1 ⟨rfl, h1⟩
 have hm := Made.of hb hz h1
 unfold entV
 go_wp2_with (refine wpList_store_row rfl 160 _ _ rfl w.heap.size _ rfl rfl 160 zE hm.blk (by exact sizeE) (by rfl) (by simp [Value.oneCell']) ?_)
 exact hm.done rfl rfl rfl
theorem of_6 (w : World) : Calls Tryz.prog 73 #[.int .i64 6] w fun e w' => e = .returned (entV 6 ⟨#[]⟩ 2 0 3 false 0 0 2 (.func (.func 96) #[] #[])) /\ Below w.heap.size w w' := by
 obtain ⟨wA, hA, hb, hz⟩ := mk w
 go_enter Tryz.func73, Tryz.ntmps73
 go_wp2_with fail
 refine (row_any _ _ _ _ _ _).mono ?_
 rintro e w1 ⟨rfl, h1⟩
 have hm := Made.of hb hz h1
 unfold rowV
 go_wp2_with (refine wpList_store_row rfl 160 _ _ rfl w.heap.size _ rfl rfl 160 zE hm.blk (by exact sizeE) (by rfl) (by simp [Value.oneCell']) ?_)
 exact hm.done rfl rfl rfl
theorem ent_6 (w : World) : Calls Tryz.prog 58 #[.int .i64 6] w fun e w' => e = .returned (entV 6 ⟨#[]⟩ 2 0 3 false 0 0 2 (.func (.func 96) #[] #[])) /\ Below w.heap.size w w' := by
 obtain ⟨wA, hA, hb, hz⟩ := mk w
 go_enter Tryz.func58, Tryz.ntmps58
 go_wp2_with fail
 refine (of_6 _).mono ?_
 rintro e w1 ⟨rfl, h1⟩
 have hm := Made.of hb hz h1
 unfold entV
 go_wp2_with (refine wpList_store_row rfl 160 _ _ rfl w.heap.size _ rfl rfl 160 zE hm.blk (by exact sizeE) (by rfl) (by simp [Value.oneCell']) ?_)
 exact hm.done rfl rfl rfl
theorem of_7 (w : World) : Calls Tryz.prog 73 #[.int .i64 7] w fun e w' => e = .returned (entV 7 ⟨#[]⟩ 0 0 3 true 0 0 0 .nilFunc) /\ Below w.heap.size w w' := by
 obtain ⟨wA, hA, hb, hz⟩ := mk w
 go_enter Tryz.func73, Tryz.ntmps73
 go_wp2_with fail
 refine (withOperand_any _ _ _ _ _).mono ?_
 rintro e w1 ⟨rfl, h1⟩
 have hm := Made.of hb hz h1
 unfold entV
 go_wp2_with (refine wpList_store_row rfl 160 _ _ rfl w.heap.size _ rfl rfl 160 zE hm.blk (by exact sizeE) (by rfl) (by simp [Value.oneCell']) ?_)
 exact hm.done rfl rfl rfl
theorem ent_7 (w : World) : Calls Tryz.prog 58 #[.int .i64 7] w fun e w' => e = .returned (entV 7 ⟨#[]⟩ 0 0 3 true 0 0 0 .nilFunc) /\ Below w.heap.size w w' := by
 obtain ⟨wA, hA, hb, hz⟩ := mk w
 go_enter Tryz.func58, Tryz.ntmps58
 go_wp2_with fail
 refine (of_7 _).mono ?_
 rintro e w1 ⟨rfl, h1⟩
 have hm := Made.of hb hz h1
 unfold entV
 go_wp2_with (refine wpList_store_row rfl 160 _ _ rfl w.heap.size _ rfl rfl 160 zE hm.blk (by exact sizeE) (by rfl) (by simp [Value.oneCell']) ?_)
 exact hm.done rfl rfl rfl
theorem of_8 (w : World) : Calls Tryz.prog 73 #[.int .i64 8] w fun e w' => e = .returned (entV 8 ⟨#[]⟩ 0 0 2 false 0 0 0 .nilFunc) /\ Below w.heap.size w w' := by
 obtain ⟨wA, hA, hb, hz⟩ := mk w
 go_enter Tryz.func73, Tryz.ntmps73
 go_wp2_with fail
 refine (row_any _ _ _ _ _ _).mono ?_
 rintro e w1 ⟨rfl, h1⟩
 have hm := Made.of hb hz h1
 unfold rowV
 go_wp2_with (refine wpList_store_row rfl 160 _ _ rfl w.heap.size _ rfl rfl 160 zE hm.blk (by exact sizeE) (by rfl) (by simp [Value.oneCell']) ?_)
 exact hm.done rfl rfl rfl
theorem ent_8 (w : World) : Calls Tryz.prog 58 #[.int .i64 8] w fun e w' => e = .returned (entV 8 ⟨#[]⟩ 0 0 2 false 0 0 0 .nilFunc) /\ Below w.heap.size w w' := by
 obtain ⟨wA, hA, hb, hz⟩ := mk w
 go_enter Tryz.func58, Tryz.ntmps58
 go_wp2_with fail
 refine (of_8 _).mono ?_
 rintro e w1 ⟨rfl, h1⟩
 have hm := Made.of hb hz h1
 unfold entV
 go_wp2_with (refine wpList_store_row rfl 160 _ _ rfl w.heap.size _ rfl rfl 160 zE hm.blk (by exact sizeE) (by rfl) (by simp [Value.oneCell']) ?_)
 exact hm.done rfl rfl rfl
theorem of_9 (w : World) : Calls Tryz.prog 73 #[.int .i64 9] w fun e w' => e = .returned (entV 9 ⟨#[110, 111, 112]⟩ 0 0 1 false 0 0 0 (.func (.func 98) #[] #[])) /\ Below w.heap.size w w' := by
 obtain ⟨wA, hA, hb, hz⟩ := mk w
 go_enter Tryz.func73, Tryz.ntmps73
 go_wp2_with fail
 refine (row_any _ _ _ _ _ _).mono ?_
 rintro e w1 ⟨rfl, h1⟩
 have hm := Made.of hb hz h1
 unfold rowV
 go_wp2_with (refine wpList_store_row rfl 160 _ _ rfl w.heap.size _ rfl rfl 160 zE hm.blk (by exact sizeE) (by rfl) (by simp [Value.oneCell']) ?_)
 exact hm.done rfl rfl rfl
theorem ent_9 (w : World) : Calls Tryz.prog 58 #[.int .i64 9] w fun e w' => e = .returned (entV 9 ⟨#[110, 111, 112]⟩ 0 0 1 false 0 0 0 (.func (.func 98) #[] #[])) /\ Below w.heap.size w w' := by
 obtain ⟨wA, hA, hb, hz⟩ := mk w
 go_enter Tryz.func58, Tryz.ntmps58
 go_wp2_with fail
 refine (of_9 _).mono ?_
 rintro e w1 ⟨rfl, h1⟩
 have hm := Made.of hb hz h1
 unfold entV
 go_wp2_with (refine wpList_store_row rfl 160 _ _ rfl w.heap.size _ rfl rfl 160 zE hm.blk (by exact sizeE) (by rfl) (by simp [Value.oneCell']) ?_)
 exact hm.done rfl rfl rfl
theorem of_10 (w : World) : Calls Tryz.prog 73 #[.int .i64 10] w fun e w' => e = .returned (entV 10 ⟨#[121, 105, 101, 108, 100]⟩ 0 0 1 false 0 0 0 .nilFunc) /\ Below w.heap.size w w' := by
 obtain ⟨wA, hA, hb, hz⟩ := mk w
 go_enter Tryz.func73, Tryz.ntmps73
 go_wp2_with fail
 refine (row_any _ _ _ _ _ _).mono ?_
 rintro e w1 ⟨rfl, h1⟩
 have hm := Made.of hb hz h1
 unfold rowV
 go_wp2_with (refine wpList_store_row rfl 160 _ _ rfl w.heap.size _ rfl rfl 160 zE hm.blk (by exact sizeE) (by rfl) (by simp [Value.oneCell']) ?_)
 exact hm.done rfl rfl rfl
theorem ent_10 (w : World) : Calls Tryz.prog 58 #[.int .i64 10] w fun e w' => e = .returned (entV 10 ⟨#[121, 105, 101, 108, 100]⟩ 0 0 1 false 0 0 0 .nilFunc) /\ Below w.heap.size w w' := by
 obtain ⟨wA, hA, hb, hz⟩ := mk w
 go_enter Tryz.func58, Tryz.ntmps58
 go_wp2_with fail
 refine (of_10 _).mono ?_
 rintro e w1 ⟨rfl, h1⟩
 have hm := Made.of hb hz h1
 unfold entV
 go_wp2_with (refine wpList_store_row rfl 160 _ _ rfl w.heap.size _ rfl rfl 160 zE hm.blk (by exact sizeE) (by rfl) (by simp [Value.oneCell']) ?_)
 exact hm.done rfl rfl rfl
theorem of_11 (w : World) : Calls Tryz.prog 73 #[.int .i64 11] w fun e w' => e = .returned (entV 11 ⟨#[104, 97, 108, 116]⟩ 0 0 1 false 0 0 0 .nilFunc) /\ Below w.heap.size w w' := by
 obtain ⟨wA, hA, hb, hz⟩ := mk w
 go_enter Tryz.func73, Tryz.ntmps73
 go_wp2_with fail
 refine (row_any _ _ _ _ _ _).mono ?_
 rintro e w1 ⟨rfl, h1⟩
 have hm := Made.of hb hz h1
 unfold rowV
 go_wp2_with (refine wpList_store_row rfl 160 _ _ rfl w.heap.size _ rfl rfl 160 zE hm.blk (by exact sizeE) (by rfl) (by simp [Value.oneCell']) ?_)
 exact hm.done rfl rfl rfl
theorem ent_11 (w : World) : Calls Tryz.prog 58 #[.int .i64 11] w fun e w' => e = .returned (entV 11 ⟨#[104, 97, 108, 116]⟩ 0 0 1 false 0 0 0 .nilFunc) /\ Below w.heap.size w w' := by
 obtain ⟨wA, hA, hb, hz⟩ := mk w
 go_enter Tryz.func58, Tryz.ntmps58
 go_wp2_with fail
 refine (of_11 _).mono ?_
 rintro e w1 ⟨rfl, h1⟩
 have hm := Made.of hb hz h1
 unfold entV
 go_wp2_with (refine wpList_store_row rfl 160 _ _ rfl w.heap.size _ rfl rfl 160 zE hm.blk (by exact sizeE) (by rfl) (by simp [Value.oneCell']) ?_)
 exact hm.done rfl rfl rfl
theorem of_12 (w : World) : Calls Tryz.prog 74 #[.int .i64 12] w fun e w' => e = .returned (entV 12 ⟨#[100, 117, 112]⟩ 1 2 1 false 0 0 0 (.func (.func 99) #[] #[])) /\ Below w.heap.size w w' := by
 obtain ⟨wA, hA, hb, hz⟩ := mk w
 go_enter Tryz.func74, Tryz.ntmps74
 go_wp2_with fail
 refine (row_any _ _ _ _ _ _).mono ?_
 rintro e w1 ⟨rfl, h1⟩
 have hm := Made.of hb hz h1
 unfold rowV
 go_wp2_with (refine wpList_store_row rfl 160 _ _ rfl w.heap.size _ rfl rfl 160 zE hm.blk (by exact sizeE) (by rfl) (by simp [Value.oneCell']) ?_)
 exact hm.done rfl rfl rfl
theorem ent_12 (w : World) : Calls Tryz.prog 58 #[.int .i64 12] w fun e w' => e = .returned (entV 12 ⟨#[100, 117, 112]⟩ 1 2 1 false 0 0 0 (.func (.func 99) #[] #[])) /\ Below w.heap.size w w' := by
 obtain ⟨wA, hA, hb, hz⟩ := mk w
 go_enter Tryz.func58, Tryz.ntmps58
 go_wp2_with fail
 refine (of_12 _).mono ?_
 rintro e w1 ⟨rfl, h1⟩
 have hm := Made.of hb hz h1
 unfold entV
 go_wp2_with (refine wpList_store_row rfl 160 _ _ rfl w.heap.size _ rfl rfl 160 zE hm.blk (by exact sizeE) (by rfl) (by simp [Value.oneCell']) ?_)
 exact hm.done rfl rfl rfl
theorem of_13 (w : World) : Calls Tryz.prog 74 #[.int .i64 13] w fun e w' => e = .returned (entV 13 ⟨#[100, 114, 111, 112]⟩ 1 0 1 false 0 0 0 (.func (.func 101) #[] #[])) /\ Below w.heap.size w w' := by
 obtain ⟨wA, hA, hb, hz⟩ := mk w
 go_enter Tryz.func74, Tryz.ntmps74
 go_wp2_with fail
 refine (row_any _ _ _ _ _ _).mono ?_
 rintro e w1 ⟨rfl, h1⟩
 have hm := Made.of hb hz h1
 unfold rowV
 go_wp2_with (refine wpList_store_row rfl 160 _ _ rfl w.heap.size _ rfl rfl 160 zE hm.blk (by exact sizeE) (by rfl) (by simp [Value.oneCell']) ?_)
 exact hm.done rfl rfl rfl
theorem ent_13 (w : World) : Calls Tryz.prog 58 #[.int .i64 13] w fun e w' => e = .returned (entV 13 ⟨#[100, 114, 111, 112]⟩ 1 0 1 false 0 0 0 (.func (.func 101) #[] #[])) /\ Below w.heap.size w w' := by
 obtain ⟨wA, hA, hb, hz⟩ := mk w
 go_enter Tryz.func58, Tryz.ntmps58
 go_wp2_with fail
 refine (of_13 _).mono ?_
 rintro e w1 ⟨rfl, h1⟩
 have hm := Made.of hb hz h1
 unfold entV
 go_wp2_with (refine wpList_store_row rfl 160 _ _ rfl w.heap.size _ rfl rfl 160 zE hm.blk (by exact sizeE) (by rfl) (by simp [Value.oneCell']) ?_)
 exact hm.done rfl rfl rfl
theorem of_14 (w : World) : Calls Tryz.prog 74 #[.int .i64 14] w fun e w' => e = .returned (entV 14 ⟨#[115, 119, 97, 112]⟩ 2 2 1 false 0 0 0 (.func (.func 102) #[] #[])) /\ Below w.heap.size w w' := by
 obtain ⟨wA, hA, hb, hz⟩ := mk w
 go_enter Tryz.func74, Tryz.ntmps74
 go_wp2_with fail
 refine (row_any _ _ _ _ _ _).mono ?_
 rintro e w1 ⟨rfl, h1⟩
 have hm := Made.of hb hz h1
 unfold rowV
 go_wp2_with (refine wpList_store_row rfl 160 _ _ rfl w.heap.size _ rfl rfl 160 zE hm.blk (by exact sizeE) (by rfl) (by simp [Value.oneCell']) ?_)
 exact hm.done rfl rfl rfl
theorem ent_14 (w : World) : Calls Tryz.prog 58 #[.int .i64 14] w fun e w' => e = .returned (entV 14 ⟨#[115, 119, 97, 112]⟩ 2 2 1 false 0 0 0 (.func (.func 102) #[] #[])) /\ Below w.heap.size w w' := by
 obtain ⟨wA, hA, hb, hz⟩ := mk w
 go_enter Tryz.func58, Tryz.ntmps58
 go_wp2_with fail
 refine (of_14 _).mono ?_
 rintro e w1 ⟨rfl, h1⟩
 have hm := Made.of hb hz h1
 unfold entV
 go_wp2_with (refine wpList_store_row rfl 160 _ _ rfl w.heap.size _ rfl rfl 160 zE hm.blk (by exact sizeE) (by rfl) (by simp [Value.oneCell']) ?_)
 exact hm.done rfl rfl rfl
theorem of_15 (w : World) : Calls Tryz.prog 74 #[.int .i64 15] w fun e w' => e = .returned (entV 15 ⟨#[111, 118, 101, 114]⟩ 2 3 1 false 0 0 0 (.func (.func 103) #[] #[])) /\ Below w.heap.size w w' := by
 obtain ⟨wA, hA, hb, hz⟩ := mk w
 go_enter Tryz.func74, Tryz.ntmps74
 go_wp2_with fail
 refine (row_any _ _ _ _ _ _).mono ?_
 rintro e w1 ⟨rfl, h1⟩
 have hm := Made.of hb hz h1
 unfold rowV
 go_wp2_with (refine wpList_store_row rfl 160 _ _ rfl w.heap.size _ rfl rfl 160 zE hm.blk (by exact sizeE) (by rfl) (by simp [Value.oneCell']) ?_)
 exact hm.done rfl rfl rfl
theorem ent_15 (w : World) : Calls Tryz.prog 58 #[.int .i64 15] w fun e w' => e = .returned (entV 15 ⟨#[111, 118, 101, 114]⟩ 2 3 1 false 0 0 0 (.func (.func 103) #[] #[])) /\ Below w.heap.size w w' := by
 obtain ⟨wA, hA, hb, hz⟩ := mk w
 go_enter Tryz.func58, Tryz.ntmps58
 go_wp2_with fail
 refine (of_15 _).mono ?_
 rintro e w1 ⟨rfl, h1⟩
 have hm := Made.of hb hz h1
 unfold entV
 go_wp2_with (refine wpList_store_row rfl 160 _ _ rfl w.heap.size _ rfl rfl 160 zE hm.blk (by exact sizeE) (by rfl) (by simp [Value.oneCell']) ?_)
 exact hm.done rfl rfl rfl
theorem of_16 (w : World) : Calls Tryz.prog 74 #[.int .i64 16] w fun e w' => e = .returned (entV 16 ⟨#[114, 111, 116]⟩ 3 3 1 false 0 0 0 (.func (.func 104) #[] #[])) /\ Below w.heap.size w w' := by
 obtain ⟨wA, hA, hb, hz⟩ := mk w
 go_enter Tryz.func74, Tryz.ntmps74
 go_wp2_with fail
 refine (row_any _ _ _ _ _ _).mono ?_
 rintro e w1 ⟨rfl, h1⟩
 have hm := Made.of hb hz h1
 unfold rowV
 go_wp2_with (refine wpList_store_row rfl 160 _ _ rfl w.heap.size _ rfl rfl 160 zE hm.blk (by exact sizeE) (by rfl) (by simp [Value.oneCell']) ?_)
 exact hm.done rfl rfl rfl
theorem ent_16 (w : World) : Calls Tryz.prog 58 #[.int .i64 16] w fun e w' => e = .returned (entV 16 ⟨#[114, 111, 116]⟩ 3 3 1 false 0 0 0 (.func (.func 104) #[] #[])) /\ Below w.heap.size w w' := by
 obtain ⟨wA, hA, hb, hz⟩ := mk w
 go_enter Tryz.func58, Tryz.ntmps58
 go_wp2_with fail
 refine (of_16 _).mono ?_
 rintro e w1 ⟨rfl, h1⟩
 have hm := Made.of hb hz h1
 unfold entV
 go_wp2_with (refine wpList_store_row rfl 160 _ _ rfl w.heap.size _ rfl rfl 160 zE hm.blk (by exact sizeE) (by rfl) (by simp [Value.oneCell']) ?_)
 exact hm.done rfl rfl rfl
set_option maxHeartbeats 1000000
set_option maxRecDepth 100000
theorem of_33 (w : World) : Calls Tryz.prog 75 #[.int .i64 33] w fun e w' => e = .returned (entV 33 ⟨#[49, 45]⟩ 1 1 1 false 0 0 0 (.func (.func 139) #[] #[])) /\ Below w.heap.size w w' := by
 obtain ⟨wA, hA, hb, hz⟩ := mk w
 go_enter Tryz.func75, Tryz.ntmps75
 go_wp2_with fail
 refine (unary_any _ _ _).mono ?_
 rintro e w1 ⟨rfl, h1⟩
 have hm := Made.of hb hz h1
 unfold entV
 go_wp2_with (refine wpList_store_row rfl 160 _ _ rfl w.heap.size _ rfl rfl 160 zE hm.blk (by exact sizeE) (by rfl) (by simp [Value.oneCell']) ?_)
 exact hm.done rfl rfl rfl
theorem ent_33 (w : World) : Calls Tryz.prog 58 #[.int .i64 33] w fun e w' => e = .returned (entV 33 ⟨#[49, 45]⟩ 1 1 1 false 0 0 0 (.func (.func 139) #[] #[])) /\ Below w.heap.size w w' := by
 obtain ⟨wA, hA, hb, hz⟩ := mk w
 go_enter Tryz.func58, Tryz.ntmps58
 go_wp2_with fail
 refine (of_33 _).mono ?_
 rintro e w1 ⟨rfl, h1⟩
 have hm := Made.of hb hz h1
 unfold entV
 go_wp2_with (refine wpList_store_row rfl 160 _ _ rfl w.heap.size _ rfl rfl 160 zE hm.blk (by exact sizeE) (by rfl) (by simp [Value.oneCell']) ?_)
 exact hm.done rfl rfl rfl
theorem of_34 (w : World) : Calls Tryz.prog 75 #[.int .i64 34] w fun e w' => e = .returned (entV 34 ⟨#[50, 42]⟩ 1 1 1 false 0 0 0 (.func (.func 139) #[] #[])) /\ Below w.heap.size w w' := by
 obtain ⟨wA, hA, hb, hz⟩ := mk w
 go_enter Tryz.func75, Tryz.ntmps75
 go_wp2_with fail
 refine (unary_any _ _ _).mono ?_
 rintro e w1 ⟨rfl, h1⟩
 have hm := Made.of hb hz h1
 unfold entV
 go_wp2_with (refine wpList_store_row rfl 160 _ _ rfl w.heap.size _ rfl rfl 160 zE hm.blk (by exact sizeE) (by rfl) (by simp [Value.oneCell']) ?_)
 exact hm.done rfl rfl rfl
theorem ent_34 (w : World) : Calls Tryz.prog 58 #[.int .i64 34] w fun e w' => e = .returned (entV 34 ⟨#[50, 42]⟩ 1 1 1 false 0 0 0 (.func (.func 139) #[] #[])) /\ Below w.heap.size w w' := by
 obtain ⟨wA, hA, hb, hz⟩ := mk w
 go_enter Tryz.func58, Tryz.ntmps58
 go_wp2_with fail
 refine (of_34 _).mono ?_
 rintro e w1 ⟨rfl, h1⟩
 have hm := Made.of hb hz h1
 unfold entV
 go_wp2_with (refine wpList_store_row rfl 160 _ _ rfl w.heap.size _ rfl rfl 160 zE hm.blk (by exact sizeE) (by rfl) (by simp [Value.oneCell']) ?_)
 exact hm.done rfl rfl rfl
theorem of_35 (w : World) : Calls Tryz.prog 75 #[.int .i64 35] w fun e w' => e = .returned (entV 35 ⟨#[50, 47]⟩ 1 1 1 false 0 0 0 (.func (.func 139) #[] #[])) /\ Below w.heap.size w w' := by
 obtain ⟨wA, hA, hb, hz⟩ := mk w
 go_enter Tryz.func75, Tryz.ntmps75
 go_wp2_with fail
 refine (unary_any _ _ _).mono ?_
 rintro e w1 ⟨rfl, h1⟩
 have hm := Made.of hb hz h1
 unfold entV
 go_wp2_with (refine wpList_store_row rfl 160 _ _ rfl w.heap.size _ rfl rfl 160 zE hm.blk (by exact sizeE) (by rfl) (by simp [Value.oneCell']) ?_)
 exact hm.done rfl rfl rfl
theorem ent_35 (w : World) : Calls Tryz.prog 58 #[.int .i64 35] w fun e w' => e = .returned (entV 35 ⟨#[50, 47]⟩ 1 1 1 false 0 0 0 (.func (.func 139) #[] #[])) /\ Below w.heap.size w w' := by
 obtain ⟨wA, hA, hb, hz⟩ := mk w
 go_enter Tryz.func58, Tryz.ntmps58
 go_wp2_with fail
 refine (of_35 _).mono ?_
 rintro e w1 ⟨rfl, h1⟩
 have hm := Made.of hb hz h1
 unfold entV
 go_wp2_with (refine wpList_store_row rfl 160 _ _ rfl w.heap.size _ rfl rfl 160 zE hm.blk (by exact sizeE) (by rfl) (by simp [Value.oneCell']) ?_)
 exact hm.done rfl rfl rfl
theorem of_36 (w : World) : Calls Tryz.prog 76 #[.int .i64 36] w fun e w' => e = .returned (entV 36 ⟨#[97, 110, 100]⟩ 2 1 1 false 0 0 0 (.func (.func 137) #[] #[])) /\ Below w.heap.size w w' := by
 obtain ⟨wA, hA, hb, hz⟩ := mk w
 go_enter Tryz.func76, Tryz.ntmps76
 go_wp2_with fail
 refine (binary_any _ _ _ _).mono ?_
 rintro e w1 ⟨rfl, h1⟩
 have hm := Made.of hb hz h1
 unfold entV
 go_wp2_with (refine wpList_store_row rfl 160 _ _ rfl w.heap.size _ rfl rfl 160 zE hm.blk (by exact sizeE) (by rfl) (by simp [Value.oneCell']) ?_)
 exact hm.done rfl rfl rfl
theorem ent_36 (w : World) : Calls Tryz.prog 58 #[.int .i64 36] w fun e w' => e = .returned (entV 36 ⟨#[97, 110, 100]⟩ 2 1 1 false 0 0 0 (.func (.func 137) #[] #[])) /\ Below w.heap.size w w' := by
 obtain ⟨wA, hA, hb, hz⟩ := mk w
 go_enter Tryz.func58, Tryz.ntmps58
 go_wp2_with fail
 refine (of_36 _).mono ?_
 rintro e w1 ⟨rfl, h1⟩
 have hm := Made.of hb hz h1
 unfold entV
 go_wp2_with (refine wpList_store_row rfl 160 _ _ rfl w.heap.size _ rfl rfl 160 zE hm.blk (by exact sizeE) (by rfl) (by simp [Value.oneCell']) ?_)
 exact hm.done rfl rfl rfl
theorem of_37 (w : World) : Calls Tryz.prog 76 #[.int .i64 37] w fun e w' => e = .returned (entV 37 ⟨#[111, 114]⟩ 2 1 1 false 0 0 0 (.func (.func 137) #[] #[])) /\ Below w.heap.size w w' := by
 obtain ⟨wA, hA, hb, hz⟩ := mk w
 go_enter Tryz.func76, Tryz.ntmps76
 go_wp2_with fail
 refine (binary_any _ _ _ _).mono ?_
 rintro e w1 ⟨rfl, h1⟩
 have hm := Made.of hb hz h1
 unfold entV
 go_wp2_with (refine wpList_store_row rfl 160 _ _ rfl w.heap.size _ rfl rfl 160 zE hm.blk (by exact sizeE) (by rfl) (by simp [Value.oneCell']) ?_)
 exact hm.done rfl rfl rfl
theorem ent_37 (w : World) : Calls Tryz.prog 58 #[.int .i64 37] w fun e w' => e = .returned (entV 37 ⟨#[111, 114]⟩ 2 1 1 false 0 0 0 (.func (.func 137) #[] #[])) /\ Below w.heap.size w w' := by
 obtain ⟨wA, hA, hb, hz⟩ := mk w
 go_enter Tryz.func58, Tryz.ntmps58
 go_wp2_with fail
 refine (of_37 _).mono ?_
 rintro e w1 ⟨rfl, h1⟩
 have hm := Made.of hb hz h1
 unfold entV
 go_wp2_with (refine wpList_store_row rfl 160 _ _ rfl w.heap.size _ rfl rfl 160 zE hm.blk (by exact sizeE) (by rfl) (by simp [Value.oneCell']) ?_)
 exact hm.done rfl rfl rfl
theorem of_38 (w : World) : Calls Tryz.prog 76 #[.int .i64 38] w fun e w' => e = .returned (entV 38 ⟨#[120, 111, 114]⟩ 2 1 1 false 0 0 0 (.func (.func 137) #[] #[])) /\ Below w.heap.size w w' := by
 obtain ⟨wA, hA, hb, hz⟩ := mk w
 go_enter Tryz.func76, Tryz.ntmps76
 go_wp2_with fail
 refine (binary_any _ _ _ _).mono ?_
 rintro e w1 ⟨rfl, h1⟩
 have hm := Made.of hb hz h1
 unfold entV
 go_wp2_with (refine wpList_store_row rfl 160 _ _ rfl w.heap.size _ rfl rfl 160 zE hm.blk (by exact sizeE) (by rfl) (by simp [Value.oneCell']) ?_)
 exact hm.done rfl rfl rfl
theorem ent_38 (w : World) : Calls Tryz.prog 58 #[.int .i64 38] w fun e w' => e = .returned (entV 38 ⟨#[120, 111, 114]⟩ 2 1 1 false 0 0 0 (.func (.func 137) #[] #[])) /\ Below w.heap.size w w' := by
 obtain ⟨wA, hA, hb, hz⟩ := mk w
 go_enter Tryz.func58, Tryz.ntmps58
 go_wp2_with fail
 refine (of_38 _).mono ?_
 rintro e w1 ⟨rfl, h1⟩
 have hm := Made.of hb hz h1
 unfold entV
 go_wp2_with (refine wpList_store_row rfl 160 _ _ rfl w.heap.size _ rfl rfl 160 zE hm.blk (by exact sizeE) (by rfl) (by simp [Value.oneCell']) ?_)
 exact hm.done rfl rfl rfl
theorem of_39 (w : World) : Calls Tryz.prog 76 #[.int .i64 39] w fun e w' => e = .returned (entV 39 ⟨#[105, 110, 118, 101, 114, 116]⟩ 1 1 1 false 0 0 0 (.func (.func 139) #[] #[])) /\ Below w.heap.size w w' := by
 obtain ⟨wA, hA, hb, hz⟩ := mk w
 go_enter Tryz.func76, Tryz.ntmps76
 go_wp2_with fail
 refine (unary_any _ _ _).mono ?_
 rintro e w1 ⟨rfl, h1⟩
 have hm := Made.of hb hz h1
 unfold entV
 go_wp2_with (refine wpList_store_row rfl 160 _ _ rfl w.heap.size _ rfl rfl 160 zE hm.blk (by exact sizeE) (by rfl) (by simp [Value.oneCell']) ?_)
 exact hm.done rfl rfl rfl
theorem ent_39 (w : World) : Calls Tryz.prog 58 #[.int .i64 39] w fun e w' => e = .returned (entV 39 ⟨#[105, 110, 118, 101, 114, 116]⟩ 1 1 1 false 0 0 0 (.func (.func 139) #[] #[])) /\ Below w.heap.size w w' := by
 obtain ⟨wA, hA, hb, hz⟩ := mk w
 go_enter Tryz.func58, Tryz.ntmps58
 go_wp2_with fail
 refine (of_39 _).mono ?_
 rintro e w1 ⟨rfl, h1⟩
 have hm := Made.of hb hz h1
 unfold entV
 go_wp2_with (refine wpList_store_row rfl 160 _ _ rfl w.heap.size _ rfl rfl 160 zE hm.blk (by exact sizeE) (by rfl) (by simp [Value.oneCell']) ?_)
 exact hm.done rfl rfl rfl
theorem of_40 (w : World) : Calls Tryz.prog 76 #[.int .i64 40] w fun e w' => e = .returned (entV 40 ⟨#[108, 115, 104, 105, 102, 116]⟩ 2 1 1 false 0 0 0 (.func (.func 137) #[] #[])) /\ Below w.heap.size w w' := by
 obtain ⟨wA, hA, hb, hz⟩ := mk w
 go_enter Tryz.func76, Tryz.ntmps76
 go_wp2_with fail
 refine (binary_any _ _ _ _).mono ?_
 rintro e w1 ⟨rfl, h1⟩
 have hm := Made.of hb hz h1
 unfold entV
 go_wp2_with (refine wpList_store_row rfl 160 _ _ rfl w.heap.size _ rfl rfl 160 zE hm.blk (by exact sizeE) (by rfl) (by simp [Value.oneCell']) ?_)
 exact hm.done rfl rfl rfl
theorem ent_40 (w : World) : Calls Tryz.prog 58 #[.int .i64 40] w fun e w' => e = .returned (entV 40 ⟨#[108, 115, 104, 105, 102, 116]⟩ 2 1 1 false 0 0 0 (.func (.func 137) #[] #[])) /\ Below w.heap.size w w' := by
 obtain ⟨wA, hA, hb, hz⟩ := mk w
 go_enter Tryz.func58, Tryz.ntmps58
 go_wp2_with fail
 refine (of_40 _).mono ?_
 rintro e w1 ⟨rfl, h1⟩
 have hm := Made.of hb hz h1
 unfold entV
 go_wp2_with (refine wpList_store_row rfl 160 _ _ rfl w.heap.size _ rfl rfl 160 zE hm.blk (by exact sizeE) (by rfl) (by simp [Value.oneCell']) ?_)
 exact hm.done rfl rfl rfl
theorem of_41 (w : World) : Calls Tryz.prog 76 #[.int .i64 41] w fun e w' => e = .returned (entV 41 ⟨#[114, 115, 104, 105, 102, 116]⟩ 2 1 1 false 0 0 0 (.func (.func 137) #[] #[])) /\ Below w.heap.size w w' := by
 obtain ⟨wA, hA, hb, hz⟩ := mk w
 go_enter Tryz.func76, Tryz.ntmps76
 go_wp2_with fail
 refine (binary_any _ _ _ _).mono ?_
 rintro e w1 ⟨rfl, h1⟩
 have hm := Made.of hb hz h1
 unfold entV
 go_wp2_with (refine wpList_store_row rfl 160 _ _ rfl w.heap.size _ rfl rfl 160 zE hm.blk (by exact sizeE) (by rfl) (by simp [Value.oneCell']) ?_)
 exact hm.done rfl rfl rfl
theorem ent_41 (w : World) : Calls Tryz.prog 58 #[.int .i64 41] w fun e w' => e = .returned (entV 41 ⟨#[114, 115, 104, 105, 102, 116]⟩ 2 1 1 false 0 0 0 (.func (.func 137) #[] #[])) /\ Below w.heap.size w w' := by
 obtain ⟨wA, hA, hb, hz⟩ := mk w
 go_enter Tryz.func58, Tryz.ntmps58
 go_wp2_with fail
 refine (of_41 _).mono ?_
 rintro e w1 ⟨rfl, h1⟩
 have hm := Made.of hb hz h1
 unfold entV
 go_wp2_with (refine wpList_store_row rfl 160 _ _ rfl w.heap.size _ rfl rfl 160 zE hm.blk (by exact sizeE) (by rfl) (by simp [Value.oneCell']) ?_)
 exact hm.done rfl rfl rfl
theorem of_42 (w : World) : Calls Tryz.prog 76 #[.int .i64 42] w fun e w' => e = .returned (entV 42 ⟨#[61]⟩ 2 1 1 false 0 0 0 (.func (.func 137) #[] #[])) /\ Below w.heap.size w w' := by
 obtain ⟨wA, hA, hb, hz⟩ := mk w
 go_enter Tryz.func76, Tryz.ntmps76
 go_wp2_with fail
 refine (binary_any _ _ _ _).mono ?_
 rintro e w1 ⟨rfl, h1⟩
 have hm := Made.of hb hz h1
 unfold entV
 go_wp2_with (refine wpList_store_row rfl 160 _ _ rfl w.heap.size _ rfl rfl 160 zE hm.blk (by exact sizeE) (by rfl) (by simp [Value.oneCell']) ?_)
 exact hm.done rfl rfl rfl
theorem ent_42 (w : World) : Calls Tryz.prog 58 #[.int .i64 42] w fun e w' => e = .returned (entV 42 ⟨#[61]⟩ 2 1 1 false 0 0 0 (.func (.func 137) #[] #[])) /\ Below w.heap.size w w' := by
 obtain ⟨wA, hA, hb, hz⟩ := mk w
 go_enter Tryz.func58, Tryz.ntmps58
 go_wp2_with fail
 refine (of_42 _).mono ?_
 rintro e w1 ⟨rfl, h1⟩
 have hm := Made.of hb hz h1
 unfold entV
 go_wp2_with (refine wpList_store_row rfl 160 _ _ rfl w.heap.size _ rfl rfl 160 zE hm.blk (by exact sizeE) (by rfl) (by simp [Value.oneCell']) ?_)
 exact hm.done rfl rfl rfl
theorem of_43 (w : World) : Calls Tryz.prog 76 #[.int .i64 43] w fun e w' => e = .returned (entV 43 ⟨#[60, 62]⟩ 2 1 1 false 0 0 0 (.func (.func 137) #[] #[])) /\ Below w.heap.size w w' := by
 obtain ⟨wA, hA, hb, hz⟩ := mk w
 go_enter Tryz.func76, Tryz.ntmps76
 go_wp2_with fail
 refine (binary_any _ _ _ _).mono ?_
 rintro e w1 ⟨rfl, h1⟩
 have hm := Made.of hb hz h1
 unfold entV
 go_wp2_with (refine wpList_store_row rfl 160 _ _ rfl w.heap.size _ rfl rfl 160 zE hm.blk (by exact sizeE) (by rfl) (by simp [Value.oneCell']) ?_)
 exact hm.done rfl rfl rfl
theorem ent_43 (w : World) : Calls Tryz.prog 58 #[.int .i64 43] w fun e w' => e = .returned (entV 43 ⟨#[60, 62]⟩ 2 1 1 false 0 0 0 (.func (.func 137) #[] #[])) /\ Below w.heap.size w w' := by
 obtain ⟨wA, hA, hb, hz⟩ := mk w
 go_enter Tryz.func58, Tryz.ntmps58
 go_wp2_with fail
 refine (of_43 _).mono ?_
 rintro e w1 ⟨rfl, h1⟩
 have hm := Made.of hb hz h1
 unfold entV
 go_wp2_with (refine wpList_store_row rfl 160 _ _ rfl w.heap.size _ rfl rfl 160 zE hm.blk (by exact sizeE) (by rfl) (by simp [Value.oneCell']) ?_)
 exact hm.done rfl rfl rfl
theorem of_44 (w : World) : Calls Tryz.prog 76 #[.int .i64 44] w fun e w' => e = .returned (entV 44 ⟨#[60]⟩ 2 1 1 false 0 0 0 (.func (.func 137) #[] #[])) /\ Below w.heap.size w w' := by
 obtain ⟨wA, hA, hb, hz⟩ := mk w
 go_enter Tryz.func76, Tryz.ntmps76
 go_wp2_with fail
 refine (binary_any _ _ _ _).mono ?_
 rintro e w1 ⟨rfl, h1⟩
 have hm := Made.of hb hz h1
 unfold entV
 go_wp2_with (refine wpList_store_row rfl 160 _ _ rfl w.heap.size _ rfl rfl 160 zE hm.blk (by exact sizeE) (by rfl) (by simp [Value.oneCell']) ?_)
 exact hm.done rfl rfl rfl
theorem ent_44 (w : World) : Calls Tryz.prog 58 #[.int .i64 44] w fun e w' => e = .returned (entV 44 ⟨#[60]⟩ 2 1 1 false 0 0 0 (.func (.func 137) #[] #[])) /\ Below w.heap.size w w' := by
 obtain ⟨wA, hA, hb, hz⟩ := mk w
 go_enter Tryz.func58, Tryz.ntmps58
 go_wp2_with fail
 refine (of_44 _).mono ?_
 rintro e w1 ⟨rfl, h1⟩
 have hm := Made.of hb hz h1
 unfold entV
 go_wp2_with (refine wpList_store_row rfl 160 _ _ rfl w.heap.size _ rfl rfl 160 zE hm.blk (by exact sizeE) (by rfl) (by simp [Value.oneCell']) ?_)
 exact hm.done rfl rfl rfl
theorem of_45 (w : World) : Calls Tryz.prog 76 #[.int .i64 45] w fun e w' => e = .returned (entV 45 ⟨#[62]⟩ 2 1 1 false 0 0 0 (.func (.func 137) #[] #[])) /\ Below w.heap.size w w' := by
 obtain ⟨wA, hA, hb, hz⟩ := mk w
 go_enter Tryz.func76, Tryz.ntmps76
 go_wp2_with fail
 refine (binary_any _ _ _ _).mono ?_
 rintro e w1 ⟨rfl, h1⟩
 have hm := Made.of hb hz h1
 unfold entV
 go_wp2_with (refine wpList_store_row rfl 160 _ _ rfl w.heap.size _ rfl rfl 160 zE hm.blk (by exact sizeE) (by rfl) (by simp [Value.oneCell']) ?_)
 exact hm.done rfl rfl rfl
theorem ent_45 (w : World) : Calls Tryz.prog 58 #[.int .i64 45] w fun e w' => e = .returned (entV 45 ⟨#[62]⟩ 2 1 1 false 0 0 0 (.func (.func 137) #[] #[])) /\ Below w.heap.size w w' := by
 obtain ⟨wA, hA, hb, hz⟩ := mk w
 go_enter Tryz.func58, Tryz.ntmps58
 go_wp2_with fail
 refine (of_45 _).mono ?_
 rintro e w1 ⟨rfl, h1⟩
 have hm := Made.of hb hz h1
 unfold entV
 go_wp2_with (refine wpList_store_row rfl 160 _ _ rfl w.heap.size _ rfl rfl 160 zE hm.blk (by exact sizeE) (by rfl) (by simp [Value.oneCell']) ?_)
 exact hm.done rfl rfl rfl
theorem of_46 (w : World) : Calls Tryz.prog 76 #[.int .i64 46] w fun e w' => e = .returned (entV 46 ⟨#[117, 60]⟩ 2 1 1 false 0 0 0 (.func (.func 137) #[] #[])) /\ Below w.heap.size w w' := by
 obtain ⟨wA, hA, hb, hz⟩ := mk w
 go_enter Tryz.func76, Tryz.ntmps76
 go_wp2_with fail
 refine (binary_any _ _ _ _).mono ?_
 rintro e w1 ⟨rfl, h1⟩
 have hm := Made.of hb hz h1
 unfold entV
 go_wp2_with (refine wpList_store_row rfl 160 _ _ rfl w.heap.size _ rfl rfl 160 zE hm.blk (by exact sizeE) (by rfl) (by simp [Value.oneCell']) ?_)
 exact hm.done rfl rfl rfl
theorem ent_46 (w : World) : Calls Tryz.prog 58 #[.int .i64 46] w fun e w' => e = .returned (entV 46 ⟨#[117, 60]⟩ 2 1 1 false 0 0 0 (.func (.func 137) #[] #[])) /\ Below w.heap.size w w' := by
 obtain ⟨wA, hA, hb, hz⟩ := mk w
 go_enter Tryz.func58, Tryz.ntmps58
 go_wp2_with fail
 refine (of_46 _).mono ?_
 rintro e w1 ⟨rfl, h1⟩
 have hm := Made.of hb hz h1
 unfold entV
 go_wp2_with (refine wpList_store_row rfl 160 _ _ rfl w.heap.size _ rfl rfl 160 zE hm.blk (by exact sizeE) (by rfl) (by simp [Value.oneCell']) ?_)
 exact hm.done rfl rfl rfl
theorem of_47 (w : World) : Calls Tryz.prog 76 #[.int .i64 47] w fun e w' => e = .returned (entV 47 ⟨#[117, 62]⟩ 2 1 1 false 0 0 0 (.func (.func 137) #[] #[])) /\ Below w.heap.size w w' := by
 obtain ⟨wA, hA, hb, hz⟩ := mk w
 go_enter Tryz.func76, Tryz.ntmps76
 go_wp2_with fail
 refine (binary_any _ _ _ _).mono ?_
 rintro e w1 ⟨rfl, h1⟩
 have hm := Made.of hb hz h1
 unfold entV
 go_wp2_with (refine wpList_store_row rfl 160 _ _ rfl w.heap.size _ rfl rfl 160 zE hm.blk (by exact sizeE) (by rfl) (by simp [Value.oneCell']) ?_)
 exact hm.done rfl rfl rfl
theorem ent_47 (w : World) : Calls Tryz.prog 58 #[.int .i64 47] w fun e w' => e = .returned (entV 47 ⟨#[117, 62]⟩ 2 1 1 false 0 0 0 (.func (.func 137) #[] #[])) /\ Below w.heap.size w w' := by
 obtain ⟨wA, hA, hb, hz⟩ := mk w
 go_enter Tryz.func58, Tryz.ntmps58
 go_wp2_with fail
 refine (of_47 _).mono ?_
 rintro e w1 ⟨rfl, h1⟩
 have hm := Made.of hb hz h1
 unfold entV
 go_wp2_with (refine wpList_store_row rfl 160 _ _ rfl w.heap.size _ rfl rfl 160 zE hm.blk (by exact sizeE) (by rfl) (by simp [Value.oneCell']) ?_)
 exact hm.done rfl rfl rfl
theorem of_48 (w : World) : Calls Tryz.prog 76 #[.int .i64 48] w fun e w' => e = .returned (entV 48 ⟨#[48, 61]⟩ 1 1 1 false 0 0 0 (.func (.func 139) #[] #[])) /\ Below w.heap.size w w' := by
 obtain ⟨wA, hA, hb, hz⟩ := mk w
 go_enter Tryz.func76, Tryz.ntmps76
 go_wp2_with fail
 refine (unary_any _ _ _).mono ?_
 rintro e w1 ⟨rfl, h1⟩
 have hm := Made.of hb hz h1
 unfold entV
 go_wp2_with (refine wpList_store_row rfl 160 _ _ rfl w.heap.size _ rfl rfl 160 zE hm.blk (by exact sizeE) (by rfl) (by simp [Value.oneCell']) ?_)
 exact hm.done rfl rfl rfl
theorem ent_48 (w : World) : Calls Tryz.prog 58 #[.int .i64 48] w fun e w' => e = .returned (entV 48 ⟨#[48, 61]⟩ 1 1 1 false 0 0 0 (.func (.func 139) #[] #[])) /\ Below w.heap.size w w' := by
 obtain ⟨wA, hA, hb, hz⟩ := mk w
 go_enter Tryz.func58, Tryz.ntmps58
 go_wp2_with fail
 refine (of_48 _).mono ?_
 rintro e w1 ⟨rfl, h1⟩
 have hm := Made.of hb hz h1
 unfold entV
 go_wp2_with (refine wpList_store_row rfl 160 _ _ rfl w.heap.size _ rfl rfl 160 zE hm.blk (by exact sizeE) (by rfl) (by simp [Value.oneCell']) ?_)
 exact hm.done rfl rfl rfl
set_option maxHeartbeats 1000000
set_option maxRecDepth 100000
theorem of_17 (w : World) : Calls Tryz.prog 74 #[.int .i64 17] w fun e w' => e = .returned (entV 17 ⟨#[110, 105, 112]⟩ 2 1 1 false 0 0 0 (.func (.func 105) #[] #[])) /\ Below w.heap.size w w' := by
 obtain ⟨wA, hA, hb, hz⟩ := mk w
 go_enter Tryz.func74, Tryz.ntmps74
 go_wp2_with fail
 refine (row_any _ _ _ _ _ _).mono ?_
 rintro e w1 ⟨rfl, h1⟩
 have hm := Made.of hb hz h1
 unfold rowV
 go_wp2_with (refine wpList_store_row rfl 160 _ _ rfl w.heap.size _ rfl rfl 160 zE hm.blk (by exact sizeE) (by rfl) (by simp [Value.oneCell']) ?_)
 exact hm.done rfl rfl rfl
theorem ent_17 (w : World) : Calls Tryz.prog 58 #[.int .i64 17] w fun e w' => e = .returned (entV 17 ⟨#[110, 105, 112]⟩ 2 1 1 false 0 0 0 (.func (.func 105) #[] #[])) /\ Below w.heap.size w w' := by
 obtain ⟨wA, hA, hb, hz⟩ := mk w
 go_enter Tryz.func58, Tryz.ntmps58
 go_wp2_with fail
 refine (of_17 _).mono ?_
 rintro e w1 ⟨rfl, h1⟩
 have hm := Made.of hb hz h1
 unfold entV
 go_wp2_with (refine wpList_store_row rfl 160 _ _ rfl w.heap.size _ rfl rfl 160 zE hm.blk (by exact sizeE) (by rfl) (by simp [Value.oneCell']) ?_)
 exact hm.done rfl rfl rfl
theorem of_18 (w : World) : Calls Tryz.prog 74 #[.int .i64 18] w fun e w' => e = .returned (entV 18 ⟨#[116, 117, 99, 107]⟩ 2 3 1 false 0 0 0 (.func (.func 106) #[] #[])) /\ Below w.heap.size w w' := by
 obtain ⟨wA, hA, hb, hz⟩ := mk w
 go_enter Tryz.func74, Tryz.ntmps74
 go_wp2_with fail
 refine (row_any _ _ _ _ _ _).mono ?_
 rintro e w1 ⟨rfl, h1⟩
 have hm := Made.of hb hz h1
 unfold rowV
 go_wp2_with (refine wpList_store_row rfl 160 _ _ rfl w.heap.size _ rfl rfl 160 zE hm.blk (by exact sizeE) (by rfl) (by simp [Value.oneCell']) ?_)
 exact hm.done rfl rfl rfl
theorem ent_18 (w : World) : Calls Tryz.prog 58 #[.int .i64 18] w fun e w' => e = .returned (entV 18 ⟨#[116, 117, 99, 107]⟩ 2 3 1 false 0 0 0 (.func (.func 106) #[] #[])) /\ Below w.heap.size w w' := by
 obtain ⟨wA, hA, hb, hz⟩ := mk w
 go_enter Tryz.func58, Tryz.ntmps58
 go_wp2_with fail
 refine (of_18 _).mono ?_
 rintro e w1 ⟨rfl, h1⟩
 have hm := Made.of hb hz h1
 unfold entV
 go_wp2_with (refine wpList_store_row rfl 160 _ _ rfl w.heap.size _ rfl rfl 160 zE hm.blk (by exact sizeE) (by rfl) (by simp [Value.oneCell']) ?_)
 exact hm.done rfl rfl rfl
theorem of_19 (w : World) : Calls Tryz.prog 74 #[.int .i64 19] w fun e w' => e = .returned (entV 19 ⟨#[50, 100, 117, 112]⟩ 2 4 2 false 0 0 0 (.func (.func 107) #[] #[])) /\ Below w.heap.size w w' := by
 obtain ⟨wA, hA, hb, hz⟩ := mk w
 go_enter Tryz.func74, Tryz.ntmps74
 go_wp2_with fail
 refine (row_any _ _ _ _ _ _).mono ?_
 rintro e w1 ⟨rfl, h1⟩
 have hm := Made.of hb hz h1
 unfold rowV
 go_wp2_with (refine wpList_store_row rfl 160 _ _ rfl w.heap.size _ rfl rfl 160 zE hm.blk (by exact sizeE) (by rfl) (by simp [Value.oneCell']) ?_)
 exact hm.done rfl rfl rfl
theorem ent_19 (w : World) : Calls Tryz.prog 58 #[.int .i64 19] w fun e w' => e = .returned (entV 19 ⟨#[50, 100, 117, 112]⟩ 2 4 2 false 0 0 0 (.func (.func 107) #[] #[])) /\ Below w.heap.size w w' := by
 obtain ⟨wA, hA, hb, hz⟩ := mk w
 go_enter Tryz.func58, Tryz.ntmps58
 go_wp2_with fail
 refine (of_19 _).mono ?_
 rintro e w1 ⟨rfl, h1⟩
 have hm := Made.of hb hz h1
 unfold entV
 go_wp2_with (refine wpList_store_row rfl 160 _ _ rfl w.heap.size _ rfl rfl 160 zE hm.blk (by exact sizeE) (by rfl) (by simp [Value.oneCell']) ?_)
 exact hm.done rfl rfl rfl
theorem of_20 (w : World) : Calls Tryz.prog 74 #[.int .i64 20] w fun e w' => e = .returned (entV 20 ⟨#[50, 100, 114, 111, 112]⟩ 2 0 1 false 0 0 0 (.func (.func 108) #[] #[])) /\ Below w.heap.size w w' := by
 obtain ⟨wA, hA, hb, hz⟩ := mk w
 go_enter Tryz.func74, Tryz.ntmps74
 go_wp2_with fail
 refine (row_any _ _ _ _ _ _).mono ?_
 rintro e w1 ⟨rfl, h1⟩
 have hm := Made.of hb hz h1
 unfold rowV
 go_wp2_with (refine wpList_store_row rfl 160 _ _ rfl w.heap.size _ rfl rfl 160 zE hm.blk (by exact sizeE) (by rfl) (by simp [Value.oneCell']) ?_)
 exact hm.done rfl rfl rfl
theorem ent_20 (w : World) : Calls Tryz.prog 58 #[.int .i64 20] w fun e w' => e = .returned (entV 20 ⟨#[50, 100, 114, 111, 112]⟩ 2 0 1 false 0 0 0 (.func (.func 108) #[] #[])) /\ Below w.heap.size w w' := by
 obtain ⟨wA, hA, hb, hz⟩ := mk w
 go_enter Tryz.func58, Tryz.ntmps58
 go_wp2_with fail
 refine (of_20 _).mono ?_
 rintro e w1 ⟨rfl, h1⟩
 have hm := Made.of hb hz h1
 unfold entV
 go_wp2_with (refine wpList_store_row rfl 160 _ _ rfl w.heap.size _ rfl rfl 160 zE hm.blk (by exact sizeE) (by rfl) (by simp [Value.oneCell']) ?_)
 exact hm.done rfl rfl rfl
theorem of_21 (w : World) : Calls Tryz.prog 75 #[.int .i64 21] w fun e w' => e = .returned (entV 21 ⟨#[43]⟩ 2 1 1 false 0 0 0 (.func (.func 137) #[] #[])) /\ Below w.heap.size w w' := by
 obtain ⟨wA, hA, hb, hz⟩ := mk w
 go_enter Tryz.func75, Tryz.ntmps75
 go_wp2_with fail
 refine (binary_any _ _ _ _).mono ?_
 rintro e w1 ⟨rfl, h1⟩
 have hm := Made.of hb hz h1
 unfold entV
 go_wp2_with (refine wpList_store_row rfl 160 _ _ rfl w.heap.size _ rfl rfl 160 zE hm.blk (by exact sizeE) (by rfl) (by simp [Value.oneCell']) ?_)
 exact hm.done rfl rfl rfl
theorem ent_21 (w : World) : Calls Tryz.prog 58 #[.int .i64 21] w fun e w' => e = .returned (entV 21 ⟨#[43]⟩ 2 1 1 false 0 0 0 (.func (.func 137) #[] #[])) /\ Below w.heap.size w w' := by
 obtain ⟨wA, hA, hb, hz⟩ := mk w
 go_enter Tryz.func58, Tryz.ntmps58
 go_wp2_with fail
 refine (of_21 _).mono ?_
 rintro e w1 ⟨rfl, h1⟩
 have hm := Made.of hb hz h1
 unfold entV
 go_wp2_with (refine wpList_store_row rfl 160 _ _ rfl w.heap.size _ rfl rfl 160 zE hm.blk (by exact sizeE) (by rfl) (by simp [Value.oneCell']) ?_)
 exact hm.done rfl rfl rfl
theorem of_22 (w : World) : Calls Tryz.prog 75 #[.int .i64 22] w fun e w' => e = .returned (entV 22 ⟨#[45]⟩ 2 1 1 false 0 0 0 (.func (.func 137) #[] #[])) /\ Below w.heap.size w w' := by
 obtain ⟨wA, hA, hb, hz⟩ := mk w
 go_enter Tryz.func75, Tryz.ntmps75
 go_wp2_with fail
 refine (binary_any _ _ _ _).mono ?_
 rintro e w1 ⟨rfl, h1⟩
 have hm := Made.of hb hz h1
 unfold entV
 go_wp2_with (refine wpList_store_row rfl 160 _ _ rfl w.heap.size _ rfl rfl 160 zE hm.blk (by exact sizeE) (by rfl) (by simp [Value.oneCell']) ?_)
 exact hm.done rfl rfl rfl
theorem ent_22 (w : World) : Calls Tryz.prog 58 #[.int .i64 22] w fun e w' => e = .returned (entV 22 ⟨#[45]⟩ 2 1 1 false 0 0 0 (.func (.func 137) #[] #[])) /\ Below w.heap.size w w' := by
 obtain ⟨wA, hA, hb, hz⟩ := mk w
 go_enter Tryz.func58, Tryz.ntmps58
 go_wp2_with fail
 refine (of_22 _).mono ?_
 rintro e w1 ⟨rfl, h1⟩
 have hm := Made.of hb hz h1
 unfold entV
 go_wp2_with (refine wpList_store_row rfl 160 _ _ rfl w.heap.size _ rfl rfl 160 zE hm.blk (by exact sizeE) (by rfl) (by simp [Value.oneCell']) ?_)
 exact hm.done rfl rfl rfl
theorem of_23 (w : World) : Calls Tryz.prog 75 #[.int .i64 23] w fun e w' => e = .returned (entV 23 ⟨#[42]⟩ 2 1 3 false 0 0 0 (.func (.func 137) #[] #[])) /\ Below w.heap.size w w' := by
 obtain ⟨wA, hA, hb, hz⟩ := mk w
 go_enter Tryz.func75, Tryz.ntmps75
 go_wp2_with fail
 refine (binary_any _ _ _ _).mono ?_
 rintro e w1 ⟨rfl, h1⟩
 have hm := Made.of hb hz h1
 unfold entV
 go_wp2_with (refine wpList_store_row rfl 160 _ _ rfl w.heap.size _ rfl rfl 160 zE hm.blk (by exact sizeE) (by rfl) (by simp [Value.oneCell']) ?_)
 exact hm.done rfl rfl rfl
theorem ent_23 (w : World) : Calls Tryz.prog 58 #[.int .i64 23] w fun e w' => e = .returned (entV 23 ⟨#[42]⟩ 2 1 3 false 0 0 0 (.func (.func 137) #[] #[])) /\ Below w.heap.size w w' := by
 obtain ⟨wA, hA, hb, hz⟩ := mk w
 go_enter Tryz.func58, Tryz.ntmps58
 go_wp2_with fail
 refine (of_23 _).mono ?_
 rintro e w1 ⟨rfl, h1⟩
 have hm := Made.of hb hz h1
 unfold entV
 go_wp2_with (refine wpList_store_row rfl 160 _ _ rfl w.heap.size _ rfl rfl 160 zE hm.blk (by exact sizeE) (by rfl) (by simp [Value.oneCell']) ?_)
 exact hm.done rfl rfl rfl
theorem of_24 (w : World) : Calls Tryz.prog 75 #[.int .i64 24] w fun e w' => e = .returned (entV 24 ⟨#[47]⟩ 2 1 4 false 0 0 0 (.func (.func 137) #[] #[])) /\ Below w.heap.size w w' := by
 obtain ⟨wA, hA, hb, hz⟩ := mk w
 go_enter Tryz.func75, Tryz.ntmps75
 go_wp2_with fail
 refine (binary_any _ _ _ _).mono ?_
 rintro e w1 ⟨rfl, h1⟩
 have hm := Made.of hb hz h1
 unfold entV
 go_wp2_with (refine wpList_store_row rfl 160 _ _ rfl w.heap.size _ rfl rfl 160 zE hm.blk (by exact sizeE) (by rfl) (by simp [Value.oneCell']) ?_)
 exact hm.done rfl rfl rfl
theorem ent_24 (w : World) : Calls Tryz.prog 58 #[.int .i64 24] w fun e w' => e = .returned (entV 24 ⟨#[47]⟩ 2 1 4 false 0 0 0 (.func (.func 137) #[] #[])) /\ Below w.heap.size w w' := by
 obtain ⟨wA, hA, hb, hz⟩ := mk w
 go_enter Tryz.func58, Tryz.ntmps58
 go_wp2_with fail
 refine (of_24 _).mono ?_
 rintro e w1 ⟨rfl, h1⟩
 have hm := Made.of hb hz h1
 unfold entV
 go_wp2_with (refine wpList_store_row rfl 160 _ _ rfl w.heap.size _ rfl rfl 160 zE hm.blk (by exact sizeE) (by rfl) (by simp [Value.oneCell']) ?_)
 exact hm.done rfl rfl rfl
theorem of_25 (w : World) : Calls Tryz.prog 75 #[.int .i64 25] w fun e w' => e = .returned (entV 25 ⟨#[109, 111, 100]⟩ 2 1 4 false 0 0 0 (.func (.func 137) #[] #[])) /\ Below w.heap.size w w' := by
 obtain ⟨wA, hA, hb, hz⟩ := mk w
 go_enter Tryz.func75, Tryz.ntmps75
 go_wp2_with fail
 refine (binary_any _ _ _ _).mono ?_
 rintro e w1 ⟨rfl, h1⟩
 have hm := Made.of hb hz h1
 unfold entV
 go_wp2_with (refine wpList_store_row rfl 160 _ _ rfl w.heap.size _ rfl rfl 160 zE hm.blk (by exact sizeE) (by rfl) (by simp [Value.oneCell']) ?_)
 exact hm.done rfl rfl rfl
theorem ent_25 (w : World) : Calls Tryz.prog 58 #[.int .i64 25] w fun e w' => e = .returned (entV 25 ⟨#[109, 111, 100]⟩ 2 1 4 false 0 0 0 (.func (.func 137) #[] #[])) /\ Below w.heap.size w w' := by
 obtain ⟨wA, hA, hb, hz⟩ := mk w
 go_enter Tryz.func58, Tryz.ntmps58
 go_wp2_with fail
 refine (of_25 _).mono ?_
 rintro e w1 ⟨rfl, h1⟩
 have hm := Made.of hb hz h1
 unfold entV
 go_wp2_with (refine wpList_store_row rfl 160 _ _ rfl w.heap.size _ rfl rfl 160 zE hm.blk (by exact sizeE) (by rfl) (by simp [Value.oneCell']) ?_)
 exact hm.done rfl rfl rfl
theorem of_26 (w : World) : Calls Tryz.prog 75 #[.int .i64 26] w fun e w' => e = .returned (entV 26 ⟨#[117, 47]⟩ 2 1 4 false 0 0 0 (.func (.func 137) #[] #[])) /\ Below w.heap.size w w' := by
 obtain ⟨wA, hA, hb, hz⟩ := mk w
 go_enter Tryz.func75, Tryz.ntmps75
 go_wp2_with fail
 refine (binary_any _ _ _ _).mono ?_
 rintro e w1 ⟨rfl, h1⟩
 have hm := Made.of hb hz h1
 unfold entV
 go_wp2_with (refine wpList_store_row rfl 160 _ _ rfl w.heap.size _ rfl rfl 160 zE hm.blk (by exact sizeE) (by rfl) (by simp [Value.oneCell']) ?_)
 exact hm.done rfl rfl rfl
theorem ent_26 (w : World) : Calls Tryz.prog 58 #[.int .i64 26] w fun e w' => e = .returned (entV 26 ⟨#[117, 47]⟩ 2 1 4 false 0 0 0 (.func (.func 137) #[] #[])) /\ Below w.heap.size w w' := by
 obtain ⟨wA, hA, hb, hz⟩ := mk w
 go_enter Tryz.func58, Tryz.ntmps58
 go_wp2_with fail
 refine (of_26 _).mono ?_
 rintro e w1 ⟨rfl, h1⟩
 have hm := Made.of hb hz h1
 unfold entV
 go_wp2_with (refine wpList_store_row rfl 160 _ _ rfl w.heap.size _ rfl rfl 160 zE hm.blk (by exact sizeE) (by rfl) (by simp [Value.oneCell']) ?_)
 exact hm.done rfl rfl rfl
theorem of_27 (w : World) : Calls Tryz.prog 75 #[.int .i64 27] w fun e w' => e = .returned (entV 27 ⟨#[117, 109, 111, 100]⟩ 2 1 4 false 0 0 0 (.func (.func 137) #[] #[])) /\ Below w.heap.size w w' := by
 obtain ⟨wA, hA, hb, hz⟩ := mk w
 go_enter Tryz.func75, Tryz.ntmps75
 go_wp2_with fail
 refine (binary_any _ _ _ _).mono ?_
 rintro e w1 ⟨rfl, h1⟩
 have hm := Made.of hb hz h1
 unfold entV
 go_wp2_with (refine wpList_store_row rfl 160 _ _ rfl w.heap.size _ rfl rfl 160 zE hm.blk (by exact sizeE) (by rfl) (by simp [Value.oneCell']) ?_)
 exact hm.done rfl rfl rfl
theorem ent_27 (w : World) : Calls Tryz.prog 58 #[.int .i64 27] w fun e w' => e = .returned (entV 27 ⟨#[117, 109, 111, 100]⟩ 2 1 4 false 0 0 0 (.func (.func 137) #[] #[])) /\ Below w.heap.size w w' := by
 obtain ⟨wA, hA, hb, hz⟩ := mk w
 go_enter Tryz.func58, Tryz.ntmps58
 go_wp2_with fail
 refine (of_27 _).mono ?_
 rintro e w1 ⟨rfl, h1⟩
 have hm := Made.of hb hz h1
 unfold entV
 go_wp2_with (refine wpList_store_row rfl 160 _ _ rfl w.heap.size _ rfl rfl 160 zE hm.blk (by exact sizeE) (by rfl) (by simp [Value.oneCell']) ?_)
 exact hm.done rfl rfl rfl
theorem of_28 (w : World) : Calls Tryz.prog 75 #[.int .i64 28] w fun e w' => e = .returned (entV 28 ⟨#[110, 101, 103, 97, 116, 101]⟩ 1 1 1 false 0 0 0 (.func (.func 139) #[] #[])) /\ Below w.heap.size w w' := by
 obtain ⟨wA, hA, hb, hz⟩ := mk w
 go_enter Tryz.func75, Tryz.ntmps75
 go_wp2_with fail
 refine (unary_any _ _ _).mono ?_
 rintro e w1 ⟨rfl, h1⟩
 have hm := Made.of hb hz h1
 unfold entV
 go_wp2_with (refine wpList_store_row rfl 160 _ _ rfl w.heap.size _ rfl rfl 160 zE hm.blk (by exact sizeE) (by rfl) (by simp [Value.oneCell']) ?_)
 exact hm.done rfl rfl rfl
theorem ent_28 (w : World) : Calls Tryz.prog 58 #[.int .i64 28] w fun e w' => e = .returned (entV 28 ⟨#[110, 101, 103, 97, 116, 101]⟩ 1 1 1 false 0 0 0 (.func (.func 139) #[] #[])) /\ Below w.heap.size w w' := by
 obtain ⟨wA, hA, hb, hz⟩ := mk w
 go_enter Tryz.func58, Tryz.ntmps58
 go_wp2_with fail
 refine (of_28 _).mono ?_
 rintro e w1 ⟨rfl, h1⟩
 have hm := Made.of hb hz h1
 unfold entV
 go_wp2_with (refine wpList_store_row rfl 160 _ _ rfl w.heap.size _ rfl rfl 160 zE hm.blk (by exact sizeE) (by rfl) (by simp [Value.oneCell']) ?_)
 exact hm.done rfl rfl rfl
theorem of_29 (w : World) : Calls Tryz.prog 75 #[.int .i64 29] w fun e w' => e = .returned (entV 29 ⟨#[97, 98, 115]⟩ 1 1 1 false 0 0 0 (.func (.func 139) #[] #[])) /\ Below w.heap.size w w' := by
 obtain ⟨wA, hA, hb, hz⟩ := mk w
 go_enter Tryz.func75, Tryz.ntmps75
 go_wp2_with fail
 refine (unary_any _ _ _).mono ?_
 rintro e w1 ⟨rfl, h1⟩
 have hm := Made.of hb hz h1
 unfold entV
 go_wp2_with (refine wpList_store_row rfl 160 _ _ rfl w.heap.size _ rfl rfl 160 zE hm.blk (by exact sizeE) (by rfl) (by simp [Value.oneCell']) ?_)
 exact hm.done rfl rfl rfl
theorem ent_29 (w : World) : Calls Tryz.prog 58 #[.int .i64 29] w fun e w' => e = .returned (entV 29 ⟨#[97, 98, 115]⟩ 1 1 1 false 0 0 0 (.func (.func 139) #[] #[])) /\ Below w.heap.size w w' := by
 obtain ⟨wA, hA, hb, hz⟩ := mk w
 go_enter Tryz.func58, Tryz.ntmps58
 go_wp2_with fail
 refine (of_29 _).mono ?_
 rintro e w1 ⟨rfl, h1⟩
 have hm := Made.of hb hz h1
 unfold entV
 go_wp2_with (refine wpList_store_row rfl 160 _ _ rfl w.heap.size _ rfl rfl 160 zE hm.blk (by exact sizeE) (by rfl) (by simp [Value.oneCell']) ?_)
 exact hm.done rfl rfl rfl
theorem of_30 (w : World) : Calls Tryz.prog 75 #[.int .i64 30] w fun e w' => e = .returned (entV 30 ⟨#[109, 105, 110]⟩ 2 1 1 false 0 0 0 (.func (.func 137) #[] #[])) /\ Below w.heap.size w w' := by
 obtain ⟨wA, hA, hb, hz⟩ := mk w
 go_enter Tryz.func75, Tryz.ntmps75
 go_wp2_with fail
 refine (binary_any _ _ _ _).mono ?_
 rintro e w1 ⟨rfl, h1⟩
 have hm := Made.of hb hz h1
 unfold entV
 go_wp2_with (refine wpList_store_row rfl 160 _ _ rfl w.heap.size _ rfl rfl 160 zE hm.blk (by exact sizeE) (by rfl) (by simp [Value.oneCell']) ?_)
 exact hm.done rfl rfl rfl
theorem ent_30 (w : World) : Calls Tryz.prog 58 #[.int .i64 30] w fun e w' => e = .returned (entV 30 ⟨#[109, 105, 110]⟩ 2 1 1 false 0 0 0 (.func (.func 137) #[] #[])) /\ Below w.heap.size w w' := by
 obtain ⟨wA, hA, hb, hz⟩ := mk w
 go_enter Tryz.func58, Tryz.ntmps58
 go_wp2_with fail
 refine (of_30 _).mono ?_
 rintro e w1 ⟨rfl, h1⟩
 have hm := Made.of hb hz h1
 unfold entV
 go_wp2_with (refine wpList_store_row rfl 160 _ _ rfl w.heap.size _ rfl rfl 160 zE hm.blk (by exact sizeE) (by rfl) (by simp [Value.oneCell']) ?_)
 exact hm.done rfl rfl rfl
theorem of_31 (w : World) : Calls Tryz.prog 75 #[.int .i64 31] w fun e w' => e = .returned (entV 31 ⟨#[109, 97, 120]⟩ 2 1 1 false 0 0 0 (.func (.func 137) #[] #[])) /\ Below w.heap.size w w' := by
 obtain ⟨wA, hA, hb, hz⟩ := mk w
 go_enter Tryz.func75, Tryz.ntmps75
 go_wp2_with fail
 refine (binary_any _ _ _ _).mono ?_
 rintro e w1 ⟨rfl, h1⟩
 have hm := Made.of hb hz h1
 unfold entV
 go_wp2_with (refine wpList_store_row rfl 160 _ _ rfl w.heap.size _ rfl rfl 160 zE hm.blk (by exact sizeE) (by rfl) (by simp [Value.oneCell']) ?_)
 exact hm.done rfl rfl rfl
theorem ent_31 (w : World) : Calls Tryz.prog 58 #[.int .i64 31] w fun e w' => e = .returned (entV 31 ⟨#[109, 97, 120]⟩ 2 1 1 false 0 0 0 (.func (.func 137) #[] #[])) /\ Below w.heap.size w w' := by
 obtain ⟨wA, hA, hb, hz⟩ := mk w
 go_enter Tryz.func58, Tryz.ntmps58
 go_wp2_with fail
 refine (of_31 _).mono ?_
 rintro e w1 ⟨rfl, h1⟩
 have hm := Made.of hb hz h1
 unfold entV
 go_wp2_with (refine wpList_store_row rfl 160 _ _ rfl w.heap.size _ rfl rfl 160 zE hm.blk (by exact sizeE) (by rfl) (by simp [Value.oneCell']) ?_)
 exact hm.done rfl rfl rfl
theorem of_32 (w : World) : Calls Tryz.prog 75 #[.int .i64 32] w fun e w' => e = .returned (entV 32 ⟨#[49, 43]⟩ 1 1 1 false 0 0 0 (.func (.func 139) #[] #[])) /\ Below w.heap.size w w' := by
 obtain ⟨wA, hA, hb, hz⟩ := mk w
 go_enter Tryz.func75, Tryz.ntmps75
 go_wp2_with fail
 refine (unary_any _ _ _).mono ?_
 rintro e w1 ⟨rfl, h1⟩
 have hm := Made.of hb hz h1
 unfold entV
 go_wp2_with (refine wpList_store_row rfl 160 _ _ rfl w.heap.size _ rfl rfl 160 zE hm.blk (by exact sizeE) (by rfl) (by simp [Value.oneCell']) ?_)
 exact hm.done rfl rfl rfl
theorem ent_32 (w : World) : Calls Tryz.prog 58 #[.int .i64 32] w fun e w' => e = .returned (entV 32 ⟨#[49, 43]⟩ 1 1 1 false 0 0 0 (.func (.func 139) #[] #[])) /\ Below w.heap.size w w' := by
 obtain ⟨wA, hA, hb, hz⟩ := mk w
 go_enter Tryz.func58, Tryz.ntmps58
 go_wp2_with fail
 refine (of_32 _).mono ?_
 rintro e w1 ⟨rfl, h1⟩
 have hm := Made.of hb hz h1
 unfold entV
 go_wp2_with (refine wpList_store_row rfl 160 _ _ rfl w.heap.size _ rfl rfl 160 zE hm.blk (by exact sizeE) (by rfl) (by simp [Value.oneCell']) ?_)
 exact hm.done rfl rfl rfl
end Go.Proofs.YtoemoiehjdmheaaGreat.P
