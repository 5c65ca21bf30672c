import Derived.Test.YtgponcjjnjpfkaaGreatPDo
import Derived.Laws.ResultCell
/-! Of, Plain; entries of what is no primitive. -/
namespace Go.Proofs.YtgponcjjnjpfkaaGreat.P
open Go.RowKit
open Go.Proofs
set_option linter.unusedVariables false
set_option linter.unusedSimpArgs false
set_option maxHeartbeats 1000000
set_option maxRecDepth 100000
def zR : Array Value := #[.int .i64 0, .string { data := #[] }, .int .i64 0, .int .i64 0, .int .i64 0, .bool false]
theorem field0 (W : World) (op : Int) (name : ByteArray) (i o c : Int) (b : Bool) (k bl s : Int) (f : Value) : (Instr.field 94 (.agg #[.int .i64 op, .string name, .int .i64 i, .int .i64 o, .int .i64 c, .bool b, .int .i64 k, .int .i64 bl, .int .i64 s, f]) 0).run Tryz.prog W = .ok (rowV op name i o c b) W := by
  simp [Instr.field, run_underlying Tryz.underlying94, Value.cells, Tryz.sizeOf59, rowV, go_sem, asAgg, part]
theorem field4 (W : World) (op : Int) (name : ByteArray) (i o c : Int) (b : Bool) (k bl s : Int) (f : Value) (hf : f.oneCell' = true) : (Instr.field 94 (.agg #[.int .i64 op, .string name, .int .i64 i, .int .i64 o, .int .i64 c, .bool b, .int .i64 k, .int .i64 bl, .int .i64 s, f]) 4).run Tryz.prog W = .ok f W := by
  simp [Instr.field, run_underlying Tryz.underlying94, Value.cells, Tryz.sizeOf92, go_sem, asAgg, part]
theorem of_yes (op : Int) (name : ByteArray) (i o c : Int) (b : Bool) (k bl s : Int) (f : Value) (h0 : 1 ≤ op) (h1 : op < 64)
    (hE : ∀ w, Calls Tryz.prog 45 #[.int .i64 op] w fun e w' => e = .returned (entV op name i o c b k bl s f) ∧ Below w.heap.size w w') (w : World) :
    Calls Tryz.prog 26 #[.int .i64 op] w fun e w' => e = .returned (.tuple #[rowV op name i o c b, .int .i64 0]) ∧ Below w.heap.size w w' := by
  have e1 : decide (op < 1) = false := decide_eq_false (by omega)
  have e2 : decide (64 ≤ op) = false := decide_eq_false (by omega)
  obtain ⟨wA, hA⟩ : ∃ wA, w.alloc (.cells #[.int .i64 0, .string { data := #[] }, .int .i64 0, .int .i64 0, .int .i64 0, .bool false] 59) = wA := ⟨_, rfl⟩
  have hb : Below w.heap.size w wA := by rw [← hA]; exact (Below.refl _ w).alloc (Nat.le_refl _) _
  have hz : wA.heap[w.heap.size]? = some (.cells zR 59 (0, 0)) := by rw [← hA]; exact heap_alloc_new w _
  have hfd := field0
  unfold rowV at hfd
  go_enter Tryz.func26, Tryz.ntmps26
  go_wp2_with fail
  refine (hE _).mono ?_
  rintro e w1 ⟨rfl, h1⟩
  have hz1 : w1.heap[w.heap.size]? = some (.cells zR 59 (0, 0)) := (h1.block _ (S.lt_of hz)).trans hz
  have hb1 : Below w.heap.size w w1 := hb.trans ⟨h1.os, h1.tape, h1.output, h1.size, fun k hk => h1.block k (Nat.lt_of_lt_of_le hk hb.size)⟩
  have hfin := setRow_heap w1 w.heap.size _ #[.int .i64 op, .string name, .int .i64 i, .int .i64 o, .int .i64 c, .bool b] _ _ hz1
  have hbf := Below.setRow hb1 w.heap.size (Nat.le_refl _) #[.int .i64 op, .string name, .int .i64 i, .int .i64 o, .int .i64 c, .bool b]
  unfold entV
  go_wp2_with (refine wpList_store_row rfl 59 _ _ rfl w.heap.size _ rfl rfl 59 zR hz1 (by exact sizeR) (by rfl) (by simp [Value.oneCell']) ?_)
  refine bodyPost_ret (v := .tuple #[rowV op name i o c b, .int .i64 0]) ?_ rfl ⟨rfl, hbf⟩
  rw [results_cell_tmp rfl]
  simp [asAddr, run_loadVar_row _ w.heap.size _ 59 _ _ _ hfin Tryz.underlying59 rfl sizeR, rowV]
theorem of_no (op : Int) (h : op < 1 ∨ 64 ≤ op) (w : World) :
    Calls Tryz.prog 26 #[.int .i64 op] w fun e w' => e = .returned (.tuple #[rowV 0 ⟨#[]⟩ 0 0 0 false, .int .i64 60]) ∧ Below w.heap.size w w' := by
  by_cases a : op < 1
  · have e1 : decide (op < 1) = true := decide_eq_true a
    go_enter Tryz.func26, Tryz.ntmps26
    go_wp2
    refine bodyPost_ret (v := .tuple #[rowV 0 ⟨#[]⟩ 0 0 0 false, .int .i64 60]) (by simp [results, Tryz.results26, go_sem, rowV]) rfl ⟨rfl, bel_alloc w _⟩
  · have e1 : decide (op < 1) = false := decide_eq_false a
    have e2 : decide (64 ≤ op) = true := decide_eq_true (by omega)
    go_enter Tryz.func26, Tryz.ntmps26
    go_wp2
    refine bodyPost_ret (v := .tuple #[rowV 0 ⟨#[]⟩ 0 0 0 false, .int .i64 60]) (by simp [results, Tryz.results26, go_sem, rowV]) rfl ⟨rfl, bel_alloc w _⟩
theorem neF (W : World) (f : Fn) (a b : Array Value) : (binOp .neq 92 (.func f a b) .nilFunc).run Tryz.prog W = .ok (.bool true) W := by
  have h : ∀ d : Nat, (Op.equalIn (d + 1) 92 (.func f a b) .nilFunc).run Tryz.prog W = .ok false W := fun d => by
    simp [Op.equalIn, run_underlying Tryz.underlying92]
  have h2 : (Op.equal 92 (.func f a b) .nilFunc).run Tryz.prog W = .ok false W := h 9999
  simp [binOp, h2]
theorem neN (W : World) : (binOp .neq 92 .nilFunc .nilFunc).run Tryz.prog W = .ok (.bool false) W := by
  have h : ∀ d : Nat, (Op.equalIn (d + 1) 92 .nilFunc .nilFunc).run Tryz.prog W = .ok true W := fun d => by
    simp [Op.equalIn, run_underlying Tryz.underlying92]
  have h2 : (Op.equal 92 .nilFunc .nilFunc).run Tryz.prog W = .ok true W := h 9999
  simp [binOp, h2]
theorem plain_yes (op : Int) (op' : Int) (name : ByteArray) (i o c : Int) (b : Bool) (k bl s : Int) (g : Nat)
    (hE : ∀ w, Calls Tryz.prog 45 #[.int .i64 op] w fun e w' => e = .returned (entV op' name i o c b k bl s (.func (.func g) #[] #[])) ∧ Below w.heap.size w w') (w : World) :
    Calls Tryz.prog 27 #[.int .i64 op] w fun e w' => e = .returned (.bool true) ∧ Below w.heap.size w w' := by
  have hfd := fun W => field4 W op' name i o c b k bl s (.func (.func g) #[] #[]) rfl
  have hq := neF
  go_enter Tryz.func27, Tryz.ntmps27
  go_wp2_with fail
  refine (hE _).mono ?_
  rintro e w1 ⟨rfl, h1⟩
  unfold entV
  go_wp2
  go_ret
  exact ⟨rfl, h1⟩
theorem plain_no (op : Int) (op' : Int) (name : ByteArray) (i o c : Int) (b : Bool) (k bl s : Int)
    (hE : ∀ w, Calls Tryz.prog 45 #[.int .i64 op] w fun e w' => e = .returned (entV op' name i o c b k bl s .nilFunc) ∧ Below w.heap.size w w') (w : World) :
    Calls Tryz.prog 27 #[.int .i64 op] w fun e w' => e = .returned (.bool false) ∧ Below w.heap.size w w' := by
  have hfd := fun W => field4 W op' name i o c b k bl s .nilFunc rfl
  have hq := neN
  go_enter Tryz.func27, Tryz.ntmps27
  go_wp2_with fail
  refine (hE _).mono ?_
  rintro e w1 ⟨rfl, h1⟩
  unfold entV
  go_wp2
  go_ret
  exact ⟨rfl, h1⟩
/-- Do of what is not plain. -/
theorem do_code (op : Int) (op' : Int) (name : ByteArray) (i o c : Int) (b : Bool) (k bl s : Int)
    (hE : ∀ w, Calls Tryz.prog 45 #[.int .i64 op] w fun e w' => e = .returned (entV op' name i o c b k bl s .nilFunc) ∧ Below w.heap.size w w') (d r m : Option Addr) (w : World) :
    Calls Tryz.prog 12 #[.int .i64 op, .pointer d, .pointer r, .pointer m] w fun e w' => e = .returned (.int .i64 6) ∧ Below w.heap.size w w' := by
  have qN := eqN
  go_enter Tryz.func12, Tryz.ntmps12
  go_wp2_with fail
  refine (hE _).mono ?_
  rintro e w1 ⟨rfl, h1⟩
  unfold entV
  obtain ⟨w2, hw2, hB2, h2⟩ := ent_block w1 op' name i o c b k bl s .nilFunc
  have hb : Below w.heap.size w w2 := h1.trans ⟨h2.os, h2.tape, h2.output, h2.size, fun k hk => h2.block k (Nat.lt_of_lt_of_le hk h1.size)⟩
  have c9 := S.cell_of w2 w1.heap.size 9 _ 94 _ hB2 rfl
  go_wp2_with (refine wpList_store_row rfl 94 _ _ rfl w1.heap.size _ rfl rfl 94 zE (heap_alloc_new w1 _) (by exact sizeE) (by rfl) (by simp [Value.oneCell']) ?_)
  go_ret
  exact ⟨rfl, hb⟩
/-- Do without a stack or a memory. -/
theorem do_none (op : Int) (op' : Int) (name : ByteArray) (i o c : Int) (b : Bool) (k bl s : Int) (g : Nat)
    (hE : ∀ w, Calls Tryz.prog 45 #[.int .i64 op] w fun e w' => e = .returned (entV op' name i o c b k bl s (.func (.func g) #[] #[])) ∧ Below w.heap.size w w') (d r m : Option Addr) (hn : d = none ∨ r = none ∨ m = none) (w : World) :
    Calls Tryz.prog 12 #[.int .i64 op, .pointer d, .pointer r, .pointer m] w fun e w' => e = .returned (.int .i64 6) ∧ Below w.heap.size w w' := by
  have qF := eqF
  go_enter Tryz.func12, Tryz.ntmps12
  go_wp2_with fail
  refine (hE _).mono ?_
  rintro e w1 ⟨rfl, h1⟩
  unfold entV
  obtain ⟨w2, hw2, hB2, h2⟩ := ent_block w1 op' name i o c b k bl s (.func (.func g) #[] #[])
  have hb : Below w.heap.size w w2 := h1.trans ⟨h2.os, h2.tape, h2.output, h2.size, fun k hk => h2.block k (Nat.lt_of_lt_of_le hk h1.size)⟩
  have c9 := S.cell_of w2 w1.heap.size 9 _ 94 _ hB2 rfl
  have HB := S.hid hb
  clear hb h1 h2 hB2
  rcases d with _ | d
  · go_wp2_with (refine wpList_store_row rfl 94 _ _ rfl w1.heap.size _ rfl rfl 94 zE (heap_alloc_new w1 _) (by exact sizeE) (by rfl) (by simp [Value.oneCell']) ?_)
    go_ret
    exact ⟨rfl, HB.out⟩
  rcases r with _ | r
  · go_wp2_with (refine wpList_store_row rfl 94 _ _ rfl w1.heap.size _ rfl rfl 94 zE (heap_alloc_new w1 _) (by exact sizeE) (by rfl) (by simp [Value.oneCell']) ?_)
    go_ret
    exact ⟨rfl, HB.out⟩
  rcases m with _ | m
  · go_wp2_with (refine wpList_store_row rfl 94 _ _ rfl w1.heap.size _ rfl rfl 94 zE (heap_alloc_new w1 _) (by exact sizeE) (by rfl) (by simp [Value.oneCell']) ?_)
    go_ret
    exact ⟨rfl, HB.out⟩
  · rcases hn with hn | hn | hn <;> cases hn
theorem ofc_none (op : Int) (h : op < 1) (w : World) : Calls Tryz.prog 66 #[.int .i64 op] w fun e w' => e = .returned (entV 0 ⟨#[]⟩ 0 0 0 false 0 0 0 .nilFunc) ∧ Below w.heap.size w w' := by
  have e1 : (op == 1) = false := by simpa using (show op ≠ 1 by omega)
  have e2 : (op == 2) = false := by simpa using (show op ≠ 2 by omega)
  have e3 : (op == 3) = false := by simpa using (show op ≠ 3 by omega)
  have e4 : (op == 4) = false := by simpa using (show op ≠ 4 by omega)
  have e5 : (op == 5) = false := by simpa using (show op ≠ 5 by omega)
  have e6 : (op == 6) = false := by simpa using (show op ≠ 6 by omega)
  have e7 : (op == 7) = false := by simpa using (show op ≠ 7 by omega)
  have e8 : (op == 8) = false := by simpa using (show op ≠ 8 by omega)
  have e9 : (op == 9) = false := by simpa using (show op ≠ 9 by omega)
  have e10 : (op == 10) = false := by simpa using (show op ≠ 10 by omega)
  have e11 : (op == 11) = false := by simpa using (show op ≠ 11 by omega)
  obtain ⟨wA, hA, hb, hz⟩ := mk w
  have hm : Made w wA wA := ⟨hb, hz⟩
  go_enter Tryz.func66, Tryz.ntmps66
  go_wp2_with (refine wpList_store_row rfl 94 _ _ rfl w.heap.size _ rfl rfl 94 zE hz (by exact sizeE) (by rfl) (by simp [Value.oneCell']) ?_)
  exact hm.done rfl rfl rfl
theorem ofd_none (op : Int) (h : 64 ≤ op) (w : World) : Calls Tryz.prog 72 #[.int .i64 op] w fun e w' => e = .returned (entV 0 ⟨#[]⟩ 0 0 0 false 0 0 0 .nilFunc) ∧ Below w.heap.size w w' := by
  have e60 : (op == 60) = false := by simpa using (show op ≠ 60 by omega)
  have e61 : (op == 61) = false := by simpa using (show op ≠ 61 by omega)
  have e62 : (op == 62) = false := by simpa using (show op ≠ 62 by omega)
  have e63 : (op == 63) = false := by simpa using (show op ≠ 63 by omega)
  obtain ⟨wA, hA, hb, hz⟩ := mk w
  have hm : Made w wA wA := ⟨hb, hz⟩
  go_enter Tryz.func72, Tryz.ntmps72
  go_wp2_with (refine wpList_store_row rfl 94 _ _ rfl w.heap.size _ rfl rfl 94 zE hz (by exact sizeE) (by rfl) (by simp [Value.oneCell']) ?_)
  exact hm.done rfl rfl rfl
theorem ent_none (op : Int) (h : op < 1 ∨ 64 ≤ op) (w : World) : Calls Tryz.prog 45 #[.int .i64 op] w fun e w' => e = .returned (entV 0 ⟨#[]⟩ 0 0 0 false 0 0 0 .nilFunc) ∧ Below w.heap.size w w' := by
  obtain ⟨wA, hA, hb, hz⟩ := mk w
  by_cases a : op < 1
  · have e1 : decide (op ≤ 11) = true := decide_eq_true (by omega)
    go_enter Tryz.func45, Tryz.ntmps45
    go_wp2_with fail
    refine (ofc_none op a _).mono ?_
    rintro e w1 ⟨rfl, h1⟩
    have hm := Made.of hb hz h1
    unfold entV
    go_wp2_with (refine wpList_store_row rfl 94 _ _ rfl w.heap.size _ rfl rfl 94 zE hm.blk (by exact sizeE) (by rfl) (by simp [Value.oneCell']) ?_)
    exact hm.done rfl rfl rfl
  · have a2 : 64 ≤ op := by omega
    have f11 : decide (op ≤ 11) = false := decide_eq_false (by omega)
    have f20 : decide (op ≤ 20) = false := decide_eq_false (by omega)
    have f35 : decide (op ≤ 35) = false := decide_eq_false (by omega)
    have f49 : decide (op ≤ 49) = false := decide_eq_false (by omega)
    have f54 : decide (op ≤ 54) = false := decide_eq_false (by omega)
    have f59 : decide (op ≤ 59) = false := decide_eq_false (by omega)
    go_enter Tryz.func45, Tryz.ntmps45
    go_wp2_with fail
    refine (ofd_none op a2 _).mono ?_
    rintro e w1 ⟨rfl, h1⟩
    have hm := Made.of hb hz h1
    unfold entV
    go_wp2_with (refine wpList_store_row rfl 94 _ _ rfl w.heap.size _ rfl rfl 94 zE hm.blk (by exact sizeE) (by rfl) (by simp [Value.oneCell']) ?_)
    exact hm.done rfl rfl rfl
end Go.Proofs.YtgponcjjnjpfkaaGreat.P
