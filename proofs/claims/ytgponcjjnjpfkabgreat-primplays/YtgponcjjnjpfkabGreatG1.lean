import Derived.Test.YtgponcjjnjpfkabGreatProg
import Derived.WalkKit
import Derived.KernelRfl
import Derived.ProofKit
import Derived.BigQuiet
import Derived.Laws.Rows
import Derived.Laws.Tables
import Derived.Laws.CopyRow
import Derived.Laws.MakeOwn
import Derived.Laws.OwnMore
import Derived.Deep.RegionLaw
import Derived.ArgAppend
import Derived.OwnWalk
import Derived.Deep.RegionHeld
import Derived.Deep.RegionWith
import Derived.Laws.StructEq
/-! Rows of the table. -/
namespace Go.Proofs.YtgponcjjnjpfkabGreat.P
open Go.RowKit
open Go.Proofs
set_option linter.unusedVariables false
set_option linter.unusedSimpArgs false
set_option maxHeartbeats 1000000
set_option maxRecDepth 100000
def rowV (op : Int) (name : ByteArray) (i o c : Int) (b : Bool) : Value := .agg #[.int .i64 op, .string name, .int .i64 i, .int .i64 o, .int .i64 c, .bool b]
theorem row_any (op : Int) (name : ByteArray) (i o c : Int) (w : World) : Calls Tryz.prog 102 #[.int .i64 op, .string name, .int .i64 i, .int .i64 o, .int .i64 c] w fun e w' => e = .returned (rowV op name i o c false) ∧ Below w.heap.size w w' := by
  go_enter Tryz.func102, Tryz.ntmps102
  go_wp2
  refine bodyPost_ret (v := rowV op name i o c false) (by simp [results, Tryz.results102, go_sem, rowV]) rfl ⟨rfl, ?_⟩
  exact (Below.refl _ w).alloc (Nat.le_refl _) _
def zE : Array Value := #[.int .i64 0, .string { data := #[] }, .int .i64 0, .int .i64 0, .int .i64 0, .bool false, .int .i64 0, .int .i64 0, .int .i64 0, .nilFunc]
theorem sizeE : (Tryz.prog.info? 117).map (·.size) = some 10 := by kernel_rfl
theorem sizeR : (Tryz.prog.info? 57).map (·.size) = some 6 := by kernel_rfl
theorem Below.setRow {B : Nat} {a w : World} (h : Below B a w) (g : Nat) (hg : B ≤ g) (c : Array Value) : Below B a (w.setRow g c) :=
  ⟨h.os, h.tape, h.output, by rw [setRow_size]; exact h.size, fun k hk => (setRow_other w g k c (by omega)).trans (h.block k hk)⟩
/-- The entry's block, as it is when a maker begins. -/
theorem mk (w : World) : ∃ wA, w.alloc (.cells #[.int .i64 0, .string { data := #[] }, .int .i64 0, .int .i64 0, .int .i64 0, .bool false, .int .i64 0, .int .i64 0, .int .i64 0, .nilFunc] 117) = wA ∧ Below w.heap.size w wA ∧ wA.heap[w.heap.size]? = some (.cells zE 117 (0, 0)) :=
  ⟨_, rfl, (Below.refl _ w).alloc (Nat.le_refl _) _, heap_alloc_new w _⟩
structure Made (w wA w1 : World) : Prop where
  bel : Below w.heap.size w w1
  blk : w1.heap[w.heap.size]? = some (.cells zE 117 (0, 0))
theorem Made.of {w wA w1 : World} (hb : Below w.heap.size w wA) (hz : wA.heap[w.heap.size]? = some (.cells zE 117 (0, 0))) (h : Below wA.heap.size wA w1) : Made w wA w1 :=
  ⟨hb.trans ⟨h.os, h.tape, h.output, h.size, fun k hk => h.block k (Nat.lt_of_lt_of_le hk hb.size)⟩, (h.block _ (Array.getElem?_eq_some_iff.1 hz).1).trans hz⟩
/-- A maker's end: the entry is stored, and read. -/
theorem Made.fin {w wA w1 : World} (h : Made w wA w1) (c : Array Value) : (w1.setRow w.heap.size c).heap[w.heap.size]? = some (.cells c 117 (0, 0)) ∧ Below w.heap.size w (w1.setRow w.heap.size c) :=
  ⟨setRow_heap w1 _ _ _ _ _ h.blk, Below.setRow h.bel _ (Nat.le_refl _) _⟩
def entV (op : Int) (name : ByteArray) (i o c : Int) (b : Bool) (k bl s : Int) (f : Value) : Value := .agg #[.int .i64 op, .string name, .int .i64 i, .int .i64 o, .int .i64 c, .bool b, .int .i64 k, .int .i64 bl, .int .i64 s, f]
theorem Made.done {w wA w1 : World} (h : Made w wA w1) {fn : Func} {p : Tmp} {a : Act} {op i o c k bl s : Int} {name : ByteArray} {b : Bool} {f : Value} (hr : fn.results = #[.cell p 117]) (hp : a.tmps.getD p undef = .pointer (some ⟨w.heap.size, 0, none⟩)) (hd : a.defers = []) :
    bodyPost Tryz.prog fn (fun e w' => e = .returned (entV op name i o c b k bl s f) ∧ Below w.heap.size w w') .ret a (w1.setRow w.heap.size #[.int .i64 op, .string name, .int .i64 i, .int .i64 o, .int .i64 c, .bool b, .int .i64 k, .int .i64 bl, .int .i64 s, f]) :=
  bodyPost_ret (results_cell_row hr _ _ w.heap.size 117 _ (0, 0) _ hp (h.fin _).1 Tryz.underlying117 rfl sizeE) hd ⟨rfl, (h.fin _).2⟩
theorem binary_any (op : Int) (name : ByteArray) (c : Int) (w : World) : Calls Tryz.prog 117 #[.int .i64 op, .string name, .int .i64 c] w fun e w' => e = .returned (entV op name 2 1 c false 0 0 0 (.func (.func 142) #[] #[])) ∧ Below w.heap.size w w' := by
  obtain ⟨wA, hA, hb, hz⟩ := mk w
  go_enter Tryz.func117, Tryz.ntmps117
  go_wp2_with fail
  refine (row_any _ _ _ _ _ _).mono ?_
  rintro e w1 ⟨rfl, h1⟩
  have hm := Made.of hb hz h1
  unfold rowV
  go_wp2_with (refine wpList_store_row rfl 117 _ _ rfl w.heap.size _ rfl rfl 117 zE hm.blk (by exact sizeE) (by rfl) (by simp [Value.oneCell']) ?_)
  exact hm.done rfl rfl rfl
theorem unary_any (op : Int) (name : ByteArray) (w : World) : Calls Tryz.prog 118 #[.int .i64 op, .string name] w fun e w' => e = .returned (entV op name 1 1 1 false 0 0 0 (.func (.func 144) #[] #[])) ∧ Below w.heap.size w w' := by
  obtain ⟨wA, hA, hb, hz⟩ := mk w
  go_enter Tryz.func118, Tryz.ntmps118
  go_wp2_with fail
  refine (row_any _ _ _ _ _ _).mono ?_
  rintro e w1 ⟨rfl, h1⟩
  have hm := Made.of hb hz h1
  unfold rowV
  go_wp2_with (refine wpList_store_row rfl 117 _ _ rfl w.heap.size _ rfl rfl 117 zE hm.blk (by exact sizeE) (by rfl) (by simp [Value.oneCell']) ?_)
  exact hm.done rfl rfl rfl
theorem peek_any (op : Int) (name : ByteArray) (k bl : Int) (w : World) : Calls Tryz.prog 128 #[.int .i64 op, .string name, .int .i64 k, .int .i64 bl] w fun e w' => e = .returned (entV op name 0 1 1 false k bl 0 (.func (.func 147) #[] #[])) ∧ Below w.heap.size w w' := by
  obtain ⟨wA, hA, hb, hz⟩ := mk w
  go_enter Tryz.func128, Tryz.ntmps128
  go_wp2_with fail
  refine (row_any _ _ _ _ _ _).mono ?_
  rintro e w1 ⟨rfl, h1⟩
  have hm := Made.of hb hz h1
  unfold rowV
  go_wp2_with (refine wpList_store_row rfl 117 _ _ rfl w.heap.size _ rfl rfl 117 zE hm.blk (by exact sizeE) (by rfl) (by simp [Value.oneCell']) ?_)
  exact hm.done rfl rfl rfl
theorem withOperand_any (op i o c : Int) (w : World) : Calls Tryz.prog 103 #[.int .i64 op, .int .i64 i, .int .i64 o, .int .i64 c] w fun e w' => e = .returned (entV op ⟨#[]⟩ i o c true 0 0 0 .nilFunc) ∧ Below w.heap.size w w' := by
  obtain ⟨wA, hA, hb, hz⟩ := mk w
  go_enter Tryz.func103, Tryz.ntmps103
  go_wp2_with fail
  refine (row_any _ _ _ _ _ _).mono ?_
  rintro e w1 ⟨rfl, h1⟩
  obtain ⟨w2, hw2⟩ : ∃ w2, w1.alloc (.cells #[.int .i64 op, .string { data := #[] }, .int .i64 i, .int .i64 o, .int .i64 c, .bool true] 57) = w2 := ⟨_, rfl⟩
  have h2 : Below wA.heap.size wA w2 := by rw [← hw2]; exact h1.alloc h1.size _
  have hr2 : w2.heap[w1.heap.size]? = some (.cells #[.int .i64 op, .string { data := #[] }, .int .i64 i, .int .i64 o, .int .i64 c, .bool true] 57 (0, 0)) := by rw [← hw2]; exact heap_alloc_new w1 _
  have hm := Made.of hb hz h2
  unfold rowV
  go_wp2_with (first | (refine wpList_load_row rfl 57 _ rfl w1.heap.size rfl 57 _ (0, 0) _ hr2 Tryz.underlying57 rfl (by exact sizeR) ?_) | (refine wpList_store_row rfl 117 _ _ rfl w.heap.size _ rfl rfl 117 zE hm.blk (by exact sizeE) (by rfl) (by simp [Value.oneCell']) ?_))
  exact hm.done rfl rfl rfl
end Go.Proofs.YtgponcjjnjpfkabGreat.P
/-! Lists in memory, element by element; the cells of a stack. -/
namespace Go.Proofs.YtgponcjjnjpfkabGreat.S
open Go.RowKit
set_option linter.unusedVariables false
set_option linter.unusedSimpArgs false
open Go.Proofs

/-! ### Elements of some cells each -/
def en {α : Type} (e : α → List Value) (l : List α) : List Value := l.flatMap e
theorem en_append {α : Type} (e : α → List Value) (a b : List α) : en e (a ++ b) = en e a ++ en e b := by simp [en]
theorem en_nil {α : Type} (e : α → List Value) : en e [] = [] := rfl
theorem en_cons {α : Type} (e : α → List Value) (a : α) (l : List α) : en e (a :: l) = e a ++ en e l := by simp [en]
theorem en_len {α : Type} {e : α → List Value} {s : Nat} (hs : ∀ a, (e a).length = s) : ∀ l : List α, (en e l).length = l.length * s
  | [] => by simp [en]
  | a :: l => by rw [en_cons, List.length_append, hs, en_len hs l, List.length_cons, Nat.succ_mul, Nat.add_comm]
theorem en_get {α : Type} {e : α → List Value} {s : Nat} (hs : ∀ a, (e a).length = s) : ∀ (l : List α) (i j : Nat) (a : α), l[i]? = some a → j < s → (en e l)[i * s + j]? = (e a)[j]?
  | [], i, j, a, h, _ => by simp at h
  | b :: l, 0, j, a, h, hj => by
    simp at h; subst h
    rw [en_cons, Nat.zero_mul, Nat.zero_add, List.getElem?_append_left (by rw [hs]; exact hj)]
  | b :: l, i + 1, j, a, h, hj => by
    have ih := en_get hs l i j a (by simpa using h) hj
    rw [en_cons, List.getElem?_append_right (by rw [hs, Nat.succ_mul]; omega), hs, ← ih]
    congr 1
    rw [Nat.succ_mul]; omega
theorem en_take {α : Type} {e : α → List Value} {s : Nat} (hs : ∀ a, (e a).length = s) : ∀ (l : List α) (i : Nat), (en e l).take (i * s) = en e (l.take i)
  | [], i => by simp [en]
  | b :: l, 0 => by simp [en]
  | b :: l, i + 1 => by
    rw [en_cons, List.take_succ_cons, en_cons, ← en_take hs l i, List.take_append, hs, Nat.succ_mul, Nat.add_sub_cancel, List.take_of_length_le (by rw [hs]; omega)]
theorem en_drop {α : Type} {e : α → List Value} {s : Nat} (hs : ∀ a, (e a).length = s) : ∀ (l : List α) (i : Nat), (en e l).drop (i * s) = en e (l.drop i)
  | [], i => by simp [en]
  | b :: l, 0 => by simp [en]
  | b :: l, i + 1 => by
    rw [en_cons, List.drop_succ_cons, ← en_drop hs l i, List.drop_append, hs, Nat.succ_mul, Nat.add_sub_cancel, List.drop_of_length_le (by rw [hs]; omega), List.nil_append]
theorem en_part {α : Type} {e : α → List Value} {s : Nat} (hs : ∀ a, (e a).length = s) (hp : 0 < s) (l : List α) (j : Nat) (u : Value) (h : (en e l)[j]? = some u) : ∃ a, l[j / s]? = some a ∧ (e a)[j % s]? = some u := by
  have hj : j < l.length * s := by rw [← en_len hs]; exact (List.getElem?_eq_some_iff.1 h).1
  have hi : j / s < l.length := (Nat.div_lt_iff_lt_mul hp).2 hj
  refine ⟨l[j / s], List.getElem?_eq_getElem hi, ?_⟩
  rw [← en_get hs l (j / s) (j % s) _ (List.getElem?_eq_getElem hi) (Nat.mod_lt _ hp), ← h]
  congr 1
  rw [Nat.mul_comm]; exact Nat.div_add_mod j s
def eU (z : Int) : List Value := [.int .u16 z]
def eK (t : Int × Int) : List Value := [.int .i64 t.1, .int .u16 t.2]
theorem hU (a : Int) : (eU a).length = 1 := rfl
theorem hK (a : Int × Int) : (eK a).length = 2 := rfl
theorem oneU (l : List Int) : ∀ u ∈ en eU l, u.oneCell' = true := by intro u hu; simp [en, eU] at hu; obtain ⟨x, _, rfl⟩ := hu; rfl
theorem oneK (l : List (Int × Int)) : ∀ u ∈ en eK l, u.oneCell' = true := by
  intro u hu; simp [en, eK] at hu; obtain ⟨a, b, _, h⟩ := hu; rcases h with rfl | rfl <;> rfl

/-! ### The cells of a stack -/
def rest {α : Type} (z : α) (l : List α) : List α := List.replicate (256 - l.length) z
def pc {α : Type} (e : α → List Value) (z : α) (l : List α) : List Value := en e (l ++ rest z l) ++ [.int .i64 (l.length : Int)]
theorem pc_len0 {α : Type} {e : α → List Value} {s : Nat} (hs : ∀ a, (e a).length = s) (z : α) (l : List α) (h : l.length ≤ 256) : (en e (l ++ rest z l)).length = 256 * s := by
  rw [en_len hs, List.length_append, rest, List.length_replicate]; congr 1; omega
theorem pc_len {α : Type} {e : α → List Value} {s : Nat} (hs : ∀ a, (e a).length = s) (z : α) (l : List α) (h : l.length ≤ 256) : (pc e z l).length = 256 * s + 1 := by
  rw [pc, List.length_append, pc_len0 hs z l h]; rfl
theorem pc_count {α : Type} {e : α → List Value} {s : Nat} (hs : ∀ a, (e a).length = s) (z : α) (l : List α) (h : l.length ≤ 256) : (pc e z l)[256 * s]? = some (.int .i64 (l.length : Int)) := by
  rw [pc, List.getElem?_append_right (by rw [pc_len0 hs z l h]; exact Nat.le_refl _), pc_len0 hs z l h, Nat.sub_self]; rfl
theorem pc_get {α : Type} {e : α → List Value} {s : Nat} (hs : ∀ a, (e a).length = s) (z : α) (l : List α) (h : l.length ≤ 256) (i j : Nat) (a : α) (ha : l[i]? = some a) (hj : j < s) : (pc e z l)[i * s + j]? = (e a)[j]? := by
  have hi : i < l.length := (List.getElem?_eq_some_iff.1 ha).1
  have h1 : i * s + j < 256 * s := by
    have : (i + 1) * s ≤ 256 * s := Nat.mul_le_mul_right s (by omega)
    rw [Nat.succ_mul] at this; omega
  rw [pc, List.getElem?_append_left (by rw [pc_len0 hs z l h]; exact h1)]
  exact en_get hs _ i j a (by rw [List.getElem?_append_left hi]; exact ha) hj
theorem pc_put {α : Type} {e : α → List Value} {s : Nat} (hs : ∀ a, (e a).length = s) (z : α) (l x : List α) (h : l.length + x.length ≤ 256) : ((pc e z l).take (l.length * s) ++ en e x ++ (pc e z l).drop (l.length * s + x.length * s)).set (256 * s) (.int .i64 ((l.length : Int) + (x.length : Int))) = pc e z (l ++ x) := by
  have e0 : l.length * s ≤ (en e (l ++ rest z l)).length := by rw [pc_len0 hs z l (by omega)]; exact Nat.mul_le_mul_right s (by omega)
  have e0' : l.length * s + x.length * s ≤ (en e (l ++ rest z l)).length := by rw [pc_len0 hs z l (by omega), ← Nat.add_mul]; exact Nat.mul_le_mul_right s (by omega)
  have e1 : (pc e z l).take (l.length * s) = en e l := by
    rw [pc, List.take_append_of_le_length e0, en_take hs, List.take_left' rfl]
  have e2 : (pc e z l).drop (l.length * s + x.length * s) = en e (rest z (l ++ x)) ++ [.int .i64 (l.length : Int)] := by
    rw [pc, List.drop_append_of_le_length e0', ← Nat.add_mul, en_drop hs]
    congr 2
    rw [List.drop_append, List.drop_of_length_le (by omega), List.nil_append, rest, rest, List.drop_replicate, List.length_append]
    congr 1; omega
  rw [e1, e2, ← List.append_assoc, ← en_append, ← en_append]
  have e3 : (en e (l ++ x ++ rest z (l ++ x))).length = 256 * s := pc_len0 hs z (l ++ x) (by simp; omega)
  rw [List.set_append_right _ _ (by rw [e3]; exact Nat.le_refl _), e3, Nat.sub_self, pc]
  congr 1
  simp
theorem set_mid {β : Type} (a b : List β) (x y : β) : (a ++ x :: b).set a.length y = a ++ y :: b := by simp
theorem rest_snoc {α : Type} (z a : α) (l : List α) (h : l.length < 256) : rest z l = z :: rest z (l ++ [a]) := by
  rw [rest, rest, show 256 - l.length = (256 - (l ++ [a]).length) + 1 by simp; omega, List.replicate_succ]
theorem pcU_pop (l : List Int) (a : Int) (h : l.length < 256) : ((pc eU 0 (l ++ [a])).set l.length (.int .u16 0)).set 256 (.int .i64 (l.length : Int)) = pc eU 0 l := by
  have e1 : pc eU 0 (l ++ [a]) = en eU l ++ (.int .u16 a :: (en eU (rest 0 (l ++ [a])) ++ [.int .i64 ((l ++ [a]).length : Int)])) := by
    rw [pc, en_append, en_append]; simp [en, eU]
  have e2 : (en eU l).length = l.length := by rw [en_len hU]; omega
  have e3 : (en eU (rest 0 (l ++ [a]))).length = 255 - l.length := by rw [en_len hU, rest, List.length_replicate, List.length_append]; simp only [List.length_cons, List.length_nil]; omega
  have h1 := set_mid (en eU l) (en eU (rest 0 (l ++ [a])) ++ [Value.int .i64 ((l ++ [a]).length : Int)]) (.int .u16 a) (.int .u16 0)
  rw [e2] at h1
  rw [e1, h1, pc, rest_snoc 0 a l h, en_append, en_cons]
  rw [List.set_append_right _ _ (by omega), e2, show 256 - l.length = (255 - l.length) + 1 by omega, List.set_cons_succ, List.set_append_right _ _ (by omega), e3, Nat.sub_self]
  simp [eU]
theorem pcK_pop (l : List (Int × Int)) (a : Int × Int) (h : l.length < 256) : (((pc eK (0, 0) (l ++ [a])).set (l.length * 2) (.int .i64 0)).set (l.length * 2 + 1) (.int .u16 0)).set 512 (.int .i64 (l.length : Int)) = pc eK (0, 0) l := by
  have e1 : pc eK (0, 0) (l ++ [a]) = en eK l ++ (.int .i64 a.1 :: .int .u16 a.2 :: (en eK (rest (0, 0) (l ++ [a])) ++ [.int .i64 ((l ++ [a]).length : Int)])) := by
    rw [pc, en_append, en_append]; simp [en, eK]
  have e2 : (en eK l).length = l.length * 2 := by rw [en_len hK]
  have e3 : (en eK (rest (0, 0) (l ++ [a]))).length = (255 - l.length) * 2 := by rw [en_len hK, rest, List.length_replicate, List.length_append]; simp only [List.length_cons, List.length_nil]; omega
  rw [e1, List.set_append_right _ _ (by omega), e2, Nat.sub_self, List.set_cons_zero, List.set_append_right _ _ (by omega), e2, show l.length * 2 + 1 - l.length * 2 = 0 + 1 by omega, List.set_cons_succ, List.set_cons_zero,
    pc, rest_snoc (0, 0) a l h, en_append, en_cons, List.set_append_right _ _ (by omega), e2, show 512 - l.length * 2 = (255 - l.length) * 2 + 1 + 1 by omega, List.set_cons_succ, List.set_cons_succ, List.set_append_right _ _ (by omega), e3, Nat.sub_self]
  simp [eK]
theorem pcK_set (l : List (Int × Int)) (a : Int × Int) (x : Int) (h : l.length < 256) : (pc eK (0, 0) (l ++ [a])).set (l.length * 2 + 1) (.int .u16 x) = pc eK (0, 0) (l ++ [(a.1, x)]) := by
  have e1 : ∀ a : Int × Int, pc eK (0, 0) (l ++ [a]) = en eK l ++ (.int .i64 a.1 :: .int .u16 a.2 :: (en eK (rest (0, 0) (l ++ [a])) ++ [.int .i64 ((l ++ [a]).length : Int)])) := by
    intro a; rw [pc, en_append, en_append]; simp [en, eK]
  have e2 : (en eK l).length = l.length * 2 := by rw [en_len hK]
  rw [e1, e1, List.set_append_right _ _ (by omega), e2, show l.length * 2 + 1 - l.length * 2 = 0 + 1 by omega, List.set_cons_succ, List.set_cons_zero]
  simp [rest]

/-! ### Worlds -/
theorem lt_of {W : World} {i : Nat} {o : Obj} (e : W.heap[i]? = some o) : i < W.heap.size := (Array.getElem?_eq_some_iff.1 e).1
theorem setCell_heap (W : World) (b i : Nat) (c : List Value) (t : TypeId) (v : Value) (h : W.heap[b]? = some (.cells c.toArray t (0, 0))) : (W.setCell ⟨b, i, none⟩ v).heap[b]? = some (.cells (c.set i v).toArray t (0, 0)) := by
  simp [World.setCell, Array.getElem?_modify, h]
theorem setCell_other (W : World) (b i k : Nat) (v : Value) (h : k ≠ b) : (W.setCell ⟨b, i, none⟩ v).heap[k]? = W.heap[k]? := Below.heap_setCell W _ v k h
theorem setCell_size (W : World) (a : Addr) (v : Value) : (W.setCell a v).heap.size = W.heap.size := by simp [World.setCell]
theorem cell_of (W : World) (b i : Nat) (c : List Value) (t : TypeId) (v : Value) (h : W.heap[b]? = some (.cells c.toArray t (0, 0))) (hi : c[i]? = some v) : W.cell? ⟨b, i, none⟩ = some v := by
  simp [World.cell?, h, hi]
theorem frozen_of (W : World) (b i : Nat) (c : List Value) (t : TypeId) (h : W.heap[b]? = some (.cells c.toArray t (0, 0))) : W.frozen? ⟨b, i, none⟩ = false := by
  simp [World.frozen?, h]
/-- Only blocks of F and new ones are touched. -/
structure Tc (F : Nat → Prop) (W W' : World) : Prop where
  os : W'.os = W.os
  tape : W'.tape = W.tape
  output : W'.output = W.output
  size : W.heap.size ≤ W'.heap.size
  block : ∀ k, k < W.heap.size → ¬ F k → W'.heap[k]? = W.heap[k]?
theorem Tc.refl (F : Nat → Prop) (W : World) : Tc F W W := ⟨rfl, rfl, rfl, Nat.le_refl _, fun _ _ _ => rfl⟩
theorem Tc.trans {F G H : Nat → Prop} {a b c : World} (h : Tc F a b) (k : Tc G b c) (hF : ∀ i, F i → H i) (hG : ∀ i, i < a.heap.size → G i → H i) : Tc H a c :=
  ⟨k.os.trans h.os, k.tape.trans h.tape, k.output.trans h.output, Nat.le_trans h.size k.size, fun i hi hn => (k.block i (Nat.lt_of_lt_of_le hi h.size) fun g => hn (hG i hi g)).trans (h.block i hi fun f => hn (hF i f))⟩
theorem Tc.of_below {F : Nat → Prop} {B : Nat} {a b : World} (h : Below B a b) (hF : ∀ i, B ≤ i → i < a.heap.size → F i) : Tc F a b :=
  ⟨h.os, h.tape, h.output, h.size, fun i hi hn => h.block i (by apply Decidable.byContradiction; intro c; exact hn (hF i (by omega) hi))⟩
theorem Tc.below {F : Nat → Prop} {B : Nat} {a b : World} (h : Tc F a b) (hB : B ≤ a.heap.size) (hF : ∀ i, F i → B ≤ i) : Below B a b :=
  ⟨h.os, h.tape, h.output, h.size, fun i hi => h.block i (by omega) fun f => by have := hF i f; omega⟩
theorem Tc.setCell {F : Nat → Prop} {a b : World} (h : Tc F a b) (g i : Nat) (hg : F g) (v : Value) : Tc F a (b.setCell ⟨g, i, none⟩ v) :=
  ⟨h.os, h.tape, h.output, by rw [setCell_size]; exact h.size, fun k hk hn => (setCell_other _ _ _ _ _ (by rintro rfl; exact hn hg)).trans (h.block k hk hn)⟩
theorem Tc.drew {F : Nat → Prop} {a b : World} (h : Tc F a b) : Tc F a b.drew := ⟨h.os, h.tape, h.output, h.size, h.block⟩
theorem Tc.drewN {F : Nat → Prop} {a b : World} (h : Tc F a b) (q : Nat) : Tc F a (b.drewN q) := ⟨h.os, h.tape, h.output, h.size, h.block⟩

/-! ### A slice value that reads as this list -/
def Sl {α : Type} (e : α → List Value) (s : Nat) (W : World) (p : Option Addr) (l : List α) : Prop := ∀ i a, l[i]? = some a → ∃ b o, p = some ⟨b, o, none⟩ ∧ ∀ j u, (e a)[j]? = some u → W.cell? ⟨b, o + i * s + j, none⟩ = some u
def Ls {α : Type} (e : α → List Value) (s : Nat) (W : World) (v : Value) (l : List α) : Prop := (v = .slice none 0 0 ∧ l = []) ∨ ∃ x c, v = .slice (some x) l.length c ∧ l.length ≤ c ∧ Sl e s W (some x) l
theorem Ls.ex {α : Type} {e : α → List Value} {s : Nat} {W : World} {v : Value} {l : List α} (h : Ls e s W v l) : ∃ p c, v = .slice p l.length c ∧ l.length ≤ c ∧ Sl e s W p l := by
  rcases h with ⟨rfl, rfl⟩ | ⟨x, c, rfl, h1, h2⟩
  · exact ⟨none, 0, rfl, Nat.le_refl _, fun i a h => by simp at h⟩
  · exact ⟨some x, c, rfl, h1, h2⟩
theorem Sl.kept {α : Type} {e : α → List Value} {s : Nat} {W W' : World} {p : Option Addr} {l : List α} (h : Sl e s W p l) (k : ∀ b o u, p = some ⟨b, o, none⟩ → ∀ i, W.cell? ⟨b, i, none⟩ = some u → W'.cell? ⟨b, i, none⟩ = some u) : Sl e s W' p l := by
  intro i a hi
  obtain ⟨b, o, e1, e2⟩ := h i a hi
  exact ⟨b, o, e1, fun j u hj => k b o u e1 _ (e2 j u hj)⟩
theorem Sl.below {α : Type} {e : α → List Value} {s : Nat} {W W' : World} {p : Option Addr} {l : List α} (h : Sl e s W p l) (b : Below W.heap.size W W') : Sl e s W' p l :=
  h.kept fun g o u _ i hu => by rw [b.cell (World.block_lt_of_cell? W _ hu)]; exact hu
theorem Sl.tc {α : Type} {e : α → List Value} {s : Nat} {W W' : World} {F : Nat → Prop} {p : Option Addr} {l : List α} (h : Sl e s W p l) (b : Tc F W W') (hF : ∀ g o, p = some ⟨g, o, none⟩ → ¬ F g) : Sl e s W' p l :=
  h.kept fun g o u hp i hu => by rw [World.cell?_of_block (b.block g (World.block_lt_of_cell? W _ hu) (hF g o hp))]; exact hu
theorem Sl.u {W : World} {p : Option Addr} {l : List Int} (h : Sl eU 1 W p l) (i : Nat) (a : Int) (hi : l[i]? = some a) : ∃ b o, p = some ⟨b, o, none⟩ ∧ W.cell? ⟨b, o + i, none⟩ = some (.int .u16 a) := by
  obtain ⟨b, o, e1, e2⟩ := h i a hi
  exact ⟨b, o, e1, by have := e2 0 _ rfl; rwa [Nat.mul_one] at this⟩
theorem Sl.k {W : World} {p : Option Addr} {l : List (Int × Int)} (h : Sl eK 2 W p l) (i : Nat) (a : Int × Int) (hi : l[i]? = some a) : ∃ b o, p = some ⟨b, o, none⟩ ∧ W.cell? ⟨b, o + i * 2, none⟩ = some (.int .i64 a.1) ∧ W.cell? ⟨b, o + i * 2 + 1, none⟩ = some (.int .u16 a.2) := by
  obtain ⟨b, o, e1, e2⟩ := h i a hi
  exact ⟨b, o, e1, e2 0 _ rfl, e2 1 _ rfl⟩
theorem Sl.take {α : Type} {e : α → List Value} {s : Nat} {W : World} {p : Option Addr} {l : List α} (h : Sl e s W p l) (n : Nat) : Sl e s W p (l.take n) := by
  intro i a hi
  rw [List.getElem?_take] at hi
  split at hi
  · exact h i a hi
  · cases hi
theorem Sl.news {α : Type} {e : α → List Value} {s : Nat} (hs : ∀ a, (e a).length = s) (hp : 0 < s) {W : World} {ad : Addr} {l : List α} (h : Sl e s W (some ad) l) (j : Nat) (u : Value) (hj : (en e l)[j]? = some u) : W.cell? (ad.add j) = some u := by
  obtain ⟨a, h1, h2⟩ := en_part hs hp l j u hj
  obtain ⟨b, o, e1, e2⟩ := h _ a h1
  simp only [Option.some.injEq] at e1
  subst e1
  have := e2 _ u h2
  rw [Addr.add_lit]
  rw [Nat.add_assoc, Nat.mul_comm, Nat.div_add_mod] at this
  exact this
/-- A row in a block of its own. -/
theorem own_mono {w : World} {B B' : Nat} {e : TypeId} {size : Nat} {v : Value} {n : Nat} {xs : List Value} (h : w.ownsRow B e size v n xs) (hb : B' ≤ B) : w.ownsRow B' e size v n xs := by
  refine ⟨h.1, ?_⟩
  rcases h.2 with h | ⟨g, cap, cur, h1, h2, h3⟩
  · exact .inl h
  · exact .inr ⟨g, cap, cur, h1, Nat.le_trans hb h2, h3⟩
theorem own_kept {W W' : World} {B : Nat} {e : TypeId} {size : Nat} {v : Value} {n : Nat} {xs : List Value} (h : W.ownsRow B e size v n xs) (k : ∀ g, v.ownBlock = some g → g < W.heap.size → W'.heap[g]? = W.heap[g]?) : W'.ownsRow B e size v n xs := by
  refine ⟨h.1, ?_⟩
  rcases h.2 with h | ⟨g, cap, cur, rfl, h2, h3, h4⟩
  · exact .inl h
  · exact .inr ⟨g, cap, cur, rfl, h2, (k g rfl (Array.getElem?_eq_some_iff.1 h3).1).trans h3, h4⟩
theorem own_sl {α : Type} {e : α → List Value} {s : Nat} (hs : ∀ a, (e a).length = s) {W : World} {B : Nat} {t : TypeId} {v : Value} {l : List α} (h : W.ownsRow B t s v l.length (en e l)) : Ls e s W v l := by
  have h' := h
  rcases h.2 with ⟨rfl, e⟩ | ⟨g, cap, cur, rfl, _, hg, hcap, _⟩
  · exact .inl ⟨rfl, List.eq_nil_of_length_eq_zero e⟩
  · refine .inr ⟨⟨g, 0, none⟩, cap, rfl, hcap, fun i a hi => ⟨g, 0, rfl, fun j u hj => ?_⟩⟩
    have hj' : j < s := by rw [← hs a]; exact (List.getElem?_eq_some_iff.1 hj).1
    have := World.ownsRow.cells h' (g := g) rfl (i * s + j) u (by rw [en_get hs l i j a hi hj']; exact hj)
    rw [Addr.add_lit] at this
    rw [Nat.add_assoc]; exact this
end Go.Proofs.YtgponcjjnjpfkabGreat.S
/-! The data stack: its calls. -/
namespace Go.Proofs.YtgponcjjnjpfkabGreat.S
open Go.RowKit
open Go.Proofs
set_option linter.unusedVariables false
set_option linter.unusedSimpArgs false
def HasD (W : World) (b : Nat) (l : List Int) : Prop := W.heap[b]? = some (.cells (pc eU 0 l).toArray 87 (0, 0)) ∧ l.length ≤ 256
theorem HasD.count {W : World} {b : Nat} {l : List Int} (h : HasD W b l) : W.cell? ⟨b, 256, none⟩ = some (.int .i64 (l.length : Int)) := cell_of W b 256 _ 87 _ h.1 (pc_count hU 0 l h.2)
theorem HasD.get {W : World} {b : Nat} {l : List Int} (h : HasD W b l) (i : Nat) (a : Int) (hi : l[i]? = some a) : W.cell? ⟨b, i, none⟩ = some (.int .u16 a) := by
  have := pc_get hU 0 l h.2 i 0 a hi (by omega)
  exact cell_of W b i _ 87 _ h.1 (by rw [Nat.mul_one] at this; exact this)
theorem HasD.kept {W W' : World} {b : Nat} {l : List Int} (h : HasD W b l) (k : W'.heap[b]? = W.heap[b]?) : HasD W' b l := ⟨k.trans h.1, h.2⟩
theorem HasD.below {W W' : World} {b : Nat} {l : List Int} (h : HasD W b l) (k : Below W.heap.size W W') : HasD W' b l := h.kept (k.block b (lt_of h.1))
theorem HasD.len_lt {W : World} {b : Nat} {l : List Int} (h : HasD W b l) : (l.length : Int) ≤ 256 := by have := h.2; omega
theorem i64_id (z : Int) (h0 : -9223372036854775808 ≤ z) (h1 : z < 9223372036854775808) : IntKind.i64.wrap z = z := by
  simp [IntKind.wrap, IntKind.bits, IntKind.signed]; omega
set_option maxHeartbeats 1000000
set_option maxRecDepth 100000
theorem dlen (b : Nat) (l : List Int) (w : World) (h : HasD w b l) : Calls Tryz.prog 78 #[.pointer (some ⟨b, 0, none⟩)] w fun e w' => e = .returned (.int .i64 (l.length : Int)) ∧ w' = w := by
  have c := h.count
  go_enter Tryz.func78, Tryz.ntmps78
  go_wp2
  go_ret
  exact ⟨rfl, rfl⟩
theorem dlen_nil (w : World) : Calls Tryz.prog 78 #[.pointer none] w fun e w' => e = .returned (.int .i64 0) ∧ w' = w := by
  go_enter Tryz.func78, Tryz.ntmps78
  go_wp2
  go_ret
  exact ⟨rfl, rfl⟩
theorem dtop (b : Nat) (l : List Int) (a : Int) (w : World) (h : HasD w b (l ++ [a])) : Calls Tryz.prog 148 #[.pointer (some ⟨b, 0, none⟩), .int .i64 0] w fun e w' => e = .returned (.pointer (some ⟨b, l.length, none⟩)) ∧ ∃ q, w' = w.drewN q := by
  have c := h.count
  have hl := h.2
  simp only [List.length_append, List.length_cons, List.length_nil] at c hl
  have e1 : IntKind.i64.wrap (((l.length + 1 : Nat) : Int) - 1) = (l.length : Int) := by rw [i64_id _ (by omega) (by omega)]; omega
  have e2 : IntKind.i64.wrap ((l.length : Int) - 0) = (l.length : Int) := by rw [i64_id _ (by omega) (by omega)]; omega
  have hk : (l.length : Int) < 256 := by omega
  generalize hK : ((l.length + 1 : Nat) : Int) = K at *
  go_enter Tryz.func148, Tryz.ntmps148
  go_wp2_with fail
  go_quiet (fail)
  go_wp2
  go_ret
  exact ⟨rfl, _, rfl⟩
/-- What a call at the block b leaves: only that block is touched. -/
def At (b : Nat) (W W' : World) : Prop := Tc (fun k => k = b) W W'
theorem HasD.set2 {W : World} {b : Nat} {l : List Int} {a : Int} (h : HasD W b (l ++ [a])) : HasD ((W.setCell ⟨b, l.length, none⟩ (.int .u16 0)).setCell ⟨b, 256, none⟩ (.int .i64 (l.length : Int))) b l := by
  have hl := h.2
  simp only [List.length_append, List.length_cons, List.length_nil] at hl
  refine ⟨?_, by omega⟩
  rw [setCell_heap _ b 256 _ 87 _ (setCell_heap W b l.length _ 87 _ h.1), pcU_pop l a (by omega)]
theorem dtake (b : Nat) (l : List Int) (a : Int) (w : World) (h : HasD w b (l ++ [a])) : Calls Tryz.prog 138 #[.pointer (some ⟨b, 0, none⟩)] w fun e w' => e = .returned (.int .u16 a) ∧ HasD w' b l ∧ At b w w' := by
  have hl := h.2
  simp only [List.length_append, List.length_cons, List.length_nil] at hl
  go_enter Tryz.func138, Tryz.ntmps138
  go_wp2_with fail
  refine (dtop b l a w h).mono ?_
  rintro e w1 ⟨rfl, q, hq⟩
  have h1 : HasD w1 b (l ++ [a]) := by rw [hq]; exact h
  have t1 : At b w w1 := by rw [hq]; exact (Tc.refl _ _).drewN q
  clear hq
  have g1 := h1.get l.length a (by simp)
  go_wp2_with fail
  refine (dtop b l a w1 h1).mono ?_
  rintro e w2 ⟨rfl, q, hq⟩
  have h2 : HasD w2 b (l ++ [a]) := by rw [hq]; exact h1
  have t2 : At b w w2 := by rw [hq]; exact t1.drewN q
  clear hq g1
  have g2 := h2.get l.length a (by simp)
  have z2 := frozen_of w2 b l.length _ 87 h2.1
  have hb := setCell_heap w2 b l.length _ 87 (.int .u16 0) h2.1
  have c3 : (w2.setCell ⟨b, l.length, none⟩ (.int .u16 0)).cell? ⟨b, 256, none⟩ = some (.int .i64 ((l.length + 1 : Nat) : Int)) := by
    refine cell_of _ b 256 _ 87 _ hb ?_
    rw [List.getElem?_set_ne (by omega)]
    have := pc_count hU 0 _ h2.2
    simpa using this
  have z3 : (w2.setCell ⟨b, l.length, none⟩ (.int .u16 0)).frozen? ⟨b, 256, none⟩ = false := frozen_of _ b 256 _ 87 hb
  have e1 : IntKind.i64.wrap (((l.length + 1 : Nat) : Int) - 1) = (l.length : Int) := by rw [i64_id _ (by omega) (by omega)]; omega
  have h3 := h2.set2
  have t3 : At b w ((w2.setCell ⟨b, l.length, none⟩ (.int .u16 0)).setCell ⟨b, 256, none⟩ (.int .i64 (l.length : Int))) := (t2.setCell b _ rfl _).setCell b _ rfl _
  generalize hK : ((l.length + 1 : Nat) : Int) = K at *
  clear hb h2 t2 hl hK
  go_wp2
  go_ret
  exact ⟨rfl, h3, t3⟩
theorem dpop (b : Nat) (l : List Int) (a : Int) (w : World) (h : HasD w b (l ++ [a])) : Calls Tryz.prog 80 #[.pointer (some ⟨b, 0, none⟩)] w fun e w' => e = .returned (.int .u16 a) ∧ HasD w' b l ∧ At b w w' := by
  have hd := dlen b _ w h
  have hn : (((l ++ [a]).length : Int) == 0) = false := by simp; omega
  generalize hK : (((l ++ [a]).length : Nat) : Int) = K at *
  clear hK
  go_enter Tryz.func80, Tryz.ntmps80
  go_wp2_with fail
  refine hd.mono ?_
  rintro e w1 ⟨rfl, rfl⟩
  go_wp2_with fail
  refine (dtake b l a _ h).mono ?_
  rintro e w2 ⟨rfl, h2, t2⟩
  go_wp2
  go_ret
  exact ⟨rfl, h2, t2⟩
theorem dpop_empty (b : Nat) (w : World) (h : HasD w b []) : Calls Tryz.prog 80 #[.pointer (some ⟨b, 0, none⟩)] w fun e w' => e = .returned (.int .u16 0) ∧ w' = w := by
  have hd := dlen b _ w h
  go_enter Tryz.func80, Tryz.ntmps80
  go_wp2_with fail
  refine hd.mono ?_
  rintro e w1 ⟨rfl, rfl⟩
  go_wp2
  go_ret
  exact ⟨rfl, rfl⟩
theorem dpop_nil (w : World) : Calls Tryz.prog 80 #[.pointer none] w fun e w' => e = .returned (.int .u16 0) ∧ w' = w := by
  have hd := dlen_nil w
  go_enter Tryz.func80, Tryz.ntmps80
  go_wp2_with fail
  refine hd.mono ?_
  rintro e w1 ⟨rfl, rfl⟩
  go_wp2
  go_ret
  exact ⟨rfl, rfl⟩
end Go.Proofs.YtgponcjjnjpfkabGreat.S
/-! Append, copy, and rows of their own. -/
namespace Go.Proofs.YtgponcjjnjpfkabGreat.S
open Go.RowKit
open Go.Proofs
set_option linter.unusedVariables false
set_option linter.unusedSimpArgs false
def room : Nat := 140737488355328
theorem info32 : (Tryz.prog.info? 31).map (fun i => (i.zero, i.size, i.bytes)) = some (some (.int .u16 0), 1, 2) := by kernel_rfl
theorem info43 : (Tryz.prog.info? 68).map (fun i => (i.zero, i.size, i.bytes)) = some (some (.agg #[.int .i64 0, .int .u16 0]), 2, 16) := by kernel_rfl
theorem size32 : (Tryz.prog.info? 31).map (·.size) = some 1 := by kernel_rfl
theorem size43 : (Tryz.prog.info? 68).map (·.size) = some 2 := by kernel_rfl
theorem grownBy_any {w w' : World} (g : w.grownBy w' none) (r : Option Nat) : w.grownBy w' r := ⟨g.os, g.tape, g.output, g.size, fun k hk _ => g.block k hk (by simp)⟩
theorem own_pos {w : World} {B : Nat} {e : TypeId} {size : Nat} {v : Value} {n : Nat} {xs : List Value} (h : w.ownsRow B e size v n xs) (h0 : 0 < n) : ∃ g cap, v = .slice (some ⟨g, 0, none⟩) n cap := by
  rcases h.2 with ⟨_, h⟩ | ⟨g, cap, cur, h1, _⟩
  · omega
  · exact ⟨g, cap, h1⟩
/-- append onto a row of the call's own: into the same block, or into a new one. -/
theorem run_append_own2 {P : Program} (w : World) (t ty : TypeId) (base : Nat) (e : TypeId) (i : TypeInfo) (z : Value) (size bytes : Nat) (ht : P.underlying t = some (.slice e)) (hi : P.info? e = some i) (hz : i.zero = some z)
    (hsize : i.size = size) (hby : i.bytes = bytes) (hzs : z.cells.size = size) (hsz : 0 < size)
    (v : Value) (n : Nat) (xs : List Value) (hown : w.ownsRow base e size v n xs)
    (ad : Addr) (m c : Nat) (news : List Value) (hl : news.length = m * size) (hnews : ∀ j u, news[j]? = some u → w.cell? (ad.add j) = some u) (h1 : ∀ u ∈ news, u.oneCell' = true)
    (h63 : n + m ≤ maxLen) (hbytes : (n + m) * bytes ≤ 140737488355328) (hbase : base ≤ w.heap.size) :
    ∃ v' w', (Builtin.append_ #[t, t] ty #[v, .slice (some ad) m c]).run P w = .ok v' w' ∧ w'.ownsRow base e size v' (n + m) (xs ++ news) ∧ w.grownBy w' v.ownBlock ∧ (v'.ownBlock = v.ownBlock ∨ ∀ g, v'.ownBlock = some g → w.heap.size ≤ g) ∧ (v'.ownBlock = v.ownBlock ∨ w.grownBy w' none) := by
  have hown0 := hown
  rcases hown.2 with ⟨rfl, rfl⟩ | ⟨g, cap, cur, rfl, _, _, _⟩
  · obtain rfl : xs = [] := List.eq_nil_of_length_eq_zero (by simpa using hown.1)
    obtain ⟨v', w', hr, r1, r2, _⟩ := run_append_own (P := P) w w.heap.size t ty e i z size bytes ht hi hz hsize hby hzs hsz (.slice none 0 0) 0 [] (World.ownsRow_nil w _ e size) ad m c news hl hnews h1 h63 hbytes (Nat.le_refl _)
    exact ⟨v', w', hr, own_mono r1 hbase, r2, .inr fun g hg => (r1.lt g hg).1, .inr r2⟩
  · by_cases hroom : n + m ≤ cap
    · obtain ⟨w', hr, r1, r2⟩ := run_append_fits (P := P) w base t ty e i size ht hi hsize g n cap xs hown0 ad m c news hl hnews h1 hroom
      exact ⟨_, w', hr, r1, r2, .inl rfl, .inl rfl⟩
    · have holds : ∀ j u, xs[j]? = some u → w.cell? ((⟨g, 0, none⟩ : Addr).add j) = some u := hown0.cells (g := g) rfl
      obtain ⟨v', w', hr, r1, r2⟩ := run_append_arg_grows (P := P) w t ty e i z size bytes ht hi hz hsize hby hzs hsz ⟨g, 0, none⟩ n cap xs hown0.1 holds ad m c news hl hnews (by omega) h63 hbytes
      exact ⟨v', w', hr, own_mono r1 hbase, grownBy_any r2 _, .inr fun g hg => (r1.lt g hg).1, .inr r2⟩

/-- What an append does. -/
structure Grew (W W' : World) (v v' : Value) : Prop where
  os : W'.os = W.os
  tape : W'.tape = W.tape
  output : W'.output = W.output
  size : W.heap.size ≤ W'.heap.size
  block : ∀ k, k < W.heap.size → some k ≠ v.ownBlock → W'.heap[k]? = W.heap[k]?
  own : v'.ownBlock = v.ownBlock ∨ ∀ g, v'.ownBlock = some g → W.heap.size ≤ g
  stay : v'.ownBlock = v.ownBlock ∨ ∀ k, k < W.heap.size → W'.heap[k]? = W.heap[k]?
theorem Grew.refl (W : World) (v : Value) : Grew W W v v := ⟨rfl, rfl, rfl, Nat.le_refl _, fun _ _ _ => rfl, .inl rfl, .inl rfl⟩
theorem Grew.below {W W' : World} {v v' : Value} (h : Grew W W' v v') {B : Nat} (hB : ∀ g, v.ownBlock = some g → B ≤ g) (hs : B ≤ W.heap.size) : Below B W W' :=
  ⟨h.os, h.tape, h.output, h.size, fun k hk => h.block k (by omega) (fun e => by have := hB k e.symm; omega)⟩
/-- The cells that a slice value tells. -/
def Cs (w : World) (u : Value) (size m : Nat) (news : List Value) : Prop := (u = .slice none 0 0 ∧ m = 0 ∧ news = []) ∨ ∃ ad c, u = .slice (some ad) m c ∧ news.length = m * size ∧ (∀ j v, news[j]? = some v → w.cell? (ad.add j) = some v) ∧ ∀ v ∈ news, v.oneCell' = true
theorem wp_append_row (w : World) {o : Oper} {a : Act} {K : Act → World → Prop} {Q : Exit → Act → World → Prop} (s x : Operand) (t e : TypeId) (z : Value) (size bytes : Nat)
    (ht : Tryz.prog.underlying t = some (.slice e)) (hinf : (Tryz.prog.info? e).map (fun i => (i.zero, i.size, i.bytes)) = some (some z, size, bytes)) (hzs : z.cells.size = size) (hsz : 0 < size)
    (ho : o.op = .call { callee := .builtin .append, args := #[s, x], argTypes := #[t, t] }) (B : Nat) (v : Value) (n : Nat) (xs : List Value) (hs : a.eval s = v) (hown : w.ownsRow B e size v n xs)
    (u : Value) (m : Nat) (news : List Value) (hx : a.eval x = u) (hp : Cs w u size m news) (hb : (n + m) * bytes ≤ room) (hb2 : n + m ≤ maxLen) (hB : B ≤ w.heap.size)
    (h : ∀ v' w', w'.ownsRow B e size v' (n + m) (xs ++ news) → Grew w w' v v' → K (a.put o.dst v') w') : o.wp Tryz.prog a w K Q := by
  obtain ⟨i0, hi, hz0, hz1, hz2⟩ := info_parts hinf
  unfold room at hb
  rcases hp with ⟨rfl, rfl, rfl⟩ | ⟨ad, c, rfl, hl, hc, h1⟩
  · have hr := run_append_owned_none (P := Tryz.prog) w B t o.type e i0 size ht hi v n xs hown
    unfold Oper.wp execOp
    simp only [ho, resolve, invoke, builtin, Sem.run_bind, Sem.run_pure, Result.andThen_ok, List.map_toArray, List.map_cons, List.map_nil, hs, hx, hr]
    exact h v w (by simpa using hown) (Grew.refl _ _)
  · obtain ⟨v', w', hr, r1, r2, r3, r4⟩ := run_append_own2 (P := Tryz.prog) w t o.type B e i0 z size bytes ht hi hz0 hz1 hz2 hzs hsz v n xs hown ad m c news hl hc h1 hb2 hb hB
    unfold Oper.wp execOp
    simp only [ho, resolve, invoke, builtin, Sem.run_bind, Sem.run_pure, Result.andThen_ok, List.map_toArray, List.map_cons, List.map_nil, hs, hx, hr]
    exact h v' w' r1 ⟨r2.os, r2.tape, r2.output, r2.size, fun k hk e => r2.block k hk e, r3, r4.imp_right fun g k hk => g.block k hk (by simp)⟩
theorem wpList_append_row (w : World) {ops : Array Oper} {rest : List Oper} {o : Oper} {a : Act} {Q : Exit → Act → World → Prop} (hgd : o.guard = none) (s x : Operand) (t e : TypeId) (z : Value) (size bytes : Nat)
    (ht : Tryz.prog.underlying t = some (.slice e)) (hinf : (Tryz.prog.info? e).map (fun i => (i.zero, i.size, i.bytes)) = some (some z, size, bytes)) (hzs : z.cells.size = size) (hsz : 0 < size)
    (ho : o.op = .call { callee := .builtin .append, args := #[s, x], argTypes := #[t, t] }) (B : Nat) (v : Value) (n : Nat) (xs : List Value) (hs : a.eval s = v) (hown : w.ownsRow B e size v n xs)
    (u : Value) (m : Nat) (news : List Value) (hx : a.eval x = u) (hp : Cs w u size m news) (hb : (n + m) * bytes ≤ room) (hb2 : n + m ≤ maxLen) (hB : B ≤ w.heap.size)
    (h : ∀ v' w', w'.ownsRow B e size v' (n + m) (xs ++ news) → Grew w w' v v' → wpList Tryz.prog ops Q rest (a.put o.dst v') w') : wpList Tryz.prog ops Q (o :: rest) a w :=
  wpList_plain hgd fun _ hK => wp_append_row w s x t e z size bytes ht hinf hzs hsz ho B v n xs hs hown u m news hx hp hb hb2 hB fun v' w' h2 h3 => hK _ _ (h v' w' h2 h3)

theorem Ls.cs {α : Type} {e : α → List Value} {s : Nat} (hs : ∀ a, (e a).length = s) (hp : 0 < s) (h1 : ∀ l : List α, ∀ u ∈ en e l, u.oneCell' = true) {W : World} {v : Value} {l : List α} (h : Ls e s W v l) : Cs W v s l.length (en e l) := by
  rcases h with ⟨rfl, rfl⟩ | ⟨x, c, rfl, _, h2⟩
  · exact .inl ⟨rfl, rfl, rfl⟩
  · exact .inr ⟨x, c, rfl, en_len hs l, fun j u hj => h2.news hs hp j u hj, h1 l⟩
theorem Cs.below {W W' : World} {u : Value} {s n : Nat} {xs : List Value} (h : Cs W u s n xs) (b : Below W.heap.size W W') : Cs W' u s n xs := by
  rcases h with h | ⟨ad, c, e1, e2, e3, e4⟩
  · exact .inl h
  · exact .inr ⟨ad, c, e1, e2, fun j v hj => by have e := e3 j v hj; rw [b.cell (World.block_lt_of_cell? W _ e)]; exact e, e4⟩
theorem Ls.below {α : Type} {e : α → List Value} {s : Nat} {W W' : World} {v : Value} {l : List α} (h : Ls e s W v l) (b : Below W.heap.size W W') : Ls e s W' v l := by
  rcases h with h | ⟨x, c, e1, e2, e3⟩
  · exact .inl h
  · exact .inr ⟨x, c, e1, e2, e3.below b⟩
theorem Grew.belowAll {W W' : World} {v v' : Value} (h : Grew W W' v v') {N : Nat} (hB : ∀ g, v.ownBlock = some g → N ≤ g) {W0 : World} (h0 : Below N W0 W) (hN : N ≤ W0.heap.size) : Below N W0 W' :=
  h0.trans (h.below hB (Nat.le_trans hN h0.size))
theorem eql_nil (t e : TypeId) (ht : Tryz.prog.underlying t = some (.slice e)) (W : World) (p : Option Addr) (n c : Nat) : (binOp .eql t (.slice p n c) (.slice none 0 0)).run Tryz.prog W = .ok (.bool p.isNone) W := by
  have h : ∀ d : Nat, (Op.equalIn (d + 1) t (.slice p n c) (.slice none 0 0)).run Tryz.prog W = .ok p.isNone W := fun d => by
    cases p <;> simp [Op.equalIn, run_underlying ht]
  have h2 : (Op.equal t (.slice p n c) (.slice none 0 0)).run Tryz.prog W = .ok p.isNone W := h 9999
  simp [binOp, h2]
/-- copy, of elements of some cells each. -/
theorem run_copy_rows {P : Program} (w : World) (dT sT ty elem : TypeId) (g o dLen dCap s : Nat) (a : Addr) (sLen sCap : Nat) (cur : Array Value) (t : TypeId) (cs : List Value)
    (hu : P.underlying dT = some (.slice elem)) (hs : (P.info? elem).map (·.size) = some s)
    (hg : w.heap[g]? = some (.cells cur t (0, 0))) (hn : cs.length = Nat.min sLen dLen * s)
    (hsrc : ∀ j v, cs[j]? = some v → w.cell? (a.add j) = some v) (hfit : o + cs.length ≤ cur.size) (h1 : ∀ v ∈ cs, v.oneCell' = true) :
    (Builtin.copy_ #[dT, sT] ty #[.slice (some ⟨g, o, none⟩) dLen dCap, .slice (some a) sLen sCap]).run P w =
      .ok (goInt (Nat.min sLen dLen)) (w.setRow g (cur.toList.take o ++ cs ++ cur.toList.drop (o + cs.length)).toArray) := by
  have hl := run_loadCells_list (P := P) w a cs hsrc
  have hst := run_storeCells_at P g o t cs 0 cur w hg (by simpa using hfit) h1
  cases hq : P.info? elem with
  | none => simp [hq] at hs
  | some i =>
    have hi : i.size = s := by simpa [hq] using hs
    simp [Builtin.copy_, run_underlying hu, Builtin.lenOf, Builtin.firstCells, sizeOf, typeInfo, hq, hi, ← hn, hl, hst]
theorem setRow_eq (W : World) (g : Nat) (c : List Value) (t : TypeId) (c' : List Value) (h : W.heap[g]? = some (.cells c.toArray t (0, 0))) : (W.setRow g c'.toArray).heap[g]? = some (.cells c'.toArray t (0, 0)) := setRow_heap W g _ _ t _ h
/-- An empty row that buildSlice makes. -/
theorem own_empty (W : World) (t : TypeId) (s : Nat) : (W.alloc (.cells #[] t)).ownsRow W.heap.size t s (.slice (some ⟨W.heap.size, 0, none⟩) 0 0) 0 [] :=
  ⟨by simp, .inr ⟨W.heap.size, 0, #[], rfl, Nat.le_refl _, heap_alloc_new W _, Nat.le_refl _, by decide, by simp, by simp⟩⟩
end Go.Proofs.YtgponcjjnjpfkabGreat.S
/-! The data stack: Push, Need, Cells. -/
namespace Go.Proofs.YtgponcjjnjpfkabGreat.S
open Go.RowKit
open Go.Proofs
set_option linter.unusedVariables false
set_option linter.unusedSimpArgs false
theorem copyU (W : World) (b g o cc : Nat) (l x : List Int) (h : HasD W b l) (hx : Sl eU 1 W (some ⟨g, o, none⟩) x) (hl : l.length + x.length ≤ 256) :
    ∃ W', (Builtin.copy_ #[22, 22] 3 #[.slice (some ⟨b, l.length, none⟩) (256 - l.length) (256 - l.length), .slice (some ⟨g, o, none⟩) x.length cc]).run Tryz.prog W = .ok (.int .i64 (x.length : Int)) W' ∧
      W'.heap[b]? = some (.cells ((pc eU 0 l).take l.length ++ en eU x ++ (pc eU 0 l).drop (l.length + x.length)).toArray 87 (0, 0)) ∧ At b W W' := by
  have hm : Nat.min x.length (256 - l.length) = x.length := Nat.min_eq_left (by omega)
  have hr := run_copy_rows (P := Tryz.prog) W 22 22 3 31 b l.length (256 - l.length) (256 - l.length) 1 ⟨g, o, none⟩ x.length cc (pc eU 0 l).toArray 87 (en eU x) Tryz.underlying22 size32 h.1 (by rw [en_len hU, hm])
    (fun j u hj => hx.news hU (by omega) j u hj) (by rw [en_len hU, List.size_toArray, pc_len hU 0 l h.2]; omega) (oneU x)
  rw [hm, en_len hU, Nat.mul_one] at hr
  exact ⟨_, hr, setRow_eq W b _ 87 _ h.1, rfl, rfl, rfl, by rw [size_setRow]; exact Nat.le_refl _, fun k _ hk => setRow_other W b k _ hk⟩
set_option maxHeartbeats 1000000
set_option maxRecDepth 100000
theorem dput (b : Nat) (l x : List Int) (g o c : Nat) (w : World) (h : HasD w b l) (hx : Sl eU 1 w (some ⟨g, o, none⟩) x) (hl : l.length + x.length ≤ 256) (h0 : 0 < x.length) :
    Calls Tryz.prog 31 #[.pointer (some ⟨b, 0, none⟩), .int .i64 256, .slice (some ⟨g, o, none⟩) x.length c] w fun e w' => e = .returned (.bool true) ∧ HasD w' b (l ++ x) ∧ At b w w' := by
  have cn := h.count
  have hd : HasD w.drew b l := h
  obtain ⟨w1, hcp, hb1, t1⟩ := copyU w.drew b g o c l x hd hx hl
  have hp := pc_put hU 0 l x hl
  simp only [Nat.mul_one] at hp
  have c1 : w1.cell? ⟨b, 256, none⟩ = some (.int .i64 (l.length : Int)) := by
    refine cell_of _ b 256 _ 87 _ hb1 ?_
    have e1 : ((pc eU 0 l).take l.length ++ en eU x).length = l.length + x.length := by rw [List.length_append, List.length_take, pc_len hU 0 l h.2, en_len hU]; omega
    rw [List.getElem?_append_right (by rw [e1]; omega), e1, List.getElem?_drop, show l.length + x.length + (256 - (l.length + x.length)) = 256 * 1 by omega]
    exact pc_count hU 0 l h.2
  have z1 := frozen_of w1 b 256 _ 87 hb1
  have h2 : HasD (w1.setCell ⟨b, 256, none⟩ (.int .i64 ((l.length : Int) + (x.length : Int)))) b (l ++ x) := by
    refine ⟨?_, by rw [List.length_append]; exact hl⟩
    rw [setCell_heap w1 b 256 _ 87 _ hb1, hp]
  have t2 : At b w (w1.setCell ⟨b, 256, none⟩ (.int .i64 ((l.length : Int) + (x.length : Int)))) := by
    have : At b w w1 := ⟨t1.os, t1.tape, t1.output, t1.size, t1.block⟩
    exact this.setCell b _ rfl _
  have e1 : IntKind.i64.wrap (256 - (l.length : Int)) = 256 - (l.length : Int) := i64_id _ (by omega) (by omega)
  have e2 : decide (256 - (l.length : Int) < (x.length : Int)) = false := by simp; omega
  have e3 : IntKind.i64.wrap ((l.length : Int) + (x.length : Int)) = (l.length : Int) + (x.length : Int) := i64_id _ (by omega) (by omega)
  have hk : (l.length : Int) ≤ 256 := by omega
  have e4 : ¬ (256 = l.length) := by omega
  clear hp hb1 t1 hx h hd
  go_enter Tryz.func31, Tryz.ntmps31
  go_wp2_with fail
  go_region
  go_wp2
  go_ret
  exact ⟨rfl, h2, t2⟩
theorem dput_no (b : Nat) (l x : List Int) (p : Option Addr) (c : Nat) (w : World) (h : HasD w b l) (hl : 256 < l.length + x.length) (hx : x.length ≤ room) :
    Calls Tryz.prog 31 #[.pointer (some ⟨b, 0, none⟩), .int .i64 256, .slice p x.length c] w fun e w' => e = .returned (.bool false) ∧ w' = w := by
  have cn := h.count
  have h2 := h.2
  unfold room at hx
  have e1 : IntKind.i64.wrap (256 - (l.length : Int)) = 256 - (l.length : Int) := i64_id _ (by omega) (by omega)
  have e2 : decide (256 - (l.length : Int) < (x.length : Int)) = true := by simp; omega
  clear h
  go_enter Tryz.func31, Tryz.ntmps31
  go_wp2
  go_ret
  exact ⟨rfl, rfl⟩
theorem dpush0 (p : Value) (q : Option Addr) (c : Nat) (w : World) : Calls Tryz.prog 8 #[p, .slice q 0 c] w fun e w' => e = .returned (.int .i64 0) ∧ w' = w := by
  go_enter Tryz.func8, Tryz.ntmps8
  go_wp2
  go_ret
  exact ⟨rfl, rfl⟩
theorem dpush_nil (q : Option Addr) (n c : Nat) (hn : 0 < n) (w : World) : Calls Tryz.prog 8 #[.pointer none, .slice q n c] w fun e w' => e = .returned (.int .i64 2) ∧ w' = w := by
  have e1 : ((n : Int) == 0) = false := by simp; omega
  go_enter Tryz.func8, Tryz.ntmps8
  go_wp2
  go_ret
  exact ⟨rfl, rfl⟩
theorem dpush_yes (b : Nat) (l x : List Int) (p : Option Addr) (c : Nat) (w : World) (h : HasD w b l) (hx : Sl eU 1 w p x) (hl : l.length + x.length ≤ 256) :
    Calls Tryz.prog 8 #[.pointer (some ⟨b, 0, none⟩), .slice p x.length c] w fun e w' => e = .returned (.int .i64 0) ∧ HasD w' b (l ++ x) ∧ At b w w' := by
  rcases Nat.eq_zero_or_pos x.length with h0 | h0
  · obtain rfl := List.eq_nil_of_length_eq_zero h0
    refine (dpush0 _ p c w).mono ?_
    rintro e w' ⟨rfl, rfl⟩
    exact ⟨rfl, by simpa using h, Tc.refl _ _⟩
  · obtain ⟨g, o, rfl, _⟩ := hx 0 x[0] (List.getElem?_eq_getElem h0)
    have hp := dput b l x g o c w h hx hl h0
    have e1 : ((x.length : Int) == 0) = false := beq_eq_false_iff_ne.2 (by omega)
    clear h hx
    go_enter Tryz.func8, Tryz.ntmps8
    go_wp2_with fail
    refine hp.mono ?_
    rintro e w1 ⟨rfl, h1, t1⟩
    go_wp2
    go_ret
    exact ⟨rfl, h1, t1⟩
theorem dpush_no (b : Nat) (l x : List Int) (p : Option Addr) (c : Nat) (w : World) (h : HasD w b l) (hl : 256 < l.length + x.length) (hx : x.length ≤ room) :
    Calls Tryz.prog 8 #[.pointer (some ⟨b, 0, none⟩), .slice p x.length c] w fun e w' => e = .returned (.int .i64 2) ∧ w' = w := by
  have h2 := h.2
  have hp := dput_no b l x p c w h hl hx
  have e1 : ((x.length : Int) == 0) = false := beq_eq_false_iff_ne.2 (by omega)
  clear h
  go_enter Tryz.func8, Tryz.ntmps8
  go_wp2_with fail
  refine hp.mono ?_
  rintro e w1 ⟨rfl, rfl⟩
  go_wp2
  go_ret
  exact ⟨rfl, rfl⟩
/-- What Need tells of so many cells. -/
def need (n : Nat) (i o : Int) : Int := if (n : Int) < max i 0 then 1 else if 256 < (n : Int) - max i 0 + max o 0 then 2 else 0
theorem dneed (b : Nat) (l : List Int) (i o : Int) (w : World) (h : HasD w b l) : Calls Tryz.prog 45 #[.pointer (some ⟨b, 0, none⟩), .int .i64 i, .int .i64 o] w fun e w' => e = .returned (.int .i64 (need l.length i o)) ∧ w' = w := by
  have hd := dlen b l w h
  have hl := h.len_lt
  clear h
  have hm : ∀ z : Int, max z 0 = if z < 0 then 0 else z := fun z => by split <;> omega
  unfold need
  rw [hm, hm]
  by_cases a1 : i < 0
  · by_cases a2 : o < 0
    · rw [if_pos a1, if_pos a2]
      have e1 : decide ((l.length : Int) < 0) = false := decide_eq_false (by omega)
      have e2 : IntKind.i64.wrap ((l.length : Int) - 0) = (l.length : Int) - 0 := i64_id _ (by omega) (by omega)
      have e3 : IntKind.i64.wrap (256 - ((l.length : Int) - 0)) = 256 - ((l.length : Int) - 0) := i64_id _ (by omega) (by omega)
      have e4 : decide (256 - ((l.length : Int) - 0) < 0) = false := decide_eq_false (by omega)
      rw [if_neg (by omega), if_neg (by omega)]
      go_enter Tryz.func45, Tryz.ntmps45
      go_wp2_with fail
      refine hd.mono ?_
      rintro e w1 ⟨rfl, rfl⟩
      go_wp2_with fail
      refine hd.mono ?_
      rintro e w1 ⟨rfl, rfl⟩
      go_wp2
      go_ret
      exact ⟨rfl, rfl⟩
    · rw [if_pos a1, if_neg a2]
      by_cases a4 : 256 < (l.length : Int) - 0 + o
      · have a5 := a4
        have e1 : decide ((l.length : Int) < 0) = false := decide_eq_false (by omega)
        have e2 : IntKind.i64.wrap ((l.length : Int) - 0) = (l.length : Int) - 0 := i64_id _ (by omega) (by omega)
        have e3 : IntKind.i64.wrap (256 - ((l.length : Int) - 0)) = 256 - ((l.length : Int) - 0) := i64_id _ (by omega) (by omega)
        have e4 : decide (256 - ((l.length : Int) - 0) < o) = true := decide_eq_true (by omega)
        rw [if_neg (by omega), if_pos (by omega)]
        go_enter Tryz.func45, Tryz.ntmps45
        go_wp2_with fail
        refine hd.mono ?_
        rintro e w1 ⟨rfl, rfl⟩
        go_wp2_with fail
        refine hd.mono ?_
        rintro e w1 ⟨rfl, rfl⟩
        go_wp2
        go_ret
        exact ⟨rfl, rfl⟩
      · have a5 := a4
        have e1 : decide ((l.length : Int) < 0) = false := decide_eq_false (by omega)
        have e2 : IntKind.i64.wrap ((l.length : Int) - 0) = (l.length : Int) - 0 := i64_id _ (by omega) (by omega)
        have e3 : IntKind.i64.wrap (256 - ((l.length : Int) - 0)) = 256 - ((l.length : Int) - 0) := i64_id _ (by omega) (by omega)
        have e4 : decide (256 - ((l.length : Int) - 0) < o) = false := decide_eq_false (by omega)
        rw [if_neg (by omega), if_neg (by omega)]
        go_enter Tryz.func45, Tryz.ntmps45
        go_wp2_with fail
        refine hd.mono ?_
        rintro e w1 ⟨rfl, rfl⟩
        go_wp2_with fail
        refine hd.mono ?_
        rintro e w1 ⟨rfl, rfl⟩
        go_wp2
        go_ret
        exact ⟨rfl, rfl⟩
  · by_cases a2 : o < 0
    · rw [if_neg a1, if_pos a2]
      by_cases a3 : (l.length : Int) < i
      · have a5 := a3
        have e1 : decide ((l.length : Int) < i) = true := decide_eq_true (by omega)
        rw [if_pos (by omega)]
        go_enter Tryz.func45, Tryz.ntmps45
        go_wp2_with fail
        refine hd.mono ?_
        rintro e w1 ⟨rfl, rfl⟩
        go_wp2
        go_ret
        exact ⟨rfl, rfl⟩
      · have a5 := a3
        have e1 : decide ((l.length : Int) < i) = false := decide_eq_false (by omega)
        have e2 : IntKind.i64.wrap ((l.length : Int) - i) = (l.length : Int) - i := i64_id _ (by omega) (by omega)
        have e3 : IntKind.i64.wrap (256 - ((l.length : Int) - i)) = 256 - ((l.length : Int) - i) := i64_id _ (by omega) (by omega)
        have e4 : decide (256 - ((l.length : Int) - i) < 0) = false := decide_eq_false (by omega)
        rw [if_neg (by omega), if_neg (by omega)]
        go_enter Tryz.func45, Tryz.ntmps45
        go_wp2_with fail
        refine hd.mono ?_
        rintro e w1 ⟨rfl, rfl⟩
        go_wp2_with fail
        refine hd.mono ?_
        rintro e w1 ⟨rfl, rfl⟩
        go_wp2
        go_ret
        exact ⟨rfl, rfl⟩
    · rw [if_neg a1, if_neg a2]
      by_cases a3 : (l.length : Int) < i
      · have a5 := a3
        have e1 : decide ((l.length : Int) < i) = true := decide_eq_true (by omega)
        rw [if_pos (by omega)]
        go_enter Tryz.func45, Tryz.ntmps45
        go_wp2_with fail
        refine hd.mono ?_
        rintro e w1 ⟨rfl, rfl⟩
        go_wp2
        go_ret
        exact ⟨rfl, rfl⟩
      · by_cases a4 : 256 < (l.length : Int) - i + o
        · have a5 := a4
          have e1 : decide ((l.length : Int) < i) = false := decide_eq_false (by omega)
          have e2 : IntKind.i64.wrap ((l.length : Int) - i) = (l.length : Int) - i := i64_id _ (by omega) (by omega)
          have e3 : IntKind.i64.wrap (256 - ((l.length : Int) - i)) = 256 - ((l.length : Int) - i) := i64_id _ (by omega) (by omega)
          have e4 : decide (256 - ((l.length : Int) - i) < o) = true := decide_eq_true (by omega)
          rw [if_neg (by omega), if_pos (by omega)]
          go_enter Tryz.func45, Tryz.ntmps45
          go_wp2_with fail
          refine hd.mono ?_
          rintro e w1 ⟨rfl, rfl⟩
          go_wp2_with fail
          refine hd.mono ?_
          rintro e w1 ⟨rfl, rfl⟩
          go_wp2
          go_ret
          exact ⟨rfl, rfl⟩
        · have a5 := a4
          have e1 : decide ((l.length : Int) < i) = false := decide_eq_false (by omega)
          have e2 : IntKind.i64.wrap ((l.length : Int) - i) = (l.length : Int) - i := i64_id _ (by omega) (by omega)
          have e3 : IntKind.i64.wrap (256 - ((l.length : Int) - i)) = 256 - ((l.length : Int) - i) := i64_id _ (by omega) (by omega)
          have e4 : decide (256 - ((l.length : Int) - i) < o) = false := decide_eq_false (by omega)
          rw [if_neg (by omega), if_neg (by omega)]
          go_enter Tryz.func45, Tryz.ntmps45
          go_wp2_with fail
          refine hd.mono ?_
          rintro e w1 ⟨rfl, rfl⟩
          go_wp2_with fail
          refine hd.mono ?_
          rintro e w1 ⟨rfl, rfl⟩
          go_wp2
          go_ret
          exact ⟨rfl, rfl⟩
end Go.Proofs.YtgponcjjnjpfkabGreat.S
/-! The data stack: Cells. -/
namespace Go.Proofs.YtgponcjjnjpfkabGreat.S
open Go.RowKit
open Go.Proofs
set_option linter.unusedVariables false
set_option linter.unusedSimpArgs false
def RowU (W : World) (B : Nat) (v : Value) (l : List Int) : Prop := W.ownsRow B 31 1 v l.length (en eU l)
theorem RowU.ls {W : World} {B : Nat} {v : Value} {l : List Int} (h : RowU W B v l) : Ls eU 1 W v l := own_sl hU h
theorem HasD.ls {W : World} {b : Nat} {l : List Int} (h : HasD W b l) : Ls eU 1 W (.slice (some ⟨b, 0, none⟩) l.length 256) l := by
  refine .inr ⟨_, 256, rfl, h.2, fun i a hi => ⟨b, 0, rfl, fun j u hj => ?_⟩⟩
  have hj' : j < 1 := (List.getElem?_eq_some_iff.1 hj).1
  refine cell_of W b _ _ 87 _ h.1 ?_
  rw [Nat.zero_add, pc_get hU 0 l h.2 i j a hi hj']; exact hj
set_option maxHeartbeats 1000000
set_option maxRecDepth 100000
theorem uclone (x : Addr) (l : List Int) (c : Nat) (hl : l.length ≤ 1000000) (w : World) (h : Ls eU 1 w (.slice (some x) l.length c) l) :
    Calls Tryz.prog 81 #[.slice (some x) l.length c] w fun e w' => ∃ u, e = .returned u ∧ RowU w' w.heap.size u l ∧ Below w.heap.size w w' := by
  have hr0 := own_empty w 31 1
  have hb0 : Below w.heap.size w (w.alloc (.cells #[] 31)) := (Below.refl _ _).alloc (Nat.le_refl _) _
  have hs0 := (h.below hb0).cs hU (by omega) oneU
  have hn := fun (W : World) => eql_nil 22 31 Tryz.underlying22 W (some x) l.length c
  clear h
  go_enter Tryz.func81, Tryz.ntmps81
  go_wp2_with (first | (at_builtin; refine wpList_append_row _ rfl _ _ 22 31 _ 1 2 Tryz.underlying22 info32 rfl (by decide) rfl w.heap.size _ 0 [] rfl hr0 _ l.length (en eU l) rfl hs0 (by unfold room; omega) (by unfold maxLen; omega) hb0.size ?_))
  intro v' w' hr hg
  go_wp2
  go_ret
  refine ⟨_, rfl, ?_, hg.belowAll (fun g e => (hr0.lt g e).1) hb0 (Nat.le_refl _)⟩
  simpa [RowU] using hr
theorem dall (b : Nat) (l : List Int) (w : World) (h : HasD w b l) : Calls Tryz.prog 49 #[.pointer (some ⟨b, 0, none⟩)] w fun e w' => ∃ u, e = .returned u ∧ RowU w' w.heap.size u l ∧ Below w.heap.size w w' := by
  have cn := h.count
  have hk := h.len_lt
  have hd : HasD w.drew b l := h
  have hc := uclone ⟨b, 0, none⟩ l 256 (by have := h.2; omega) w.drew hd.ls
  clear h hd
  go_enter Tryz.func49, Tryz.ntmps49
  go_wp2_with fail
  go_region_with (go_at_call 81; refine hc.mono ?_; rintro e w1 ⟨u, rfl, h1, h2⟩)
  go_wp2
  go_ret
  exact ⟨_, rfl, h1, ⟨h2.os, h2.tape, h2.output, h2.size, h2.block⟩⟩
theorem dcells (b : Nat) (l : List Int) (w : World) (h : HasD w b l) : Calls Tryz.prog 22 #[.pointer (some ⟨b, 0, none⟩)] w fun e w' => ∃ u, e = .returned u ∧ RowU w' w.heap.size u l ∧ Below w.heap.size w w' := by
  have hc := dall b l w h
  clear h
  go_enter Tryz.func22, Tryz.ntmps22
  go_wp2_with fail
  refine hc.mono ?_
  rintro e w1 ⟨u, rfl, h1, h2⟩
  go_wp2
  go_ret
  exact ⟨_, rfl, h1, h2⟩
theorem dcells_nil (w : World) : Calls Tryz.prog 22 #[.pointer none] w fun e w' => e = .returned (.slice none 0 0) ∧ w' = w := by
  go_enter Tryz.func22, Tryz.ntmps22
  go_wp2
  go_ret
  exact ⟨rfl, rfl⟩
/-- Need at a nil stack, at the three that the law asks. -/
theorem dneed_nil (i o v : Int) (hv : (i = 0 ∧ o = 0 ∧ v = 0) ∨ (i = 1 ∧ o = 0 ∧ v = 1) ∨ (i = 0 ∧ o = 257 ∧ v = 2)) (w : World) : Calls Tryz.prog 45 #[.pointer none, .int .i64 i, .int .i64 o] w fun e w' => e = .returned (.int .i64 v) ∧ w' = w := by
  have hd := dlen_nil w
  have e3 : IntKind.i64.wrap 256 = 256 := by decide
  rcases hv with ⟨rfl, rfl, rfl⟩ | ⟨rfl, rfl, rfl⟩ | ⟨rfl, rfl, rfl⟩
  · go_enter Tryz.func45, Tryz.ntmps45
    go_wp2_with fail
    refine hd.mono ?_
    rintro e w1 ⟨rfl, rfl⟩
    go_wp2_with fail
    refine hd.mono ?_
    rintro e w1 ⟨rfl, rfl⟩
    go_wp2
    go_ret
    exact ⟨rfl, rfl⟩
  · go_enter Tryz.func45, Tryz.ntmps45
    go_wp2_with fail
    refine hd.mono ?_
    rintro e w1 ⟨rfl, rfl⟩
    go_wp2
    go_ret
    exact ⟨rfl, rfl⟩
  · go_enter Tryz.func45, Tryz.ntmps45
    go_wp2_with fail
    refine hd.mono ?_
    rintro e w1 ⟨rfl, rfl⟩
    go_wp2_with fail
    refine hd.mono ?_
    rintro e w1 ⟨rfl, rfl⟩
    go_wp2
    go_ret
    exact ⟨rfl, rfl⟩
end Go.Proofs.YtgponcjjnjpfkabGreat.S
/-! The return stack: its calls. -/
namespace Go.Proofs.YtgponcjjnjpfkabGreat.S
open Go.RowKit
open Go.Proofs
set_option linter.unusedVariables false
set_option linter.unusedSimpArgs false
def HasR (W : World) (b : Nat) (l : List (Int × Int)) : Prop := W.heap[b]? = some (.cells (pc eK (0, 0) l).toArray 93 (0, 0)) ∧ l.length ≤ 128
theorem HasR.le {W : World} {b : Nat} {l : List (Int × Int)} (h : HasR W b l) : l.length ≤ 256 := by have := h.2; omega
theorem HasR.count {W : World} {b : Nat} {l : List (Int × Int)} (h : HasR W b l) : W.cell? ⟨b, 512, none⟩ = some (.int .i64 (l.length : Int)) := cell_of W b 512 _ 93 _ h.1 (pc_count hK (0, 0) l h.le)
theorem HasR.get {W : World} {b : Nat} {l : List (Int × Int)} (h : HasR W b l) (i : Nat) (a : Int × Int) (hi : l[i]? = some a) : W.cell? ⟨b, i * 2, none⟩ = some (.int .i64 a.1) ∧ W.cell? ⟨b, i * 2 + 1, none⟩ = some (.int .u16 a.2) :=
  ⟨cell_of W b _ _ 93 _ h.1 (pc_get hK (0, 0) l h.le i 0 a hi (by omega)), cell_of W b _ _ 93 _ h.1 (pc_get hK (0, 0) l h.le i 1 a hi (by omega))⟩
theorem HasR.kept {W W' : World} {b : Nat} {l : List (Int × Int)} (h : HasR W b l) (k : W'.heap[b]? = W.heap[b]?) : HasR W' b l := ⟨k.trans h.1, h.2⟩
theorem HasR.below {W W' : World} {b : Nat} {l : List (Int × Int)} (h : HasR W b l) (k : Below W.heap.size W W') : HasR W' b l := h.kept (k.block b (lt_of h.1))
theorem HasR.len_lt {W : World} {b : Nat} {l : List (Int × Int)} (h : HasR W b l) : (l.length : Int) ≤ 128 := by have := h.2; omega
set_option maxHeartbeats 1000000
set_option maxRecDepth 100000
theorem rlen (b : Nat) (l : List (Int × Int)) (w : World) (h : HasR w b l) : Calls Tryz.prog 47 #[.pointer (some ⟨b, 0, none⟩)] w fun e w' => e = .returned (.int .i64 (l.length : Int)) ∧ w' = w := by
  have c := h.count
  clear h
  go_enter Tryz.func47, Tryz.ntmps47
  go_wp2
  go_ret
  exact ⟨rfl, rfl⟩
theorem rlen_nil (w : World) : Calls Tryz.prog 47 #[.pointer none] w fun e w' => e = .returned (.int .i64 0) ∧ w' = w := by
  go_enter Tryz.func47, Tryz.ntmps47
  go_wp2
  go_ret
  exact ⟨rfl, rfl⟩
theorem rtop (b : Nat) (l : List (Int × Int)) (i n : Nat) (hi : i + n + 1 = l.length) (w : World) (h : HasR w b l) : Calls Tryz.prog 137 #[.pointer (some ⟨b, 0, none⟩), .int .i64 (n : Int)] w fun e w' => e = .returned (.pointer (some ⟨b, i * 2, none⟩)) ∧ ∃ q, w' = w.drewN q := by
  have c := h.count
  have hl := h.2
  have e1 : IntKind.i64.wrap ((l.length : Int) - 1) = (l.length : Int) - 1 := by rw [i64_id _ (by omega) (by omega)]
  have e2 : IntKind.i64.wrap ((l.length : Int) - 1 - (n : Int)) = (i : Int) := by rw [i64_id _ (by omega) (by omega)]; omega
  have hk : (i : Int) < 256 := by omega
  have hk2 : i < 256 := by omega
  clear h hi hl
  go_enter Tryz.func137, Tryz.ntmps137
  go_wp2_with fail
  go_quiet (fail)
  go_wp2
  go_ret
  exact ⟨rfl, _, rfl⟩
/-- At: the three ways. -/
theorem rat_under (b : Nat) (l : List (Int × Int)) (n kind : Int) (hn : n < 0 ∨ (l.length : Int) ≤ n) (w : World) (h : HasR w b l) :
    Calls Tryz.prog 79 #[.pointer (some ⟨b, 0, none⟩), .int .i64 n, .int .i64 kind] w fun e w' => e = .returned (.tuple #[.int .u16 0, .int .i64 3]) ∧ w' = w := by
  have hd := rlen b l w h
  clear h
  by_cases a : n < 0
  · go_enter Tryz.func79, Tryz.ntmps79
    go_wp2
    go_ret2
    exact ⟨rfl, rfl⟩
  · have e1 : decide (n < 0) = false := decide_eq_false a
    have e2 : decide ((l.length : Int) ≤ n) = true := decide_eq_true (by omega)
    go_enter Tryz.func79, Tryz.ntmps79
    go_wp2_with fail
    refine hd.mono ?_
    rintro e w1 ⟨rfl, rfl⟩
    go_wp2
    go_ret2
    exact ⟨rfl, rfl⟩
theorem rat_nil (n kind : Int) (hn : n < 0 ∨ 0 ≤ n) (w : World) : Calls Tryz.prog 79 #[.pointer none, .int .i64 n, .int .i64 kind] w fun e w' => e = .returned (.tuple #[.int .u16 0, .int .i64 3]) ∧ w' = w := by
  have hd := rlen_nil w
  by_cases a : n < 0
  · go_enter Tryz.func79, Tryz.ntmps79
    go_wp2
    go_ret2
    exact ⟨rfl, rfl⟩
  · have e1 : decide (n < 0) = false := decide_eq_false a
    have e2 : decide (0 ≤ n) = true := decide_eq_true (by omega)
    go_enter Tryz.func79, Tryz.ntmps79
    go_wp2_with fail
    refine hd.mono ?_
    rintro e w1 ⟨rfl, rfl⟩
    go_wp2
    go_ret2
    exact ⟨rfl, rfl⟩
theorem rat_kind (b : Nat) (l : List (Int × Int)) (i n : Nat) (hi : i + n + 1 = l.length) (k v : Int) (ha : l[i]? = some (k, v)) (kind : Int) (hne : k ≠ kind) (w : World) (h : HasR w b l) :
    Calls Tryz.prog 79 #[.pointer (some ⟨b, 0, none⟩), .int .i64 (n : Int), .int .i64 kind] w fun e w' => e = .returned (.tuple #[.int .u16 0, .int .i64 5]) ∧ ∃ q, w' = w.drewN q := by
  have hd := rlen b l w h
  have ht := rtop b l i n hi w h
  have hg := fun q => HasR.get (W := w.drewN q) (b := b) (l := l) h i (k, v) ha
  have e0 : decide ((n : Int) < 0) = false := decide_eq_false (by omega)
  have e2 : decide ((l.length : Int) ≤ (n : Int)) = false := decide_eq_false (by omega)
  have e3 : (k != kind) = true := by simp [hne]
  clear h hi hne ha
  generalize hN : (n : Int) = N at *
  clear hN
  go_enter Tryz.func79, Tryz.ntmps79
  go_wp2_with fail
  refine hd.mono ?_
  rintro e w1 ⟨rfl, hw1⟩
  obtain rfl := hw1.symm
  go_wp2_with fail
  refine ht.mono ?_
  rintro e w2 ⟨rfl, q, rfl⟩
  have g1 := (hg q).1
  clear hg hd ht
  go_wp2
  go_ret2
  exact ⟨rfl, _, rfl⟩
theorem rat_ok (b : Nat) (l : List (Int × Int)) (i n : Nat) (hi : i + n + 1 = l.length) (k v : Int) (ha : l[i]? = some (k, v)) (w : World) (h : HasR w b l) :
    Calls Tryz.prog 79 #[.pointer (some ⟨b, 0, none⟩), .int .i64 (n : Int), .int .i64 k] w fun e w' => e = .returned (.tuple #[.int .u16 v, .int .i64 0]) ∧ ∃ q, w' = w.drewN q := by
  have hd := rlen b l w h
  have ht := rtop b l i n hi w h
  have hg := fun q => HasR.get (W := w.drewN q) (b := b) (l := l) h i (k, v) ha
  have e0 : decide ((n : Int) < 0) = false := decide_eq_false (by omega)
  have e2 : decide ((l.length : Int) ≤ (n : Int)) = false := decide_eq_false (by omega)
  clear h hi ha
  generalize hN : (n : Int) = N at *
  clear hN
  go_enter Tryz.func79, Tryz.ntmps79
  go_wp2_with fail
  refine hd.mono ?_
  rintro e w1 ⟨rfl, hw1⟩
  obtain rfl := hw1.symm
  go_wp2_with fail
  refine ht.mono ?_
  rintro e w2 ⟨rfl, q, rfl⟩
  have g1 := (hg q).1
  have g2 := (hg q).2
  clear hg hd ht
  go_wp2
  go_ret2
  exact ⟨rfl, _, rfl⟩
end Go.Proofs.YtgponcjjnjpfkabGreat.S
/-! The return stack: Set, Push, Cells. -/
namespace Go.Proofs.YtgponcjjnjpfkabGreat.S
open Go.RowKit
open Go.Proofs
set_option linter.unusedVariables false
set_option linter.unusedSimpArgs false
theorem copyK (W : World) (b g o cc : Nat) (l x : List (Int × Int)) (h : HasR W b l) (hx : Sl eK 2 W (some ⟨g, o, none⟩) x) (hl : l.length + x.length ≤ 128) :
    ∃ W', (Builtin.copy_ #[23, 23] 3 #[.slice (some ⟨b, l.length * 2, none⟩) (256 - l.length) (256 - l.length), .slice (some ⟨g, o, none⟩) x.length cc]).run Tryz.prog W = .ok (.int .i64 (x.length : Int)) W' ∧
       W'.heap[b]? = some (.cells ((pc eK (0, 0) l).take (l.length * 2) ++ en eK x ++ (pc eK (0, 0) l).drop (l.length * 2 + x.length * 2)).toArray 93 (0, 0)) ∧ At b W W' := by
  have hm : Nat.min x.length (256 - l.length) = x.length := Nat.min_eq_left (by omega)
  have hr := run_copy_rows (P := Tryz.prog) W 23 23 3 68 b (l.length * 2) (256 - l.length) (256 - l.length) 2 ⟨g, o, none⟩ x.length cc (pc eK (0, 0) l).toArray 93 (en eK x) Tryz.underlying23 size43 h.1 (by rw [en_len hK, hm])
    (fun j u hj => hx.news hK (by omega) j u hj) (by rw [en_len hK, List.size_toArray, pc_len hK (0, 0) l h.le]; omega) (oneK x)
  rw [hm, en_len hK] at hr
  exact ⟨_, hr, setRow_eq W b _ 93 _ h.1, rfl, rfl, rfl, by rw [size_setRow]; exact Nat.le_refl _, fun k _ hk => setRow_other W b k _ hk⟩
set_option maxHeartbeats 1000000
set_option maxRecDepth 100000
theorem rput (b : Nat) (l x : List (Int × Int)) (g o c : Nat) (w : World) (h : HasR w b l) (hx : Sl eK 2 w (some ⟨g, o, none⟩) x) (hl : l.length + x.length ≤ 128) (h0 : 0 < x.length) :
    Calls Tryz.prog 32 #[.pointer (some ⟨b, 0, none⟩), .int .i64 128, .slice (some ⟨g, o, none⟩) x.length c] w fun e w' => e = .returned (.bool true) ∧ HasR w' b (l ++ x) ∧ At b w w' := by
  have cn := h.count
  have hd : HasR w.drew b l := h
  obtain ⟨w1, hcp, hb1, t1⟩ := copyK w.drew b g o c l x hd hx hl
  have hp := pc_put hK (0, 0) l x (by omega)
  have c1 : w1.cell? ⟨b, 512, none⟩ = some (.int .i64 (l.length : Int)) := by
    refine cell_of _ b 512 _ 93 _ hb1 ?_
    have e1 : ((pc eK (0, 0) l).take (l.length * 2) ++ en eK x).length = l.length * 2 + x.length * 2 := by rw [List.length_append, List.length_take, pc_len hK (0, 0) l h.le, en_len hK]; omega
    rw [List.getElem?_append_right (by rw [e1]; omega), e1, List.getElem?_drop, show l.length * 2 + x.length * 2 + (512 - (l.length * 2 + x.length * 2)) = 256 * 2 by omega]
    exact pc_count hK (0, 0) l h.le
  have z1 := frozen_of w1 b 512 _ 93 hb1
  have h2 : HasR (w1.setCell ⟨b, 512, none⟩ (.int .i64 ((l.length : Int) + (x.length : Int)))) b (l ++ x) := by
    refine ⟨?_, by rw [List.length_append]; exact hl⟩
    rw [setCell_heap w1 b 512 _ 93 _ hb1]
    simp only [Nat.reduceMul] at hp
    rw [hp]
  have t2 : At b w (w1.setCell ⟨b, 512, none⟩ (.int .i64 ((l.length : Int) + (x.length : Int)))) := by
    have : At b w w1 := ⟨t1.os, t1.tape, t1.output, t1.size, t1.block⟩
    exact this.setCell b _ rfl _
  have e1 : IntKind.i64.wrap (128 - (l.length : Int)) = 128 - (l.length : Int) := i64_id _ (by omega) (by omega)
  have e2 : decide (128 - (l.length : Int) < (x.length : Int)) = false := by simp; omega
  have e3 : IntKind.i64.wrap ((l.length : Int) + (x.length : Int)) = (l.length : Int) + (x.length : Int) := i64_id _ (by omega) (by omega)
  have hk : (l.length : Int) ≤ 256 := by omega
  have e4 : ¬ (256 = l.length) := by omega
  clear hp hb1 t1 hx h hd
  go_enter Tryz.func32, Tryz.ntmps32
  go_wp2_with fail
  go_region
  go_wp2
  go_ret
  exact ⟨rfl, h2, t2⟩
theorem rput_no (b : Nat) (l x : List (Int × Int)) (p : Option Addr) (c : Nat) (w : World) (h : HasR w b l) (hl : 128 < l.length + x.length) (hx : x.length ≤ room) :
    Calls Tryz.prog 32 #[.pointer (some ⟨b, 0, none⟩), .int .i64 128, .slice p x.length c] w fun e w' => e = .returned (.bool false) ∧ w' = w := by
  have cn := h.count
  have h2 := h.2
  unfold room at hx
  have e1 : IntKind.i64.wrap (128 - (l.length : Int)) = 128 - (l.length : Int) := i64_id _ (by omega) (by omega)
  have e2 : decide (128 - (l.length : Int) < (x.length : Int)) = true := by simp; omega
  clear h
  go_enter Tryz.func32, Tryz.ntmps32
  go_wp2
  go_ret
  exact ⟨rfl, rfl⟩
theorem rpush0 (p : Value) (q : Option Addr) (c : Nat) (w : World) : Calls Tryz.prog 10 #[p, .slice q 0 c] w fun e w' => e = .returned (.int .i64 0) ∧ w' = w := by
  go_enter Tryz.func10, Tryz.ntmps10
  go_wp2
  go_ret
  exact ⟨rfl, rfl⟩
theorem rpush_nil (q : Option Addr) (n c : Nat) (hn : 0 < n) (w : World) : Calls Tryz.prog 10 #[.pointer none, .slice q n c] w fun e w' => e = .returned (.int .i64 4) ∧ w' = w := by
  have e1 : ((n : Int) == 0) = false := beq_eq_false_iff_ne.2 (by omega)
  go_enter Tryz.func10, Tryz.ntmps10
  go_wp2
  go_ret
  exact ⟨rfl, rfl⟩
theorem rpush_yes (b : Nat) (l x : List (Int × Int)) (p : Option Addr) (c : Nat) (w : World) (h : HasR w b l) (hx : Sl eK 2 w p x) (hl : l.length + x.length ≤ 128) :
    Calls Tryz.prog 10 #[.pointer (some ⟨b, 0, none⟩), .slice p x.length c] w fun e w' => e = .returned (.int .i64 0) ∧ HasR w' b (l ++ x) ∧ At b w w' := by
  rcases Nat.eq_zero_or_pos x.length with h0 | h0
  · obtain rfl := List.eq_nil_of_length_eq_zero h0
    refine (rpush0 _ p c w).mono ?_
    rintro e w' ⟨rfl, rfl⟩
    exact ⟨rfl, by simpa using h, Tc.refl _ _⟩
  · obtain ⟨g, o, rfl, _⟩ := hx 0 x[0] (List.getElem?_eq_getElem h0)
    have hp := rput b l x g o c w h hx hl h0
    have e1 : ((x.length : Int) == 0) = false := beq_eq_false_iff_ne.2 (by omega)
    clear h hx
    go_enter Tryz.func10, Tryz.ntmps10
    go_wp2_with fail
    refine hp.mono ?_
    rintro e w1 ⟨rfl, h1, t1⟩
    go_wp2
    go_ret
    exact ⟨rfl, h1, t1⟩
theorem rpush_no (b : Nat) (l x : List (Int × Int)) (p : Option Addr) (c : Nat) (w : World) (h : HasR w b l) (hl : 128 < l.length + x.length) (hx : x.length ≤ room) :
    Calls Tryz.prog 10 #[.pointer (some ⟨b, 0, none⟩), .slice p x.length c] w fun e w' => e = .returned (.int .i64 4) ∧ w' = w := by
  have h2 := h.2
  have hp := rput_no b l x p c w h hl hx
  have e1 : ((x.length : Int) == 0) = false := beq_eq_false_iff_ne.2 (by omega)
  clear h
  go_enter Tryz.func10, Tryz.ntmps10
  go_wp2_with fail
  refine hp.mono ?_
  rintro e w1 ⟨rfl, rfl⟩
  go_wp2
  go_ret
  exact ⟨rfl, rfl⟩
def RowK (W : World) (B : Nat) (v : Value) (l : List (Int × Int)) : Prop := W.ownsRow B 68 2 v l.length (en eK l)
theorem RowK.ls {W : World} {B : Nat} {v : Value} {l : List (Int × Int)} (h : RowK W B v l) : Ls eK 2 W v l := own_sl hK h
theorem HasR.ls {W : World} {b : Nat} {l : List (Int × Int)} (h : HasR W b l) : Ls eK 2 W (.slice (some ⟨b, 0, none⟩) l.length 256) l := by
  refine .inr ⟨_, 256, rfl, h.le, fun i a hi => ⟨b, 0, rfl, fun j u hj => ?_⟩⟩
  have hj' : j < 2 := (List.getElem?_eq_some_iff.1 hj).1
  refine cell_of W b _ _ 93 _ h.1 ?_
  rw [Nat.zero_add, pc_get hK (0, 0) l h.le i j a hi hj']; exact hj
theorem kclone (x : Addr) (l : List (Int × Int)) (c : Nat) (hl : l.length ≤ 1000000) (w : World) (h : Ls eK 2 w (.slice (some x) l.length c) l) :
    Calls Tryz.prog 101 #[.slice (some x) l.length c] w fun e w' => ∃ u, e = .returned u ∧ RowK w' w.heap.size u l ∧ Below w.heap.size w w' := by
  have hr0 := own_empty w 68 2
  have hb0 : Below w.heap.size w (w.alloc (.cells #[] 68)) := (Below.refl _ _).alloc (Nat.le_refl _) _
  have hs0 := (h.below hb0).cs hK (by omega) oneK
  have hn := fun (W : World) => eql_nil 23 68 Tryz.underlying23 W (some x) l.length c
  clear h
  go_enter Tryz.func101, Tryz.ntmps101
  go_wp2_with (first | (at_builtin; refine wpList_append_row _ rfl _ _ 23 68 _ 2 16 Tryz.underlying23 info43 rfl (by decide) rfl w.heap.size _ 0 [] rfl hr0 _ l.length (en eK l) rfl hs0 (by unfold room; omega) (by unfold maxLen; omega) hb0.size ?_))
  intro v' w' hr hg
  go_wp2
  go_ret
  refine ⟨_, rfl, ?_, hg.belowAll (fun g e => (hr0.lt g e).1) hb0 (Nat.le_refl _)⟩
  simpa [RowK] using hr
theorem rall (b : Nat) (l : List (Int × Int)) (w : World) (h : HasR w b l) : Calls Tryz.prog 63 #[.pointer (some ⟨b, 0, none⟩)] w fun e w' => ∃ u, e = .returned u ∧ RowK w' w.heap.size u l ∧ Below w.heap.size w w' := by
  have cn := h.count
  have hk : (l.length : Int) ≤ 256 := by have := h.2; omega
  have hd : HasR w.drew b l := h
  have hc := kclone ⟨b, 0, none⟩ l 256 (by have := h.2; omega) w.drew hd.ls
  clear h hd
  go_enter Tryz.func63, Tryz.ntmps63
  go_wp2_with fail
  go_region_with (go_at_call 101; refine hc.mono ?_; rintro e w1 ⟨u, rfl, h1, h2⟩)
  go_wp2
  go_ret
  exact ⟨_, rfl, h1, ⟨h2.os, h2.tape, h2.output, h2.size, h2.block⟩⟩
theorem rcells (b : Nat) (l : List (Int × Int)) (w : World) (h : HasR w b l) : Calls Tryz.prog 36 #[.pointer (some ⟨b, 0, none⟩)] w fun e w' => ∃ u, e = .returned u ∧ RowK w' w.heap.size u l ∧ Below w.heap.size w w' := by
  have hc := rall b l w h
  clear h
  go_enter Tryz.func36, Tryz.ntmps36
  go_wp2_with fail
  refine hc.mono ?_
  rintro e w1 ⟨u, rfl, h1, h2⟩
  go_wp2
  go_ret
  exact ⟨_, rfl, h1, h2⟩
theorem rcells_nil (w : World) : Calls Tryz.prog 36 #[.pointer none] w fun e w' => e = .returned (.slice none 0 0) ∧ w' = w := by
  go_enter Tryz.func36, Tryz.ntmps36
  go_wp2
  go_ret
  exact ⟨rfl, rfl⟩
theorem HasR.set3 {W : World} {b : Nat} {l : List (Int × Int)} {a : Int × Int} (h : HasR W b (l ++ [a])) : HasR (((W.setCell ⟨b, l.length * 2, none⟩ (.int .i64 0)).setCell ⟨b, l.length * 2 + 1, none⟩ (.int .u16 0)).setCell ⟨b, 512, none⟩ (.int .i64 (l.length : Int))) b l := by
  have hl := h.2
  simp only [List.length_append, List.length_cons, List.length_nil] at hl
  refine ⟨?_, by omega⟩
  rw [setCell_heap _ b 512 _ 93 _ (setCell_heap _ b _ _ 93 _ (setCell_heap W b _ _ 93 _ h.1)), pcK_pop l a (by omega)]
theorem rtake (b : Nat) (l : List (Int × Int)) (k v : Int) (w : World) (h : HasR w b (l ++ [(k, v)])) : Calls Tryz.prog 146 #[.pointer (some ⟨b, 0, none⟩)] w fun e w' => e = .returned (.agg #[.int .i64 k, .int .u16 v]) ∧ HasR w' b l ∧ At b w w' := by
  have hl := h.2
  simp only [List.length_append, List.length_cons, List.length_nil] at hl
  obtain ⟨w0, hw0⟩ : ∃ w0, (w.alloc (.cells #[.int .i64 0, .int .u16 0] 68)).alloc (.cells #[.int .i64 0, .int .u16 0] 68) = w0 := ⟨_, rfl⟩
  have b0 : Below w.heap.size w w0 := by rw [← hw0]; exact ((Below.refl _ _).alloc (Nat.le_refl _) _).alloc (by simp) _
  have h0 : HasR w0 b (l ++ [(k, v)]) := h.below b0
  have p0 : w0.heap[w.heap.size]? = some (.cells [Value.int .i64 0, Value.int .u16 0].toArray 68 (0, 0)) := by
    rw [← hw0]; exact (Below.heap_alloc _ _ _ (by simp)).trans (heap_alloc_new w _)
  have p1 : w0.heap[w.heap.size + 1]? = some (.cells [Value.int .i64 0, Value.int .u16 0].toArray 68 (0, 0)) := by
    rw [← hw0]; have := heap_alloc_new (w.alloc (.cells #[.int .i64 0, .int .u16 0] 68)) (.cells #[.int .i64 0, .int .u16 0] 68); simpa using this
  have s0 : w0.heap.size = w.heap.size + 2 := by rw [← hw0]; simp
  go_enter Tryz.func146, Tryz.ntmps146
  go_wp2_with fail
  refine (rtop b _ l.length 0 (by simp) w0 h0).mono ?_
  rintro e w1 ⟨rfl, q, hq⟩
  have h1 : HasR w1 b (l ++ [(k, v)]) := by rw [hq]; exact h0
  have b1 : Below w.heap.size w w1 := by rw [hq]; exact ⟨b0.os, b0.tape, b0.output, b0.size, b0.block⟩
  have p0' : w1.heap[w.heap.size]? = some (.cells [Value.int .i64 0, Value.int .u16 0].toArray 68 (0, 0)) := by rw [hq]; exact p0
  have p1' : w1.heap[w.heap.size + 1]? = some (.cells [Value.int .i64 0, Value.int .u16 0].toArray 68 (0, 0)) := by rw [hq]; exact p1
  have s1 : w1.heap.size = w.heap.size + 2 := by rw [hq]; exact s0
  clear hq hw0 b0 h0 p0 p1 s0
  have g1 := h1.get l.length (k, v) (by simp)
  have g2 := g1.2
  replace g1 := g1.1
  obtain ⟨w2, hw2⟩ : ∃ w2, w1.alloc (.cells #[.int .i64 k, .int .u16 v] 68) = w2 := ⟨_, rfl⟩
  have b12 : Below w1.heap.size w1 w2 := by rw [← hw2]; exact (Below.refl _ _).alloc (Nat.le_refl _) _
  have b2 : Below w.heap.size w w2 := b1.trans (b12.mono (by omega))
  have h2 : HasR w2 b (l ++ [(k, v)]) := h1.below b12
  have q0 := (b12.block _ (by omega)).trans p0'
  have q1 := (b12.block _ (by omega)).trans p1'
  have q2 : w2.heap[w.heap.size + 2]? = some (.cells [Value.int .i64 k, Value.int .u16 v].toArray 68 (0, 0)) := by rw [← hw2, ← s1]; exact heap_alloc_new w1 _
  have hbw := lt_of h.1
  have hq0 : w.heap.size + 1 ≠ b := by omega
  go_wp2_with fail
  have H2 : Hid _ := h2
  have B2 : Hid _ := b2
  have HB : Hid _ := h.1
  have Q0 : Hid _ := q0
  have Q1 : Hid _ := q1
  have Q2 : Hid _ := q2
  have sA : w2.drew.cell? ⟨w.heap.size + 1, 0, none⟩ = some (.int .i64 0) ∧ w2.drew.cell? ⟨w.heap.size + 1, 1, none⟩ = some (.int .u16 0) := ⟨cell_of w2 _ 0 _ 68 _ q1 rfl, cell_of w2 _ 1 _ 68 _ q1 rfl⟩
  have ht : Calls Tryz.prog 137 #[.pointer (some ⟨b, 0, none⟩), .int .i64 0] w2.drew fun e w3 => e = .returned (.pointer (some ⟨b, l.length * 2, none⟩)) ∧ (w3.cell? ⟨w.heap.size + 1, 0, none⟩ = some (.int .i64 0) ∧ w3.cell? ⟨w.heap.size + 1, 1, none⟩ = some (.int .u16 0)) ∧
      w3.cell? ⟨b, l.length * 2, none⟩ = some (.int .i64 k) ∧ w3.cell? ⟨b, l.length * 2 + 1, none⟩ = some (.int .u16 v) ∧ w3.frozen? ⟨b, l.length * 2, none⟩ = false ∧ w3.frozen? ⟨b, l.length * 2 + 1, none⟩ = false ∧
      (((w3.setCell ⟨b, l.length * 2, none⟩ (.int .i64 0)).setCell ⟨b, l.length * 2 + 1, none⟩ (.int .u16 0)).cell? ⟨w.heap.size + 1, 0, none⟩ = some (.int .i64 0) ∧ ((w3.setCell ⟨b, l.length * 2, none⟩ (.int .i64 0)).setCell ⟨b, l.length * 2 + 1, none⟩ (.int .u16 0)).cell? ⟨w.heap.size + 1, 1, none⟩ = some (.int .u16 0)) ∧
      Hid (w3.heap = w2.heap ∧ w3.os = w2.os ∧ w3.tape = w2.tape ∧ w3.output = w2.output) := by
    refine (rtop b _ l.length 0 (by simp) w2.drew (show HasR w2.drew b (l ++ [(k, v)]) from h2)).mono ?_
    rintro e w3 ⟨rfl, q3, rfl⟩
    have hb3 : (w2.drew.drewN q3).heap[b]? = _ := h2.1
    have g := HasR.get (W := w2.drew.drewN q3) (b := b) (l := l ++ [(k, v)]) h2 l.length (k, v) (by simp)
    refine ⟨rfl, sA, g.1, g.2, frozen_of _ b _ _ 93 hb3, frozen_of _ b _ _ 93 hb3, ?_, ?_⟩
    · exact ⟨(World.cell?_of_block (w := w2.drew.drewN q3) ((setCell_other _ b _ _ _ hq0).trans (setCell_other _ b _ _ _ hq0))).trans sA.1, (World.cell?_of_block (w := w2.drew.drewN q3) ((setCell_other _ b _ _ _ hq0).trans (setCell_other _ b _ _ _ hq0))).trans sA.2⟩
    · exact ⟨rfl, rfl, rfl, rfl⟩
  clear hw2 g1 g2 p0' p1' h1 b1 s1 b12 b2 h2 q0 q1 q2 h
  go_region_held (fun W => W.cell? ⟨w.heap.size + 1, 0, none⟩ = some (.int .i64 0) ∧ W.cell? ⟨w.heap.size + 1, 1, none⟩ = some (.int .u16 0))
    (first | (with_reducible exact sA) | (with_reducible exact sB) | (with_reducible exact sC))
    ((go_at_call 137; refine ht.mono ?_; rintro e w3 ⟨rfl, sB, f1, f2, z1, z2, sC, HW⟩))
  obtain ⟨w4, hw4⟩ : ∃ w4, (w3.setCell ⟨b, l.length * 2, none⟩ (.int .i64 0)).setCell ⟨b, l.length * 2 + 1, none⟩ (.int .u16 0) = w4 := ⟨_, rfl⟩
  have h3 : HasR w3 b (l ++ [(k, v)]) := ⟨by rw [HW.out.1]; exact H2.out.1, H2.out.2⟩
  have hb4 := setCell_heap _ b (l.length * 2 + 1) _ 93 (.int .u16 0) (setCell_heap w3 b (l.length * 2) _ 93 (.int .i64 0) h3.1)
  rw [hw4] at hb4
  have k4 : ∀ i, i ≠ b → w4.heap[i]? = w2.heap[i]? := fun i hi => by rw [← hw4]; exact ((setCell_other _ b _ _ _ hi).trans (setCell_other _ b _ _ _ hi)).trans (by rw [HW.out.1])
  have c4 : w4.cell? ⟨b, 512, none⟩ = some (.int .i64 ((l.length + 1 : Nat) : Int)) := by
    refine cell_of _ b 512 _ 93 _ hb4 ?_
    rw [List.getElem?_set_ne (by omega), List.getElem?_set_ne (by omega)]
    have := pc_count hK (0, 0) _ h3.le
    simpa using this
  have z4 := frozen_of w4 b 512 _ 93 hb4
  have e1 : IntKind.i64.wrap (((l.length + 1 : Nat) : Int) - 1) = (l.length : Int) := by rw [i64_id _ (by omega) (by omega)]; omega
  obtain ⟨w5, hw5⟩ : ∃ w5, w4.setCell ⟨b, 512, none⟩ (.int .i64 (l.length : Int)) = w5 := ⟨_, rfl⟩
  have h5 : HasR w5 b l := by rw [← hw5, ← hw4]; exact h3.set3
  have k5 : ∀ i, i ≠ b → w5.heap[i]? = w2.heap[i]? := fun i hi => by rw [← hw5]; exact (setCell_other _ b _ _ _ hi).trans (k4 i hi)
  have m5 : w5.heap.size = w2.heap.size ∧ w5.os = w2.os ∧ w5.tape = w2.tape ∧ w5.output = w2.output := by
    refine ⟨?_, ?_, ?_, ?_⟩
    · rw [← hw5, ← hw4, setCell_size, setCell_size, setCell_size, HW.out.1]
    · rw [← hw5, ← hw4]; exact HW.out.2.1
    · rw [← hw5, ← hw4]; exact HW.out.2.2.1
    · rw [← hw5, ← hw4]; exact HW.out.2.2.2
  have hbw := HB.out
  have hlt : b < w.heap.size := lt_of hbw
  have d2 := (k5 (w.heap.size + 2) (by omega)).trans Q2.out
  have d0 := (k5 w.heap.size (by omega)).trans Q0.out
  have x1 := cell_of w5 _ 0 _ 68 _ d2 rfl
  have x2 := cell_of w5 _ 1 _ 68 _ d2 rfl
  have y1 := cell_of w5 _ 0 _ 68 _ d0 rfl
  have y2 := cell_of w5 _ 1 _ 68 _ d0 rfl
  have y3 := frozen_of w5 _ 0 _ 68 d0
  have y4 := frozen_of w5 _ 1 _ 68 d0
  have hfin : HasR ((w5.setCell ⟨w.heap.size, 0, none⟩ (.int .i64 k)).setCell ⟨w.heap.size, 1, none⟩ (.int .u16 v)) b l ∧ At b w ((w5.setCell ⟨w.heap.size, 0, none⟩ (.int .i64 k)).setCell ⟨w.heap.size, 1, none⟩ (.int .u16 v)) := by
    refine ⟨h5.kept ((setCell_other _ _ _ _ _ (by omega)).trans (setCell_other _ _ _ _ _ (by omega))), m5.2.1.trans B2.out.os, m5.2.2.1.trans B2.out.tape, m5.2.2.2.trans B2.out.output, ?_, ?_⟩
    · rw [setCell_size, setCell_size, m5.1]; exact B2.out.size
    · intro i hi hn
      exact ((setCell_other _ _ _ _ _ (by omega)).trans (setCell_other _ _ _ _ _ (by omega))).trans ((k5 i hn).trans (B2.out.block i hi))
  have HF : Hid _ := hfin
  generalize hK' : ((l.length + 1 : Nat) : Int) = K at *
  clear hK' hfin d0 d2 hlt hbw m5 k5 h5 k4 hb4 h3 ht sA sB sC f1 f2 z1 z2 hl
  go_wp2_with fail
  exact bodyPost_ret (v := .agg #[.int .i64 k, .int .u16 v]) (by simp [results, Tryz.results146, go_sem, y1, y2]) rfl ⟨rfl, HF.out⟩
theorem field1 (W : World) (k v : Int) : (Instr.field 68 (Value.agg #[.int .i64 k, .int .u16 v]) 1).run Tryz.prog W = .ok (.int .u16 v) W := by
  simp [Instr.field, run_underlying Tryz.underlying68, Value.cells, Tryz.sizeOf3, Tryz.sizeOf31, go_sem, asAgg]
theorem rpop_ok (b : Nat) (l : List (Int × Int)) (k v : Int) (w : World) (h : HasR w b (l ++ [(k, v)])) : Calls Tryz.prog 127 #[.pointer (some ⟨b, 0, none⟩), .int .i64 k] w fun e w' => e = .returned (.tuple #[.int .u16 v, .int .i64 0]) ∧ HasR w' b l ∧ At b w w' := by
  have ha := rat_ok b _ l.length 0 (by simp) k v (by simp) w h
  go_enter Tryz.func127, Tryz.ntmps127
  go_wp2_with fail
  refine ha.mono ?_
  rintro e w1 ⟨rfl, q, hq⟩
  have h1 : HasR w1 b (l ++ [(k, v)]) := by rw [hq]; exact h
  have t1 : At b w w1 := by rw [hq]; exact (Tc.refl (fun k => k = b) w).drewN q
  clear hq ha
  go_wp2_with fail
  refine (rtake b l k v w1 h1).mono ?_
  rintro e w2 ⟨rfl, h2, t2⟩
  clear h1
  have hf := fun W => field1 W k v
  go_wp2
  go_ret2
  exact ⟨rfl, h2, t1.trans t2 (fun _ f => f) (fun _ _ f => f)⟩
theorem rpop_kind (b : Nat) (l : List (Int × Int)) (k v kind : Int) (hne : k ≠ kind) (w : World) (h : HasR w b (l ++ [(k, v)])) : Calls Tryz.prog 127 #[.pointer (some ⟨b, 0, none⟩), .int .i64 kind] w fun e w' => e = .returned (.tuple #[.int .u16 0, .int .i64 5]) ∧ ∃ q, w' = w.drewN q := by
  have ha := rat_kind b _ l.length 0 (by simp) k v (by simp) kind hne w h
  clear h hne
  go_enter Tryz.func127, Tryz.ntmps127
  go_wp2_with fail
  refine ha.mono ?_
  rintro e w1 ⟨rfl, q, rfl⟩
  go_wp2
  go_ret2
  exact ⟨rfl, _, rfl⟩
theorem rpop_empty (b : Nat) (kind : Int) (w : World) (h : HasR w b []) : Calls Tryz.prog 127 #[.pointer (some ⟨b, 0, none⟩), .int .i64 kind] w fun e w' => e = .returned (.tuple #[.int .u16 0, .int .i64 3]) ∧ w' = w := by
  have ha := rat_under b [] 0 kind (.inr (by simp)) w h
  clear h
  go_enter Tryz.func127, Tryz.ntmps127
  go_wp2_with fail
  refine ha.mono ?_
  rintro e w1 ⟨rfl, rfl⟩
  go_wp2
  go_ret2
  exact ⟨rfl, rfl⟩
theorem rpop_nil (kind : Int) (w : World) : Calls Tryz.prog 127 #[.pointer none, .int .i64 kind] w fun e w' => e = .returned (.tuple #[.int .u16 0, .int .i64 3]) ∧ w' = w := by
  have ha := rat_nil 0 kind (.inr (by omega)) w
  go_enter Tryz.func127, Tryz.ntmps127
  go_wp2_with fail
  refine ha.mono ?_
  rintro e w1 ⟨rfl, rfl⟩
  go_wp2
  go_ret2
  exact ⟨rfl, rfl⟩
end Go.Proofs.YtgponcjjnjpfkabGreat.S
/-! SameCells, SameReturn, May. -/
namespace Go.Proofs.YtgponcjjnjpfkabGreat.S
open Go.RowKit
open Go.Proofs
set_option linter.unusedVariables false
set_option linter.unusedSimpArgs false
def okK (t : Int × Int) : Bool := decide (1 ≤ t.1) && decide (t.1 ≤ 4)
def okR (r : List (Int × Int)) : Bool := r.all okK
def mayS (d : List Int) (r : List (Int × Int)) : Bool := okR r && (decide (d.length ≤ 256) && decide (r.length ≤ 128))
set_option maxHeartbeats 1000000
set_option maxRecDepth 100000
theorem sameU (p p' : Option Addr) (c c' : Nat) (l : List Int) (hl : l.length ≤ room) (w : World) (h : Sl eU 1 w p l) (h' : Sl eU 1 w p' l) :
    Calls Tryz.prog 24 #[.slice p l.length c, .slice p' l.length c'] w fun e w' => e = .returned (.bool true) ∧ ∃ q, w' = w.drewN q := by
  unfold room at hl
  go_enter Tryz.func24, Tryz.ntmps24
  go_wp2
  go_loopw [5] (fun i wr => ∃ k q : Nat, k ≤ l.length ∧ i = .int .i64 (k : Int) ∧ wr = w.drewN q) (fun i _ => l.length - (intOf i).toNat)
  case atStart => exact ⟨0, 0, by omega, rfl, rfl⟩
  case round =>
    obtain ⟨k, q, hk, rfl, rfl⟩ := hrel
    by_cases hlt : k < l.length
    · have i1 : (k : Int) < l.length := by omega
      obtain ⟨b, o, rfl, e1⟩ := h.u k l[k] (List.getElem?_eq_getElem hlt)
      obtain ⟨b', o', rfl, f1⟩ := h'.u k l[k] (List.getElem?_eq_getElem hlt)
      generalize l[k] = t at *
      have g1 : ∀ q, (w.drewN q).cell? ⟨b, o + k, none⟩ = some (.int .u16 t) := fun q => e1
      have g4 : ∀ q, (w.drewN q).cell? ⟨b', o' + k, none⟩ = some (.int .u16 t) := fun q => f1
      clear h h'
      go_wp2_with fail
      go_quiet (fail)
      go_wp2
      go_roundw
      case rel =>
        first
          | exact ⟨k + 1, _, by omega, by go_num, rfl⟩
          | ((repeat apply Exists.intro); refine ⟨⟨k + 1, _, by omega, ?_, rfl⟩, rfl⟩; go_num)
      case measure => simp [intOf]; omega
    · obtain rfl : k = l.length := by omega
      go_wp2
      go_ret
      exact ⟨rfl, _, rfl⟩
theorem sameK (p p' : Option Addr) (c c' : Nat) (l : List (Int × Int)) (hl : l.length ≤ room) (w : World) (h : Sl eK 2 w p l) (h' : Sl eK 2 w p' l) :
    Calls Tryz.prog 37 #[.slice p l.length c, .slice p' l.length c'] w fun e w' => e = .returned (.bool true) ∧ ∃ q, w' = w.drewN q := by
  unfold room at hl
  go_enter Tryz.func37, Tryz.ntmps37
  go_wp2
  go_loopw [5] (fun i wr => ∃ k q : Nat, k ≤ l.length ∧ i = .int .i64 (k : Int) ∧ wr = w.drewN q) (fun i _ => l.length - (intOf i).toNat)
  case atStart => exact ⟨0, 0, by omega, rfl, rfl⟩
  case round =>
    obtain ⟨k, q, hk, rfl, rfl⟩ := hrel
    by_cases hlt : k < l.length
    · have i1 : (k : Int) < l.length := by omega
      obtain ⟨b, o, rfl, e1, e2⟩ := h.k k l[k] (List.getElem?_eq_getElem hlt)
      obtain ⟨b', o', rfl, f1, f2⟩ := h'.k k l[k] (List.getElem?_eq_getElem hlt)
      generalize l[k] = t at *
      have g1 : ∀ q, (w.drewN q).cell? ⟨b, o + k * 2, none⟩ = some (.int .i64 t.1) := fun q => e1
      have g2 : ∀ q, (w.drewN q).cell? ⟨b, o + k * 2 + 1, none⟩ = some (.int .u16 t.2) := fun q => e2
      have g4 : ∀ q, (w.drewN q).cell? ⟨b', o' + k * 2, none⟩ = some (.int .i64 t.1) := fun q => f1
      have g5 : ∀ q, (w.drewN q).cell? ⟨b', o' + k * 2 + 1, none⟩ = some (.int .u16 t.2) := fun q => f2
      clear h h'
      go_wp2_with fail
      go_quiet (fail)
      go_wp2
      go_roundw
      case rel =>
        first
          | exact ⟨k + 1, _, by omega, by go_num, rfl⟩
          | ((repeat apply Exists.intro); refine ⟨⟨k + 1, _, by omega, ?_, rfl⟩, rfl⟩; go_num)
      case measure => simp [intOf]; omega
    · obtain rfl : k = l.length := by omega
      go_wp2
      go_ret
      exact ⟨rfl, _, rfl⟩
theorem okR_no (r : List (Int × Int)) (k : Nat) (a : Int × Int) (h : r[k]? = some a) (hk : okK a = false) : okR r = false := by
  rw [okR, Bool.eq_false_iff]
  intro c
  rw [List.all_eq_true] at c
  have := c a (List.mem_of_getElem? h)
  rw [hk] at this; cases this
theorem okK_t {t : Int × Int} (h1 : 1 ≤ t.1) (h2 : t.1 ≤ 4) : okK t = true := by rw [okK, decide_eq_true h1, decide_eq_true h2]; rfl
theorem okK_f {t : Int × Int} (h : t.1 < 1 ∨ 4 < t.1) : okK t = false := by
  rcases h with h | h
  · rw [okK, decide_eq_false (by omega)]; rfl
  · rw [okK, decide_eq_false (p := t.1 ≤ 4) (by omega), Bool.and_false]
theorem okR_yes (r : List (Int × Int)) (h : ∀ (j : Nat) a, r[j]? = some a → okK a = true) : okR r = true := by
  rw [okR, List.all_eq_true]
  intro a ha
  obtain ⟨j, hj⟩ := List.mem_iff_getElem?.1 ha
  exact h j a hj
end Go.Proofs.YtgponcjjnjpfkabGreat.S
/-! Stacks. -/
namespace Go.Proofs.YtgponcjjnjpfkabGreat.S
open Go.RowKit
open Go.Proofs
set_option linter.unusedVariables false
set_option linter.unusedSimpArgs false
theorem hid {p : Prop} (h : p) : Hid p := h
def z60 : List Value := pc eU 0 []
def z50 : List Value := pc eK (0, 0) []
theorem zinfo60 : (Tryz.prog.info? 87).map (fun i => i.zero) = some (some (.agg z60.toArray)) := by kernel_rfl
theorem zinfo50 : (Tryz.prog.info? 93).map (fun i => i.zero) = some (some (.agg z50.toArray)) := by kernel_rfl
theorem zeroValue60 (w : World) : (zeroValue 87).run Tryz.prog w = .ok (.agg z60.toArray) w := by
  have h := zinfo60
  cases hq : Tryz.prog.info? 87 with
  | none => rw [hq] at h; cases h
  | some i =>
    rw [hq] at h
    have hz : i.zero = some (.agg z60.toArray) := Option.some.inj h
    simp [zeroValue, typeInfo, hq, hz]
theorem zeroValue50 (w : World) : (zeroValue 93).run Tryz.prog w = .ok (.agg z50.toArray) w := by
  have h := zinfo50
  cases hq : Tryz.prog.info? 93 with
  | none => rw [hq] at h; cases h
  | some i =>
    rw [hq] at h
    have hz : i.zero = some (.agg z50.toArray) := Option.some.inj h
    simp [zeroValue, typeInfo, hq, hz]
theorem zc60 (w : World) : Tryz.zeroCells87 = z60.toArray := by
  have h := (Tryz.zeroValue87 w).symm.trans (zeroValue60 w)
  injection h with h1
  injection h1
theorem build60 (W : World) : (Instr.build 87 #[]).run Tryz.prog W = .ok (.agg z60.toArray) W := by
  simp [Instr.build, zc60 W, Value.cells, run_underlying Tryz.underlying87, Tryz.sizeOf85, Instr.fill]
theorem zc50 (w : World) : Tryz.zeroCells93 = z50.toArray := by
  have h := (Tryz.zeroValue93 w).symm.trans (zeroValue50 w)
  injection h with h1
  injection h1
theorem build50 (W : World) : (Instr.build 93 #[]).run Tryz.prog W = .ok (.agg z50.toArray) W := by
  simp [Instr.build, zc50 W, Value.cells, run_underlying Tryz.underlying93, Tryz.sizeOf91, Instr.fill]
theorem wpList_build60 {ops : Array Oper} {rest : List Oper} {o : Oper} {a : Act} {w : World} {Q : Exit → Act → World → Prop} (hg : o.guard = none) (ho : o.op = .build 87 #[])
    (h : wpList Tryz.prog ops Q rest (a.put o.dst (.agg z60.toArray)) w) : wpList Tryz.prog ops Q (o :: rest) a w :=
  wpList_plain hg fun _ hK => by
    unfold Oper.wp execOp
    have e := build60 w
    simp only [ho, List.map_toArray, List.map_nil, Sem.run_bind, e, Result.andThen_ok]
    exact hK _ _ h
theorem wpList_build50 {ops : Array Oper} {rest : List Oper} {o : Oper} {a : Act} {w : World} {Q : Exit → Act → World → Prop} (hg : o.guard = none) (ho : o.op = .build 93 #[])
    (h : wpList Tryz.prog ops Q rest (a.put o.dst (.agg z50.toArray)) w) : wpList Tryz.prog ops Q (o :: rest) a w :=
  wpList_plain hg fun _ hK => by
    unfold Oper.wp execOp
    have e := build50 w
    simp only [ho, List.map_toArray, List.map_nil, Sem.run_bind, e, Result.andThen_ok]
    exact hK _ _ h
theorem hasD0 (W : World) : HasD (W.alloc (.cells z60.toArray 87)) W.heap.size [] := ⟨heap_alloc_new W _, by simp⟩
theorem hasR0 (W : World) : HasR (W.alloc (.cells z50.toArray 93)) W.heap.size [] := ⟨heap_alloc_new W _, by simp⟩
theorem At.below {b B : Nat} {W W' : World} (h : At b W W') (hB : B ≤ b) (hs : B ≤ W.heap.size) : Below B W W' := Tc.below h hs fun i e => by subst e; exact hB
set_option maxHeartbeats 2000000
set_option maxRecDepth 100000
theorem stacks_any (pd pr : Option Addr) (cd cr : Nat) (d : List Int) (r : List (Int × Int)) (hd : d.length ≤ room) (hr : r.length ≤ room) (w : World) (h1 : Sl eU 1 w pd d) (h2 : Sl eK 2 w pr r) :
    Calls Tryz.prog 26 #[.slice pd d.length cd, .slice pr r.length cr] w fun e w' => Below w.heap.size w w' ∧ ((mayS d r = true ∧ ∃ b1 b2, e = .returned (.tuple #[.pointer (some ⟨b1, 0, none⟩), .pointer (some ⟨b2, 0, none⟩), .int .i64 0]) ∧ HasD w' b1 d ∧ HasR w' b2 r ∧ w.heap.size ≤ b1 ∧ w.heap.size ≤ b2 ∧ b1 ≠ b2) ∨
      (mayS d r = false ∧ e = .returned (.tuple #[.pointer none, .pointer none, .int .i64 2]))) := by
  have hr' := hr
  unfold room at hr'
  go_enter Tryz.func26, Tryz.ntmps26
  go_wp2
  go_loopw [13] (fun i wr => ∃ k : Nat, k ≤ r.length ∧ i = .int .i64 (k : Int) ∧ (∀ j a, j < k → r[j]? = some a → okK a = true) ∧ Below w.heap.size w wr) (fun i _ => r.length - (intOf i).toNat)
  case atStart => exact ⟨0, by omega, rfl, fun j a hj => by omega, Below.refl _ _⟩
  case round =>
    obtain ⟨k, hk, rfl, hG, hB⟩ := hrel
    by_cases hlt : k < r.length
    · have i1 : (k : Int) < r.length := by omega
      have ha := List.getElem?_eq_getElem hlt
      obtain ⟨b, o, rfl, e1, e2⟩ := (h2.below hB).k k r[k] ha
      have hno : okK r[k] = false → mayS d r = false := fun c => by rw [mayS, okR_no r k _ ha c]; rfl
      have hG2 : okK r[k] = true → ∀ j a, j < k + 1 → r[j]? = some a → okK a = true := by
        intro c j a hj he
        by_cases e : j = k
        · subst e; rw [ha] at he; cases he; exact c
        · exact hG j a (by omega) he
      have hB2 : Below w.heap.size w (wr.alloc (Obj.cells #[.int .i64 (r[k]).1, .int .u16 (r[k]).2] 68)) := hB.alloc hB.size _
      clear hG h1 h2 ha
      have HG := hid hG2
      have HN := hid hno
      have HB := hid hB2
      clear hG2 hno hB2 hB
      generalize r[k] = t at *
      by_cases c1 : t.1 < 1
      · have d1 : decide (t.1 < 1) = true := decide_eq_true c1
        have f1 := HN.out (okK_f (.inl c1))
        have HF := hid f1
        clear f1
        go_wp2
        refine bodyPost_ret (v := .tuple #[.pointer none, .pointer none, .int .i64 2]) (by simp [results, Tryz.results26, go_sem]) rfl ?_
        exact ⟨HB.out, .inr ⟨HF.out, rfl⟩⟩
      have d1 : decide (t.1 < 1) = false := decide_eq_false c1
      by_cases c2 : 4 < t.1
      · have d2 : decide (4 < t.1) = true := decide_eq_true c2
        have f1 := HN.out (okK_f (.inr c2))
        have HF := hid f1
        clear f1
        go_wp2
        refine bodyPost_ret (v := .tuple #[.pointer none, .pointer none, .int .i64 2]) (by simp [results, Tryz.results26, go_sem]) rfl ?_
        exact ⟨HB.out, .inr ⟨HF.out, rfl⟩⟩
      have d2 : decide (4 < t.1) = false := decide_eq_false c2
      go_wp2
      go_roundw
      case rel =>
        have hz := HG.out (okK_t (by omega) (by omega))
        exact ⟨k + 1, by omega, by go_num, hz, HB.out⟩
      case measure => simp [intOf]; omega
    · obtain rfl : k = r.length := by omega
      have hM : mayS d r = (decide (d.length ≤ 256) && decide (r.length ≤ 128)) := by
        rw [mayS, okR_yes r (fun j a he => hG j a (List.getElem?_eq_some_iff.1 he).1 he), Bool.true_and]
      have HM := hid hM
      clear hM hG
      obtain ⟨wA, hwA⟩ : ∃ wA, wr.alloc (.cells z60.toArray 87) = wA := ⟨_, rfl⟩
      have a1 := hasD0 wr
      rw [hwA] at a1
      have sA : wA.heap.size = wr.heap.size + 1 := by rw [← hwA]; simp
      have bA : Below wr.heap.size wr wA := by rw [← hwA]; exact (Below.refl _ _).alloc (Nat.le_refl _) _
      obtain ⟨wB, hwB⟩ : ∃ wB, wA.alloc (.cells z50.toArray 93) = wB := ⟨_, rfl⟩
      have a2 := hasR0 wA
      rw [hwB] at a2
      have bB : Below wA.heap.size wA wB := by rw [← hwB]; exact (Below.refl _ _).alloc (Nat.le_refl _) _
      have a3 := a1.below bB
      have hBB : Below w.heap.size w wB := hB.trans ((bA.trans (bB.mono bA.size)).mono hB.size)
      have hws := hB.size
      have f1 := h1.below hBB
      have f2 := h2.below hBB
      rw [sA] at a2
      have HA3 := hid a3
      have HA2 := hid a2
      have HF1 := hid f1
      have HF2 := hid h2
      have HBB := hid hBB
      have hsB : wr.heap.size < wB.heap.size := lt_of a3.1
      have HS : Hid (wA.heap.size = wr.heap.size + 1) := sA
      clear a1 a2 a3 bA bB hB f1 f2 h1 h2 hBB
      have hlen : ¬ ((r.length : Int) < r.length) := by omega
      go_wp2_with (first | (refine wpList_build60 rfl rfl ?_) | (refine wpList_build50 rfl rfl ?_))
      by_cases c1 : d.length ≤ 256
      · refine (dpush_yes wr.heap.size [] d pd cd wB HA3.out HF1.out (by simpa using c1)).mono ?_
        rintro e w1 ⟨rfl, g1, t1⟩
        have hB1 : Below w.heap.size w w1 := HBB.out.trans (t1.below (by omega) HBB.out.size)
        have g2 : HasR w1 (wr.heap.size + 1) [] := HA2.out.kept (t1.block _ (lt_of HA2.out.1) (by omega))
        have g3 := HF2.out.below hB1
        have G1 := hid g1
        have G2 := hid g2
        have G3 := hid g3
        have T1 := hid t1
        have HB1 := hid hB1
        clear g1 g2 g3 t1 hB1
        go_wp2_with fail
        by_cases c2 : r.length ≤ 128
        · refine (rpush_yes (wr.heap.size + 1) [] r pr cr w1 G2.out G3.out (by simpa using c2)).mono ?_
          rintro e w2 ⟨rfl, g4, t2⟩
          have hB2 : Below w.heap.size w w2 := HB1.out.trans (t2.below (by omega) HB1.out.size)
          have g5 := G1.out.kept (t2.block _ (lt_of G1.out.1) (by omega))
          have G4 := hid g4
          have G5 := hid g5
          have HB2 := hid hB2
          clear g4 g5 t2 hB2
          go_wp2
          refine bodyPost_ret (v := .tuple #[.pointer (some ⟨wr.heap.size, 0, none⟩), .pointer (some ⟨wr.heap.size + 1, 0, none⟩), .int .i64 0]) (by simp [results, Tryz.results26, go_sem]) rfl ?_
          exact ⟨HB2.out, .inl ⟨by rw [HM.out, decide_eq_true c1, decide_eq_true c2]; rfl, _, _, rfl, by simpa using G5.out, by simpa using G4.out, hws, by omega, by omega⟩⟩
        · refine (rpush_no (wr.heap.size + 1) [] r pr cr w1 G2.out (by simp; omega) hr).mono ?_
          rintro e w2 ⟨rfl, hw2⟩
          obtain rfl := hw2.symm
          go_wp2
          refine bodyPost_ret (v := .tuple #[.pointer none, .pointer none, .int .i64 2]) (by simp [results, Tryz.results26, go_sem]) rfl ?_
          exact ⟨HB1.out, .inr ⟨by rw [HM.out, decide_eq_false c2, Bool.and_false], rfl⟩⟩
      · refine (dpush_no wr.heap.size [] d pd cd wB HA3.out (by simp; omega) hd).mono ?_
        rintro e w1 ⟨rfl, hw1⟩
        obtain rfl := hw1.symm
        go_wp2
        refine bodyPost_ret (v := .tuple #[.pointer none, .pointer none, .int .i64 2]) (by simp [results, Tryz.results26, go_sem]) rfl ?_
        exact ⟨HBB.out, .inr ⟨by rw [HM.out, decide_eq_false c1]; rfl, rfl⟩⟩
end Go.Proofs.YtgponcjjnjpfkabGreat.S
/-! The zero values of the great types: 16384 and 19464 cells. -/
namespace Go.Proofs.YtgponcjjnjpfkabGreat.M
open Go.Proofs
def lf (f : Nat → Value) : Nat → Nat → List Value
  | _, 0 => []
  | lo, n + 1 => f lo :: lf f (lo + 1) n
def tr (f : Nat → Value) : Nat → Nat → Nat → List Value
  | 0, lo, hi => lf f lo (hi - lo)
  | d + 1, lo, hi => List.append (tr f d lo ((lo + hi) / 2)) (tr f d ((lo + hi) / 2) hi)
theorem lf_eq (f : Nat → Value) : ∀ n lo, lf f lo n = (List.range' lo n).map f
  | 0, _ => rfl
  | n + 1, lo => by simp [lf, lf_eq f n (lo + 1), List.range'_succ]
theorem tr_eq (f : Nat → Value) : ∀ d lo hi, lo ≤ hi → tr f d lo hi = (List.range' lo (hi - lo)).map f
  | 0, lo, hi, _ => lf_eq f _ _
  | d + 1, lo, hi, h => by
    have e1 := tr_eq f d lo ((lo + hi) / 2) (by omega)
    have e2 := tr_eq f d ((lo + hi) / 2) hi (by omega)
    show tr f d lo ((lo + hi) / 2) ++ tr f d ((lo + hi) / 2) hi = _
    rw [e1, e2, ← List.map_append]
    congr 1
    have h1 : hi - lo = ((lo + hi) / 2 - lo) + (hi - (lo + hi) / 2) := by omega
    have h2 : (lo + hi) / 2 = lo + 1 * ((lo + hi) / 2 - lo) := by omega
    generalize (lo + hi) / 2 = m at *
    obtain ⟨k, rfl⟩ : ∃ k, m = lo + k := ⟨m - lo, by omega⟩
    have := @List.range'_append lo (lo + k - lo) (hi - (lo + k)) 1
    rw [h1, ← this]
    simp
def fz (_ : Nat) : Value := Value.int .u8 0
def fm (i : Nat) : Value := bif Nat.beq i 0 then Value.map none else bif Nat.ble 19463 i then Value.slice none 0 0 else bif Nat.beq i 19462 then Value.int .i64 0 else bif Nat.beq i 19461 then Value.int .u16 0 else bif Nat.beq i 19459 then Value.int .u16 0 else Value.int .u8 0
theorem zinfo83 : (Tryz.prog.info? 101).map (fun i => i.zero) = some (some (.agg (tr fz 8 0 16384).toArray)) := by kernel_rfl
theorem zinfo86 : (Tryz.prog.info? 104).map (fun i => i.zero) = some (some (.agg (tr fm 9 0 19464).toArray)) := by kernel_rfl
/-- The cells of a zero bank, of a zero memory. -/
def zero83 : List Value := (List.range' 0 16384).map fz
def zero86 : List Value := (List.range' 0 19464).map fm
theorem zero83_len : zero83.length = 16384 := by rw [zero83, List.length_map, List.length_range']
theorem zero86_len : zero86.length = 19464 := by rw [zero86, List.length_map, List.length_range']
theorem zero83_get (i : Nat) (h : i < 16384) : zero83[i]? = some (.int .u8 0) := by
  rw [zero83, List.getElem?_map, List.getElem?_range' h]; rfl
theorem zero86_get (i : Nat) (h : i < 19464) : zero86[i]? = some (fm i) := by
  rw [zero86, List.getElem?_map, List.getElem?_range' h]; simp
theorem zeroValue83 (w : World) : (zeroValue 101).run Tryz.prog w = .ok (.agg zero83.toArray) w := by
  have h := zinfo83
  cases hq : Tryz.prog.info? 101 with
  | none => rw [hq] at h; cases h
  | some i =>
    rw [hq, tr_eq fz 8 0 16384 (by omega)] at h
    have hz : i.zero = some (.agg zero83.toArray) := Option.some.inj h
    simp [zeroValue, typeInfo, hq, hz]
theorem zeroValue86 (w : World) : (zeroValue 104).run Tryz.prog w = .ok (.agg zero86.toArray) w := by
  have h := zinfo86
  cases hq : Tryz.prog.info? 104 with
  | none => rw [hq] at h; cases h
  | some i =>
    rw [hq, tr_eq fm 9 0 19464 (by omega)] at h
    have hz : i.zero = some (.agg zero86.toArray) := Option.some.inj h
    simp [zeroValue, typeInfo, hq, hz]
theorem zc83 (w : World) : Tryz.zeroCells101 = zero83.toArray := by
  have h := (Tryz.zeroValue101 w).symm.trans (zeroValue83 w)
  injection h with h1
  injection h1
theorem zc86 (w : World) : Tryz.zeroCells104 = zero86.toArray := by
  have h := (Tryz.zeroValue104 w).symm.trans (zeroValue86 w)
  injection h with h1
  injection h1
end Go.Proofs.YtgponcjjnjpfkabGreat.M
