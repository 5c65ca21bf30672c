import Derived.Test.YtokhlcioekbjdaaKWord
import Derived.Test.YtokhlcioekbjdaaTParts
import Derived.Laws.ResultCell
import Derived.Laws.Rows
import Derived.Laws.CopyRow
/-! A word as a token. -/
namespace Go.Proofs.Ytokhlcioekbjdaa.K
open Go.RowKit
open Go.Proofs.Ytokhlcioekbjdaa
open Go.Proofs.Ytokhlcioekbjdaa.T (size_list numE numC)
set_option linter.unusedVariables false

/-- A place, a token as values. -/
def pc (p : Int × Int) : Array Value := #[.int .i64 p.1, .int .i64 p.2]
def pv (p : Int × Int) : Value := .agg (pc p)
def tc (k : Int) (t : ByteArray) (v : Int) (p : Int × Int) : Array Value := #[.int .i64 k, .string t, .int .u16 v, .int .i64 p.1, .int .i64 p.2]
def tv (k : Int) (t : ByteArray) (v : Int) (p : Int × Int) : Value := .agg (tc k t v p)
def zc : Array Value := #[.int .i64 0, .string { data := #[] }, .int .u16 0, .int .i64 0, .int .i64 0]
def zt : Value := .agg zc
theorem sizeT : (Try.prog.info? 30).map (·.size) = some 5 := by kernel_rfl
theorem sizeP : (Try.prog.info? 24).map (·.size) = some 2 := by kernel_rfl
theorem Below.setRow {B : Nat} {a w : World} (h : Below B a w) (g : Nat) (hg : B ≤ g) (xs : Array Value) : Below B a (w.setRow g xs) :=
  ⟨h.os, h.tape, h.output, by show _ ≤ (w.heap.modify g _).size; rw [Array.size_modify]; exact h.size, fun k hk => (setRow_other w g k xs (by omega)).trans (h.block k hk)⟩
theorem lt_of {W : World} {i : Nat} {o : Obj} (e : W.heap[i]? = some o) : i < W.heap.size := (Array.getElem?_eq_some_iff.1 e).1
theorem trB {B : Nat} {w w1 w2 : World} (h : Below B w w1) (k : Below w1.heap.size w1 w2) (hs : B ≤ w1.heap.size) : Below B w w2 :=
  h.trans ⟨k.os, k.tape, k.output, k.size, fun i hi => k.block i (Nat.lt_of_lt_of_le hi hs)⟩
/-- The kind of a word. -/
def kd (l : List UInt8) : Int := if numE l = 0 then 2 else 1
theorem numE_cases (l : List UInt8) : (numE l = 0) ∨ (numE l = 21 ∧ numC l = 0) ∨ (numE l = 20 ∧ numC l = 0) := by
  unfold numE numC T.errOf T.cellOf
  cases T.numI l with
  | none => right; right; exact ⟨rfl, rfl⟩
  | some n =>
    by_cases h : -32768 ≤ n ∧ n ≤ 65535
    · left; simp only [if_pos h]
    · right; left; simp only [if_neg h]; exact ⟨trivial, trivial⟩
/-- What tokenOf ends with. -/
theorem tok_fin {w w1 : World} {c0 : Array Value} (hz : w1.heap[w.heap.size]? = some (.cells c0 30 (0, 0))) (hb : Below w.heap.size w w1) {a : Act} {k : Int} {t : ByteArray} {v : Int} {p : Int × Int} {x : Value} {q : Tmp} {u : Tmp} {fn : Func} (hr : fn.results = #[.cell q 30, .tmp u])
    (hp : a.tmps.getD q undef = .pointer (some ⟨w.heap.size, 0, none⟩)) (h3 : a.tmps.getD u undef = x) (hd : a.defers = []) :
    bodyPost Try.prog fn (fun e w' => e = .returned (.tuple #[tv k t v p, x]) ∧ Below w.heap.size w w') .ret a (w1.setRow w.heap.size (tc k t v p)) := by
  have hfin := setRow_heap w1 w.heap.size _ (tc k t v p) _ _ hz
  have hbf := Below.setRow hb w.heap.size (Nat.le_refl _) (tc k t v p)
  refine bodyPost_ret (v := .tuple #[tv k t v p, x]) ?_ hd ⟨rfl, hbf⟩
  rw [results_cell_tmp hr, hp, h3]
  simp [asAddr, run_loadVar_row _ w.heap.size _ 30 _ _ _ hfin Try.underlying30 rfl sizeT, tv]
theorem tokenOf_wide (s : ByteArray) (hs : s.size ≤ maxLen) (h : 31 < s.size) (w : World) :
    Calls Try.prog 32 #[.string s] w fun e w' => e = .returned (.tuple #[tv 0 ⟨#[]⟩ 0 (0, 0), .int .i64 93]) ∧ Below w.heap.size w w' := by
  have hs0 := hs
  unfold maxLen at hs
  obtain ⟨wA, hA⟩ : ∃ wA, w.alloc (.cells #[.int .i64 0, .string { data := #[] }, .int .u16 0, .int .i64 0, .int .i64 0] 30) = wA := ⟨_, rfl⟩
  have hb : Below w.heap.size w wA := by rw [← hA]; exact (Below.refl _ w).alloc (Nat.le_refl _) _
  have hz : wA.heap[w.heap.size]? = some (.cells zc 30 (0, 0)) := by rw [← hA]; exact heap_alloc_new w _
  go_enter Try.func32, Try.ntmps32
  go_wp2_with (refine wpList_store_row rfl 30 _ _ rfl w.heap.size _ rfl rfl 30 zc hz (by exact sizeT) (by rfl) (by simp [Value.oneCell']) ?_)
  exact tok_fin hz hb rfl rfl rfl rfl
theorem tokenOf_great (s : ByteArray) (hs : s.size ≤ maxLen) (h : s.size ≤ 31) (hn : numE s.data.toList = 21) (w : World) :
    Calls Try.prog 32 #[.string s] w fun e w' => e = .returned (.tuple #[tv 0 ⟨#[]⟩ 0 (0, 0), .int .i64 21]) ∧ Below w.heap.size w w' := by
  have hs0 := hs
  unfold maxLen at hs
  obtain ⟨wA, hA⟩ : ∃ wA, w.alloc (.cells #[.int .i64 0, .string { data := #[] }, .int .u16 0, .int .i64 0, .int .i64 0] 30) = wA := ⟨_, rfl⟩
  have hb : Below w.heap.size w wA := by rw [← hA]; exact (Below.refl _ w).alloc (Nat.le_refl _) _
  have hz : wA.heap[w.heap.size]? = some (.cells zc 30 (0, 0)) := by rw [← hA]; exact heap_alloc_new w _
  go_enter Try.func32, Try.ntmps32
  go_wp2_with fail
  refine (T.numeral_any s hs0 _).mono ?_
  rintro e w1 ⟨rfl, h1⟩
  rw [hn]
  have hz1 : w1.heap[w.heap.size]? = some (.cells zc 30 (0, 0)) := (h1.block _ (lt_of hz)).trans hz
  have hb1 : Below w.heap.size w w1 := trB hb h1 hb.size
  go_wp2_with (refine wpList_store_row rfl 30 _ _ rfl w.heap.size _ rfl rfl 30 zc hz1 (by exact sizeT) (by rfl) (by simp [Value.oneCell']) ?_)
  exact tok_fin hz1 hb1 rfl rfl rfl rfl
theorem tokenOf_word (s : ByteArray) (hs : s.size ≤ maxLen) (h : s.size ≤ 31) (hn : numE s.data.toList = 20) (w : World) :
    Calls Try.prog 32 #[.string s] w fun e w' => e = .returned (.tuple #[tv 1 s 0 (0, 0), .int .i64 0]) ∧ Below w.heap.size w w' := by
  have hs0 := hs
  unfold maxLen at hs
  obtain ⟨wA, hA⟩ : ∃ wA, w.alloc (.cells #[.int .i64 0, .string { data := #[] }, .int .u16 0, .int .i64 0, .int .i64 0] 30) = wA := ⟨_, rfl⟩
  have hb : Below w.heap.size w wA := by rw [← hA]; exact (Below.refl _ w).alloc (Nat.le_refl _) _
  have hz : wA.heap[w.heap.size]? = some (.cells zc 30 (0, 0)) := by rw [← hA]; exact heap_alloc_new w _
  go_enter Try.func32, Try.ntmps32
  go_wp2_with fail
  refine (T.numeral_any s hs0 _).mono ?_
  rintro e w1 ⟨rfl, h1⟩
  rw [hn]
  have hz1 : w1.heap[w.heap.size]? = some (.cells zc 30 (0, 0)) := (h1.block _ (lt_of hz)).trans hz
  have hb1 : Below w.heap.size w w1 := trB hb h1 hb.size
  go_wp2_with (refine wpList_store_row rfl 30 _ _ rfl w.heap.size _ rfl rfl 30 zc hz1 (by exact sizeT) (by rfl) (by simp [Value.oneCell']) ?_)
  exact tok_fin hz1 hb1 rfl rfl rfl rfl
theorem tokenOf_num (s : ByteArray) (hs : s.size ≤ maxLen) (h : s.size ≤ 31) (hn : numE s.data.toList = 0) (w : World) :
    Calls Try.prog 32 #[.string s] w fun e w' => e = .returned (.tuple #[tv 2 s (numC s.data.toList) (0, 0), .int .i64 0]) ∧ Below w.heap.size w w' := by
  have hs0 := hs
  unfold maxLen at hs
  obtain ⟨wA, hA⟩ : ∃ wA, w.alloc (.cells #[.int .i64 0, .string { data := #[] }, .int .u16 0, .int .i64 0, .int .i64 0] 30) = wA := ⟨_, rfl⟩
  have hb : Below w.heap.size w wA := by rw [← hA]; exact (Below.refl _ w).alloc (Nat.le_refl _) _
  have hz : wA.heap[w.heap.size]? = some (.cells zc 30 (0, 0)) := by rw [← hA]; exact heap_alloc_new w _
  generalize hc : numC s.data.toList = v
  go_enter Try.func32, Try.ntmps32
  go_wp2_with fail
  refine (T.numeral_any s hs0 _).mono ?_
  rintro e w1 ⟨rfl, h1⟩
  rw [hn, hc]
  have hz1 : w1.heap[w.heap.size]? = some (.cells zc 30 (0, 0)) := (h1.block _ (lt_of hz)).trans hz
  have hb1 : Below w.heap.size w w1 := trB hb h1 hb.size
  go_wp2_with (refine wpList_store_row rfl 30 _ _ rfl w.heap.size _ rfl rfl 30 zc hz1 (by exact sizeT) (by rfl) (by simp [Value.oneCell']) ?_)
  exact tok_fin hz1 hb1 rfl rfl rfl rfl
end Go.Proofs.Ytokhlcioekbjdaa.K
