import Derived.Test.YtoemoiehjdmheaaGreatRMath
import Derived.Test.YtoemoiehjdmheaaGreatSKit
import Derived.Laws.Strings
import Derived.ChangeMaps
import Derived.MapKept
namespace Go.Proofs.YtoemoiehjdmheaaGreat.R
open Go.RowKit
open Go.Proofs
open Go.ChangeMaps (setBlock)
set_option linter.unusedVariables false
set_option linter.unusedSimpArgs false
abbrev En := List (ByteArray × Int)
def ents : Nat -> En -> List MapEntry
  | _, [] => []
  | i, (s, v) :: r => { key := .string s, val := .int .i64 v, born := i } :: ents (i + 1) r
def MP (W : World) (mb : Nat) (L : En) : Prop := W.heap[mb]? = some (.map (ents 0 L).toArray L.length)
def lk : En -> ByteArray -> Option Int
  | [], _ => none
  | (s, v) :: r, x => if s = x then some v else lk r x
theorem find_any (x : ByteArray) : ∀ (L : En) (i j : Nat), ∃ k, Instr.findNow .string (.string x) (ents i L) j = some ((lk L x).map fun v => (k, .int .i64 v))
  | [], _, _ => ⟨0, rfl⟩
  | (s, v) :: L, i, j => by
    by_cases h : s = x
    · subst h
      have e : Instr.sameNow .string (.string s) (.string s) = some true := by simp [Instr.sameNow, Go.MapKept.bytes_beq]
      refine ⟨j, ?_⟩
      simp only [ents, Instr.findNow, e, lk, if_pos]
      rfl
    · have e : Instr.sameNow .string (.string x) (.string s) = some false := by
        simp only [Instr.sameNow, Option.some.injEq]
        rw [Bool.eq_false_iff]
        intro c
        exact h ((Go.MapKept.bytes_beq _ _).1 c).symm
      obtain ⟨k, hk⟩ := find_any x L (i + 1) (j + 1)
      refine ⟨k, ?_⟩
      simp only [ents, Instr.findNow, e, lk, if_neg h]
      exact hk
theorem checkKey_str (W : World) (e : Bool) (z : ByteArray) : (Instr.checkKey e 10000 9 (.string z)).run Tryz.prog W = .ok () W := by
  have h : ∀ d : Nat, (Instr.checkKey e (d + 1) 9 (.string z)).run Tryz.prog W = .ok () W := fun d => by simp [Instr.checkKey, run_underlying Tryz.underlying9]
  exact h 9999
theorem look_no (W : World) (mb : Nat) (x : ByteArray) (L : En) (h : MP W mb L) (hn : lk L x = none) :
    (Instr.lookup 164 (.map (some mb)) (.string x) true).run Tryz.prog W = .ok (.tuple #[.int .i64 0, .bool false]) W := by
  obtain ⟨k, hk⟩ := find_any x L 0 0
  rw [hn] at hk
  unfold MP at h
  simp [Instr.lookup, run_underlying Tryz.underlying164, getObj, Sem.run, h, checkKey_str, Instr.findKey, run_underlying Tryz.underlying9, hk, Tryz.zeroValue3]
theorem look_yes (W : World) (mb : Nat) (x : ByteArray) (v : Int) (L : En) (h : MP W mb L) (hn : lk L x = some v) :
    (Instr.lookup 164 (.map (some mb)) (.string x) true).run Tryz.prog W = .ok (.tuple #[.int .i64 v, .bool true]) W := by
  obtain ⟨k, hk⟩ := find_any x L 0 0
  rw [hn] at hk
  unfold MP at h
  simp [Instr.lookup, run_underlying Tryz.underlying164, getObj, Sem.run, h, checkKey_str, Instr.findKey, run_underlying Tryz.underlying9, hk]
theorem ents_append : ∀ (L : En) (i : Nat) (s : ByteArray) (v : Int), ents i (L ++ [(s, v)]) = ents i L ++ [{ key := .string s, val := .int .i64 v, born := i + L.length }]
  | [], i, s, v => rfl
  | (x, y) :: L, i, s, v => by
    simp only [ents, List.cons_append, ents_append L (i + 1) s v, List.length_cons]
    rw [show i + 1 + L.length = i + (L.length + 1) by omega]
theorem run_put (W : World) (mb : Nat) (x : ByteArray) (v : Int) (L : En) (h : MP W mb L) (hn : lk L x = none) :
    (Instr.mapUpdate 164 (.map (some mb)) (.string x) (.int .i64 v)).run Tryz.prog W = .ok () (setBlock W mb (.map (ents 0 (L ++ [(x, v)])).toArray (L ++ [(x, v)]).length)) := by
  obtain ⟨k, hk⟩ := find_any x L 0 0
  rw [hn] at hk
  unfold MP at h
  simp [Instr.mapUpdate, run_underlying Tryz.underlying164, getObj, setObj, Sem.run, h, checkKey_str, Instr.findKey, run_underlying Tryz.underlying9, hk, ents_append, setBlock]
theorem setBlock_same (W : World) (b : Nat) (o o' : Obj) (h : W.heap[b]? = some o') : (setBlock W b o).heap[b]? = some o := by
  have := S.lt_of h
  simp [setBlock, this]
theorem setBlock_other (W : World) (b k : Nat) (o : Obj) (h : k ≠ b) : (setBlock W b o).heap[k]? = W.heap[k]? := by
  simp only [setBlock, Array.getElem?_setIfInBounds]
  rw [if_neg (by omega)]
theorem setBlock_size (W : World) (b : Nat) (o : Obj) : (setBlock W b o).heap.size = W.heap.size := by simp [setBlock]
theorem below_setBlock {B : Nat} {a w : World} (h : Below B a w) (g : Nat) (hg : B <= g) (o : Obj) : Below B a (setBlock w g o) :=
  ⟨h.os, h.tape, h.output, by rw [setBlock_size]; exact h.size, fun k hk => (setBlock_other w g k o (by omega)).trans (h.block k hk)⟩
theorem MP.put {W : World} {mb : Nat} {L : En} (h : MP W mb L) (x : ByteArray) (v : Int) : MP (setBlock W mb (.map (ents 0 (L ++ [(x, v)])).toArray (L ++ [(x, v)]).length)) mb (L ++ [(x, v)]) := setBlock_same W mb _ _ h
theorem MP.made (W : World) : MP (W.alloc (.map #[] 0)) W.heap.size [] := heap_alloc_new W _
theorem MP.kept {W W' : World} {mb : Nat} {L : En} (h : MP W mb L) (k : W'.heap[mb]? = W.heap[mb]?) : MP W' mb L := k.trans h
theorem MP.lt {W : World} {mb : Nat} {L : En} (h : MP W mb L) : mb < W.heap.size := S.lt_of h
theorem MP.below {W W' : World} {mb : Nat} {L : En} (h : MP W mb L) {B : Nat} (k : Below B W W') (hB : mb < B) : MP W' mb L := h.kept (k.block mb hB)
def numb (ns : List ByteArray) : Nat -> En := fun i => match ns with
  | [] => []
  | s :: r => (s, (i : Int)) :: numb r (i + 1)
theorem lk_numb (x : ByteArray) : ∀ (ns : List ByteArray) (i : Nat), (lk (numb ns i) x).isSome = ns.any fun s => decide (s = x)
  | [], i => rfl
  | s :: r, i => by
    rw [numb, lk, List.any_cons]
    by_cases h : s = x
    · simp [h]
    · rw [if_neg h, lk_numb x r (i + 1)]; simp [h]
theorem numb_append (s : ByteArray) : ∀ (ns : List ByteArray) (i : Nat), numb (ns ++ [s]) i = numb ns i ++ [(s, ((i + ns.length : Nat) : Int))]
  | [], i => rfl
  | x :: r, i => by
    rw [List.cons_append, numb, numb, numb_append s r (i + 1), List.cons_append, List.length_cons, show i + 1 + r.length = i + (r.length + 1) by omega]
end Go.Proofs.YtoemoiehjdmheaaGreat.R
