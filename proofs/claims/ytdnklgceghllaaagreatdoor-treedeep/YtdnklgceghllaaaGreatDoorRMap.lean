import Derived.Test.YtdnklgceghllaaaGreatDoorRMath
import Derived.Test.YtdnklgceghllaaaGreatDoorSKit
import Derived.Laws.Strings
import Derived.ChangeMaps
import Derived.MapKept
namespace Go.Proofs.YtdnklgceghllaaaGreatDoor.R
open Go.RowKit
open Go.Proofs
open Go.ChangeMaps (setBlock)
set_option linter.unusedVariables false
set_option linter.unusedSimpArgs false
abbrev En := List (ByteArray × Int)
def ents : Nat -> En -> List MapEntry
  | _, [] => []
  | i, (s, v) :: r => { key := .string s, val := .int .i64 v, born := i } :: ents (i + 1) r
def MP (W : World) (mb : Nat) (L : En) : Prop := W.heap[mb]? = some (.map (ents 0 L).toArray L.length)
def lk : En -> ByteArray -> Option Int
  | [], _ => none
  | (s, v) :: r, x => if s = x then some v else lk r x
theorem find_any (x : ByteArray) : ∀ (L : En) (i j : Nat), ∃ k, Instr.findNow .string (.string x) (ents i L) j = some ((lk L x).map fun v => (k, .int .i64 v))
  | [], _, _ => ⟨0, rfl⟩
  | (s, v) :: L, i, j => by
    by_cases h : s = x
    · subst h
      have e : Instr.sameNow .string (.string s) (.string s) = some true := by simp [Instr.sameNow, Go.MapKept.bytes_beq]
      refine ⟨j, ?_⟩
      simp only [ents, Instr.findNow, e, lk, if_pos]
      rfl
    · have e : Instr.sameNow .string (.string x) (.string s) = some false := by
        simp only [Instr.sameNow, Option.some.injEq]
        rw [Bool.eq_false_iff]
        intro c
        exact h ((Go.MapKept.bytes_beq _ _).1 c).symm
      obtain ⟨k, hk⟩ := find_any x L (i + 1) (j + 1)
      refine ⟨k, ?_⟩
      simp only [ents, Instr.findNow, e, lk, if_neg h]
      exact hk
theorem checkKey_str (W : World) (e : Bool) (z : ByteArray) : (Instr.checkKey e 10000 9 (.string z)).run Tryz.prog W = .ok () W := by
  have h : ∀ d : Nat, (Instr.checkKey e (d + 1) 9 (.string z)).run Tryz.prog W = .ok () W := fun d => by simp [Instr.checkKey, run_underlying Tryz.underlying9]
  exact h 9999
theorem look_no (W : World) (mb : Nat) (x : ByteArray) (L : En) (h : MP W mb L) (hn : lk L x = none) :
    (Instr.lookup 94 (.map (some mb)) (.string x) true).run Tryz.prog W = .ok (.tuple #[.int .i64 0, .bool false]) W := by
  obtain ⟨k, hk⟩ := find_any x L 0 0
  rw [hn] at hk
  unfold MP at h
  simp [Instr.lookup, run_underlying Tryz.underlying94, getObj, Sem.run, h, checkKey_str, Instr.findKey, run_underlying Tryz.underlying9, hk, Tryz.zeroValue3]
theorem look_yes (W : World) (mb : Nat) (x : ByteArray) (v : Int) (L : En) (h : MP W mb L) (hn : lk L x = some v) :
    (Instr.lookup 94 (.map (some mb)) (.string x) true).run Tryz.prog W = .ok (.tuple #[.int .i64 v, .bool true]) W := by
  obtain ⟨k, hk⟩ := find_any x L 0 0
  rw [hn] at hk
  unfold MP at h
  simp [Instr.lookup, run_underlying Tryz.underlying94, getObj, Sem.run, h, checkKey_str, Instr.findKey, run_underlying Tryz.underlying9, hk]
theorem ents_append : ∀ (L : En) (i : Nat) (s : ByteArray) (v : Int), ents i (L ++ [(s, v)]) = ents i L ++ [{ key := .string s, val := .int .i64 v, born := i + L.length }]
  | [], i, s, v => rfl
  | (x, y) :: L, i, s, v => by
    simp only [ents, List.cons_append, ents_append L (i + 1) s v, List.length_cons]
    rw [show i + 1 + L.length = i + (L.length + 1) by omega]
theorem run_put (W : World) (mb : Nat) (x : ByteArray) (v : Int) (L : En) (h : MP W mb L) (hn : lk L x = none) :
    (Instr.mapUpdate 94 (.map (some mb)) (.string x) (.int .i64 v)).run Tryz.prog W = .ok () (setBlock W mb (.map (ents 0 (L ++ [(x, v)])).toArray (L ++ [(x, v)]).length)) := by
  obtain ⟨k, hk⟩ := find_any x L 0 0
  rw [hn] at hk
  unfold MP at h
  simp [Instr.mapUpdate, run_underlying Tryz.underlying94, getObj, setObj, Sem.run, h, checkKey_str, Instr.findKey, run_underlying Tryz.underlying9, hk, ents_append, setBlock]
theorem setBlock_same (W : World) (b : Nat) (o o' : Obj) (h : W.heap[b]? = some o') : (setBlock W b o).heap[b]? = some o := by
  have := S.lt_of h
  simp [setBlock, this]
theorem setBlock_other (W : World) (b k : Nat) (o : Obj) (h : k ≠ b) : (setBlock W b o).heap[k]? = W.heap[k]? := by
  simp only [setBlock, Array.getElem?_setIfInBounds]
  rw [if_neg (by omega)]
theorem setBlock_size (W : World) (b : Nat) (o : Obj) : (setBlock W b o).heap.size = W.heap.size := by simp [setBlock]
theorem below_setBlock {B : Nat} {a w : World} (h : Below B a w) (g : Nat) (hg : B <= g) (o : Obj) : Below B a (setBlock w g o) :=
  ⟨h.os, h.tape, h.output, by rw [setBlock_size]; exact h.size, fun k hk => (setBlock_other w g k o (by omega)).trans (h.block k hk)⟩
theorem MP.put {W : World} {mb : Nat} {L : En} (h : MP W mb L) (x : ByteArray) (v : Int) : MP (setBlock W mb (.map (ents 0 (L ++ [(x, v)])).toArray (L ++ [(x, v)]).length)) mb (L ++ [(x, v)]) := setBlock_same W mb _ _ h
theorem MP.made (W : World) : MP (W.alloc (.map #[] 0)) W.heap.size [] := heap_alloc_new W _
theorem MP.kept {W W' : World} {mb : Nat} {L : En} (h : MP W mb L) (k : W'.heap[mb]? = W.heap[mb]?) : MP W' mb L := k.trans h
theorem MP.lt {W : World} {mb : Nat} {L : En} (h : MP W mb L) : mb < W.heap.size := S.lt_of h
theorem MP.below {W W' : World} {mb : Nat} {L : En} (h : MP W mb L) {B : Nat} (k : Below B W W') (hB : mb < B) : MP W' mb L := h.kept (k.block mb hB)
def numb (ns : List ByteArray) : Nat -> En := fun i => match ns with
  | [] => []
  | s :: r => (s, (i : Int)) :: numb r (i + 1)
theorem lk_numb (x : ByteArray) : ∀ (ns : List ByteArray) (i : Nat), (lk (numb ns i) x).isSome = ns.any fun s => decide (s = x)
  | [], i => rfl
  | s :: r, i => by
    rw [numb, lk, List.any_cons]
    by_cases h : s = x
    · simp [h]
    · rw [if_neg h, lk_numb x r (i + 1)]; simp [h]
theorem numb_append (s : ByteArray) : ∀ (ns : List ByteArray) (i : Nat), numb (ns ++ [s]) i = numb ns i ++ [(s, ((i + ns.length : Nat) : Int))]
  | [], i => rfl
  | x :: r, i => by
    rw [List.cons_append, numb, numb, numb_append s r (i + 1), List.cons_append, List.length_cons, show i + 1 + r.length = i + (r.length + 1) by omega]
end Go.Proofs.YtdnklgceghllaaaGreatDoor.R
namespace Go.Proofs.YtdnklgceghllaaaGreatDoor.D
open Go.RowKit
open Go.Proofs
open Go.Proofs.YtdnklgceghllaaaGreatDoor.R (MP En ents lk run_put ents_append checkKey_str)
open Go.ChangeMaps (setBlock)
set_option linter.unusedVariables false
set_option linter.unusedSimpArgs false
set_option maxRecDepth 100000
def upd : En -> ByteArray -> Int -> En
 | [], s, v => [(s, v)]
 | (x, y) :: r, s, v => if x = s then (x, v) :: r else (x, y) :: upd r s v
theorem upd_none : ∀ (L : En) (s : ByteArray) (v : Int), lk L s = none -> upd L s v = L ++ [(s, v)]
 | [], s, v, _ => rfl
 | (x, y) :: r, s, v, h => by
  rw [lk] at h
  split at h
  ·cases h
  ·rename_i hn
   rw [upd, if_neg hn, upd_none r s v h, List.cons_append]
theorem upd_len : ∀ (L : En) (s : ByteArray) (v x : Int), lk L s = some x -> (upd L s v).length = L.length
 | [], s, v, x, h => by cases h
 | (a, y) :: r, s, v, x, h => by
  rw [lk] at h
  split at h
  ·rename_i hn; rw [upd, if_pos hn]; rfl
  ·rename_i hn
   rw [upd, if_neg hn, List.length_cons, upd_len r s v x h, List.length_cons]
theorem find_at (s : ByteArray) (v : Int) : ∀ (L : En) (i j : Nat) (x : Int), lk L s = some x -> ∃ k, k < L.length /\ Instr.findNow .string (.string s) (ents i L) j = some (some (j + k, .int .i64 x)) /\ (ents i L)[k]? = some { key := .string s, val := .int .i64 x, born := i + k } /\ (ents i L).set k { key := .string s, val := .int .i64 v, born := i + k } = ents i (upd L s v)
 | [], _, _, x, h => by cases h
 | (a, y) :: L, i, j, x, h => by
  rw [lk] at h
  split at h
  ·rename_i hn
   subst hn
   obtain rfl := Option.some.inj h
   have e : Instr.sameNow .string (.string a) (.string a) = some true := by simp [Instr.sameNow, Go.MapKept.bytes_beq]
   refine ⟨0, by simp, ?_, ?_, ?_⟩
   ·simp only [ents, Instr.findNow, e]; rfl
   ·rfl
   ·rw [upd, if_pos rfl]; rfl
  ·rename_i hn
   have e : Instr.sameNow .string (.string s) (.string a) = some false := by
    simp only [Instr.sameNow, Option.some.injEq]
    rw [Bool.eq_false_iff]
    intro c
    exact hn ((Go.MapKept.bytes_beq _ _).1 c).symm
   obtain ⟨k, hk, h1, h2, h3⟩ := find_at s v L (i + 1) (j + 1) x h
   refine ⟨k + 1, by simp; omega, ?_, ?_, ?_⟩
   ·simp only [ents, Instr.findNow, e]
    rw [h1, show j + 1 + k = j + (k + 1) by omega]
   ·rw [ents, List.getElem?_cons_succ, h2, show i + 1 + k = i + (k + 1) by omega]
   ·rw [upd, if_neg hn, ents, List.set_cons_succ, ents, <- h3, show i + 1 + k = i + (k + 1) by omega]
theorem modify_set (l : List MapEntry) (k : Nat) (e : MapEntry) (f : MapEntry -> MapEntry) (h : l[k]? = some e) : l.modify k f = l.set k (f e) := by
 rw [List.modify_eq_set]
 rw [h]
 rfl
theorem run_upd (W : World) (mb : Nat) (s : ByteArray) (v : Int) (L : En) (h : MP W mb L) :
  (Instr.mapUpdate 94 (.map (some mb)) (.string s) (.int .i64 v)).run Tryz.prog W = .ok () (setBlock W mb (.map (ents 0 (upd L s v)).toArray (upd L s v).length)) := by
 cases hl : lk L s with
 | none => rw [upd_none L s v hl]; exact run_put W mb s v L h hl
 | some x =>
  obtain ⟨k, hk, h1, h2, h3⟩ := find_at s v L 0 0 x hl
  have hm := modify_set (ents 0 L) k _ (fun e => { e with key := .string s, val := .int .i64 v }) h2
  rw [h3] at hm
  have hsb : Instr.sameBits 10000 (.string s) (.string s) = true := by simp [Instr.sameBits, Go.MapKept.bytes_beq]
  have hget : ((ents 0 L).toArray)[k]? = some { key := .string s, val := .int .i64 x, born := 0 + k } := by rw [List.getElem?_toArray]; exact h2
  rw [upd_len L s v x hl]
  rw [Nat.zero_add] at h1
  unfold MP at h
  simp [Instr.mapUpdate, run_underlying Tryz.underlying94, getObj, setObj, Sem.run, h, checkKey_str, Instr.findKey, run_underlying Tryz.underlying9, h1, Instr.keyThatStays, h2, hsb, setBlock]
  rw [hm]
theorem MP.upd {W : World} {mb : Nat} {L : En} (h : MP W mb L) (x : ByteArray) (v : Int) : MP (setBlock W mb (.map (ents 0 (D.upd L x v)).toArray (D.upd L x v).length)) mb (D.upd L x v) := R.setBlock_same W mb _ _ h
end Go.Proofs.YtdnklgceghllaaaGreatDoor.D
