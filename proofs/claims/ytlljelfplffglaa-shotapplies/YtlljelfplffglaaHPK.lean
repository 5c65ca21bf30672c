import Derived.Test.YtlljelfplffglaaHRAp
import Derived.Test.YtlljelfplffglaaHChg
import Derived.Test.YtlljelfplffglaaHLawD
/-! What ShotApplies wants: changes with another New, rows of changes written at one cell, two blocks written. -/
namespace Go.Proofs.Ytlljelfplffglaa.H
open Go.RowKit
open Go.Proofs
open Go.Proofs.Ytlljelfplffglaa.K
set_option linter.unusedVariables false
set_option linter.unusedSimpArgs false
set_option maxRecDepth 100000
def bump (c : Ch) : Ch := ⟨c.x, c.y, c.o, c.n + 1⟩
theorem bump_n (c : Ch) : IntKind.u8.wrap ((c.n.toNat : Int) + 1) = ((bump c).n.toNat : Int) := by
  have h := c.n.toNat_lt
  show _ = (((c.n + 1 : UInt8)).toNat : Int)
  rw [UInt8.toNat_add]
  simp [IntKind.wrap, IntKind.bits, IntKind.signed]
def bm (k : Nat) (cs : List Ch) : List Ch := (cs.take k).map bump ++ cs.drop k
theorem bm_zero (cs : List Ch) : bm 0 cs = cs := by simp [bm]
theorem bm_all (cs : List Ch) : bm cs.length cs = cs.map bump := by simp [bm]
theorem bm_len (k : Nat) (cs : List Ch) (h : k ≤ cs.length) : (bm k cs).length = cs.length := by simp [bm]; omega
theorem bm_get (k : Nat) (cs : List Ch) (h : k < cs.length) : (bm k cs)[k]? = some cs[k] := by
  have e : ((cs.take k).map bump).length = k := by simp; omega
  rw [bm, List.getElem?_append_right (by omega), e, Nat.sub_self, List.getElem?_drop, Nat.add_zero, List.getElem?_eq_getElem h]
theorem bm_set (k : Nat) (cs : List Ch) (h : k < cs.length) : (bm k cs).set k (bump cs[k]) = bm (k + 1) cs := by
  have e : ((cs.take k).map bump).length = k := by simp; omega
  rw [bm, List.set_append_right _ _ (by omega), e, Nat.sub_self, List.drop_eq_getElem_cons h, List.set_cons_zero, bm, ← List.take_append_getElem h, List.map_append, List.append_assoc]
  rfl
theorem en_set3 : ∀ (l : List Ch) (k : Nat) (c : Ch) (n : UInt8), l[k]? = some c → (S.en eC l).set (k * 4 + 3) (.int .u8 (n.toNat : Int)) = S.en eC (l.set k ⟨c.x, c.y, c.o, n⟩)
  | [], k, c, n, h => by simp at h
  | d :: l, 0, c, n, h => by
    simp only [List.getElem?_cons_zero, Option.some.injEq] at h
    subst h
    rw [List.set_cons_zero, S.en_cons, S.en_cons]
    rfl
  | d :: l, k + 1, c, n, h => by
    simp only [List.getElem?_cons_succ] at h
    rw [List.set_cons_succ, S.en_cons, S.en_cons, ← en_set3 l k c n h, List.set_append_right _ _ (by rw [hC]; omega), hC]
    rw [show (k + 1) * 4 + 3 - 4 = k * 4 + 3 by omega]
/-- A row without its last element. -/
theorem ls_chop {W : World} {B g cap : Nat} {T : TypeId} {l : List Ch} {x : Ch} (h : W.ownsRow B T 4 (.slice (some ⟨g, 0, none⟩) (l.length + 1) cap) (l.length + 1) (S.en eC (l ++ [x]))) : S.Ls eC 4 W (.slice (some ⟨g, 0, none⟩) l.length cap) l := by
  have e : (l ++ [x]).length = l.length + 1 := by simp
  rw [← e] at h
  have hs := S.own_sl hC h
  rcases hs with ⟨h1, _⟩ | ⟨y, c, h1, h2, h3⟩
  · cases h1
  · simp only [Value.slice.injEq, Option.some.injEq] at h1
    obtain ⟨rfl, _, rfl⟩ := h1
    refine .inr ⟨_, _, rfl, by omega, fun k c hk => ?_⟩
    have hlt : k < l.length := by
      by_cases h : k < l.length
      · exact h
      · rw [List.getElem?_eq_none (by omega)] at hk; cases hk
    exact h3 k c (by rw [List.getElem?_append_left hlt]; exact hk)
/-- All but two blocks is as it was. -/
structure B2 (g h : Nat) (A B : World) : Prop where
  os : B.os = A.os
  tape : B.tape = A.tape
  output : B.output = A.output
  size : A.heap.size ≤ B.heap.size
  block : ∀ k, k < A.heap.size → k ≠ g → k ≠ h → B.heap[k]? = A.heap[k]?
theorem B2.refl (g h : Nat) (A : World) : B2 g h A A := ⟨rfl, rfl, rfl, Nat.le_refl _, fun _ _ _ _ => rfl⟩
theorem B2.drew {g h : Nat} {A B : World} (k : B2 g h A B) : B2 g h A B.drew := ⟨k.os, k.tape, k.output, k.size, k.block⟩
theorem B2.set1 {g h : Nat} {A B : World} (k : B2 g h A B) (j : Nat) (v : Value) : B2 g h A (B.setCell ⟨g, j, none⟩ v) :=
  ⟨k.os, k.tape, k.output, by simpa using k.size, fun i hi hn hm => (heap_setCell_other B ⟨g, j, none⟩ i v hn).trans (k.block i hi hn hm)⟩
theorem B2.set2 {g h : Nat} {A B : World} (k : B2 g h A B) (j : Nat) (v : Value) : B2 g h A (B.setCell ⟨h, j, none⟩ v) :=
  ⟨k.os, k.tape, k.output, by simpa using k.size, fun i hi hn hm => (heap_setCell_other B ⟨h, j, none⟩ i v hm).trans (k.block i hi hn hm)⟩
theorem B2.own {g h : Nat} {A B : World} (k : B2 g h A B) {N : Nat} {e : TypeId} {size : Nat} {v : Value} {n : Nat} {xs : List Value} (hr : A.ownsRow N e size v n xs) (hg : ∀ i, v.ownBlock = some i → i ≠ g ∧ i ≠ h) : B.ownsRow N e size v n xs :=
  S.own_kept hr fun i ei hi => k.block i hi (hg i ei).1 (hg i ei).2
theorem B2.below {g h : Nat} {A B W : World} (k : B2 g h A B) {N : Nat} (hb : Below N W A) (hN : N ≤ W.heap.size) (hg : N ≤ g) (hh : N ≤ h) : Below N W B :=
  ⟨k.os.trans hb.os, k.tape.trans hb.tape, k.output.trans hb.output, Nat.le_trans hb.size k.size, fun i hi => (k.block i (by have := hb.size; omega) (by omega) (by omega)).trans (hb.block i hi)⟩
end Go.Proofs.Ytlljelfplffglaa.H
