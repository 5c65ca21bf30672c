import Derived.Test.YtmlpijjjkpnioaaDoorCDecB
/-! Rows of three cells an element, told whole. -/
namespace Go.Proofs.YtmlpijjjkpnioaaDoor.C
open Go.RowKit
open Go.Proofs
open Go.Proofs.YtmlpijjjkpnioaaDoor.K
set_option linter.unusedVariables false
set_option linter.unusedSimpArgs false
abbrev V3 := Value × Value × Value
def t3 : List V3 → List Value
  | [] => []
  | x :: l => x.1 :: x.2.1 :: x.2.2 :: t3 l
theorem t3_len : ∀ l : List V3, (t3 l).length = l.length * 3
  | [] => rfl
  | x :: l => by simp [t3, t3_len l]; omega
theorem t3_get : ∀ (l : List V3) (i : Nat) (x : V3), l[i]? = some x → (t3 l)[i * 3]? = some x.1 ∧ (t3 l)[i * 3 + 1]? = some x.2.1 ∧ (t3 l)[i * 3 + 2]? = some x.2.2
  | y :: l, 0, x, h => by simp at h; subst h; exact ⟨rfl, rfl, rfl⟩
  | y :: l, i + 1, x, h => by
    have := t3_get l i x (by simpa using h)
    simp only [t3]
    rw [show (i + 1) * 3 = i * 3 + 1 + 1 + 1 by omega]
    exact this
theorem t3_set : ∀ (l : List V3) (i : Nat) (x : V3), i < l.length → (((t3 l).set (i * 3) x.1).set (i * 3 + 1) x.2.1).set (i * 3 + 2) x.2.2 = t3 (l.set i x)
  | y :: l, 0, x, _ => by simp [t3]
  | y :: l, i + 1, x, h => by
    have := t3_set l i x (by simpa using h)
    simp only [t3, List.set_cons_succ]
    rw [show (i + 1) * 3 = i * 3 + 1 + 1 + 1 by omega]
    simp only [List.set_cons_succ]
    rw [this]
theorem made_t3 (a b c : Value) (n : Nat) : madeCells #[a, b, c] (n * 3) = (t3 (List.replicate n (a, b, c))).toArray := by
  apply Array.ext'
  apply List.ext_getElem?
  intro j
  have hz : #[a, b, c].size = 3 := rfl
  simp only [madeCells, hz]
  by_cases hj : j < n * 3
  · have hq : (List.replicate n (a, b, c))[j / 3]? = some (a, b, c) := by
      rw [List.getElem?_replicate, if_pos (by omega)]
    obtain ⟨g1, g2, g3⟩ := t3_get _ _ _ hq
    have hm : j % 3 = 0 ∨ j % 3 = 1 ∨ j % 3 = 2 := by omega
    have hl : (Array.map (fun x => #[a, b, c][x % 3]!) (Array.range (n * 3))).toList[j]? = some (#[a, b, c][j % 3]!) := by
      simp [hj]
    rw [hl]
    rcases hm with h | h | h
    · rw [h, show j = j / 3 * 3 by omega]; exact g1.symm
    · rw [h, show j = j / 3 * 3 + 1 by omega]; exact g2.symm
    · rw [h, show j = j / 3 * 3 + 2 by omega]; exact g3.symm
  · rw [List.getElem?_eq_none (by simp; omega), List.getElem?_eq_none (by rw [t3_len]; simp; omega)]
/-- Block g is just this row. -/
def R3 (W : World) (g : Nat) (t : TypeId) (l : List V3) : Prop := W.heap[g]? = some (.cells (t3 l).toArray t (0, 0))
theorem R3.cell {W : World} {g : Nat} {t : TypeId} {l : List V3} (h : R3 W g t l) (i : Nat) (x : V3) (hx : l[i]? = some x) : W.cell? ⟨g, i * 3, none⟩ = some x.1 ∧ W.cell? ⟨g, i * 3 + 1, none⟩ = some x.2.1 ∧ W.cell? ⟨g, i * 3 + 2, none⟩ = some x.2.2 := by
  obtain ⟨g1, g2, g3⟩ := t3_get l i x hx
  exact ⟨cell_of _ _ _ _ _ _ h g1, cell_of _ _ _ _ _ _ h g2, cell_of _ _ _ _ _ _ h g3⟩
theorem R3.fz {W : World} {g : Nat} {t : TypeId} {l : List V3} (h : R3 W g t l) (j : Nat) : W.frozen? ⟨g, j, none⟩ = false := frozen_of _ _ _ _ _ h
theorem setCell_heap (W : World) (b i : Nat) (c : List Value) (t : TypeId) (v : Value) (h : W.heap[b]? = some (.cells c.toArray t (0, 0))) : (W.setCell ⟨b, i, none⟩ v).heap[b]? = some (.cells (c.set i v).toArray t (0, 0)) := by
  simp [World.setCell, Array.getElem?_modify, h]
theorem setCell_size (W : World) (a : Addr) (v : Value) : (W.setCell a v).heap.size = W.heap.size := by simp [World.setCell]
/-- The world behind the store of an element. -/
def st3 (W : World) (g i : Nat) (x : V3) : World := ((W.setCell ⟨g, i * 3, none⟩ x.1).setCell ⟨g, i * 3 + 1, none⟩ x.2.1).setCell ⟨g, i * 3 + 2, none⟩ x.2.2
theorem R3.store {W : World} {g : Nat} {t : TypeId} {l : List V3} (h : R3 W g t l) (i : Nat) (hi : i < l.length) (x : V3) : R3 (st3 W g i x) g t (l.set i x) := by
  unfold R3 st3
  rw [← t3_set l i x hi]
  exact setCell_heap _ _ _ _ _ _ (setCell_heap _ _ _ _ _ _ (setCell_heap _ _ _ _ _ _ h))
theorem st3_other (W : World) (g i : Nat) (x : V3) (k : Nat) (h : k ≠ g) : (st3 W g i x).heap[k]? = W.heap[k]? := by
  unfold st3
  rw [setCell_other _ _ _ _ _ h, setCell_other _ _ _ _ _ h, setCell_other _ _ _ _ _ h]
theorem st3_size (W : World) (g i : Nat) (x : V3) : (st3 W g i x).heap.size = W.heap.size := by unfold st3; rw [setCell_size, setCell_size, setCell_size]
theorem st3_below {B : Nat} {W0 W : World} (g i : Nat) (x : V3) (h : Below B W0 W) (hg : B ≤ g) : Below B W0 (st3 W g i x) :=
  ⟨h.os, h.tape, h.output, by rw [st3_size]; exact h.size, fun k hk => (st3_other W g i x k (by omega)).trans (h.block k hk)⟩
def encE (x : Ef) : V3 := (.int .u16 (x.1 : Int), .int .i64 x.2.1, .int .i64 x.2.2)
theorem R3.efs {W : World} {g : Nat} {t : TypeId} {es : List Ef} (h : R3 W g t (es.map encE)) : EfS W (some ⟨g, 0, none⟩) es := by
  intro i x hx
  obtain ⟨c1, c2, c3⟩ := h.cell i (encE x) (by rw [List.getElem?_map, hx]; rfl)
  exact ⟨g, 0, rfl, by simpa [encE] using c1, by simpa [encE] using c2, by simpa [encE] using c3⟩
theorem info80 : (Tryd.prog.info? 80).map (fun i => (i.zero, i.size, i.bytes)) = some (some (.agg #[.int .u16 0, .int .i64 0, .int .i64 0]), 3, 24) := by kernel_rfl
theorem make_effs (n : Nat) (hn : n ≤ 1000000) (w : World) : (Instr.makeSlice 24 (.int .i64 (n : Int)) (.int .i64 (n : Int))).run Tryd.prog w = .ok (.slice (some ⟨w.heap.size, 0, none⟩) n n) (w.alloc (.cells (t3 ((List.replicate n ((0, 0, 0) : Ef)).map encE)).toArray 80)) := by
  obtain ⟨i0, hi, hz0, hz1, hz2⟩ := info_parts info80
  have := run_make (P := Tryd.prog) w 24 80 i0 _ Tryd.underlying24 hi hz0 .i64 .i64 n n (by omega) (by omega) (by rw [hz2]; omega) (by omega)
  have hc : (Value.agg #[.int .u16 0, .int .i64 0, .int .i64 0]).cells = #[.int .u16 0, .int .i64 0, .int .i64 0] := by kernel_rfl
  rw [this, hz1, hc, Int.toNat_natCast, made_t3, List.map_replicate]
  rfl
theorem make_secs (n : Nat) (hn : n ≤ 1000000) (w : World) : (Instr.makeSlice 75 (.int .i64 (n : Int)) (.int .i64 (n : Int))).run Tryd.prog w = .ok (.slice (some ⟨w.heap.size, 0, none⟩) n n) (w.alloc (.cells (t3 (List.replicate n (Value.int .u8 0, Value.int .u8 0, Value.slice none 0 0))).toArray 96)) := by
  obtain ⟨i0, hi, hz0, hz1, hz2⟩ := info_parts info96
  have := run_make (P := Tryd.prog) w 75 96 i0 _ Tryd.underlying75 hi hz0 .i64 .i64 n n (by omega) (by omega) (by rw [hz2]; omega) (by omega)
  have hc : (Value.agg #[.int .u8 0, .int .u8 0, .slice none 0 0]).cells = #[.int .u8 0, .int .u8 0, .slice none 0 0] := by kernel_rfl
  rw [this, hz1, hc, Int.toNat_natCast, made_t3]
end Go.Proofs.YtmlpijjjkpnioaaDoor.C
