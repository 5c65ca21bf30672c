import Derived.Test.YtmlpijjjkpnioaaDoorCOwn
/-! The state of readSections between two sections. -/
namespace Go.Proofs.YtmlpijjjkpnioaaDoor.C
open Go.RowKit
open Go.Proofs
open Go.Proofs.YtmlpijjjkpnioaaDoor.K
set_option linter.unusedVariables false
set_option linter.unusedSimpArgs false
structure Rs (w W : World) (c : Ct) (kv ev bv : Value) (prs : List (Bk × Value)) : Prop where
  own : OwC W w.heap.size (.agg #[kv, .int .u16 (c.entry : Int), ev, bv]) c kv ev bv prs
  b0 : W.heap[w.heap.size]? = some (.cells [kv, .int .u16 (c.entry : Int), ev, bv].toArray 27 (0, 0))
  b1 : W.heap[w.heap.size + 1]? = some (.cells [.int .i64 0].toArray 28 (0, 0))
  bel : Below w.heap.size w W
theorem Rs.below {w W W' : World} {c : Ct} {kv ev bv : Value} {prs : List (Bk × Value)} (h : Rs w W c kv ev bv prs) (b : Below W.heap.size W W') : Rs w W' c kv ev bv prs :=
  ⟨h.own.below b, (b.block _ (lt_of h.b0)).trans h.b0, (b.block _ (lt_of h.b1)).trans h.b1, h.bel.trans (b.mono h.bel.size)⟩
/-- A row of one type is not in a block of another. -/
theorem ne_type {W : World} {B : Nat} {t : TypeId} {size : Nat} {v : Value} {n : Nat} {xs : List Value} (h : W.ownsRow B t size v n xs) {k : Nat} {cur : Array Value} {t' : TypeId} {fr : Nat × Nat} (hk : W.heap[k]? = some (.cells cur t' fr)) (ht : t' ≠ t) : some k ≠ v.ownBlock := by
  intro e
  obtain ⟨c2, e2⟩ := own_block h k e.symm
  rw [hk] at e2
  simp only [Option.some.injEq, Obj.cells.injEq] at e2
  exact ht e2.2.1
theorem own_grew {W W' : World} {B B' : Nat} {t t' : TypeId} {size size' : Nat} {v u u' : Value} {n n' : Nat} {xs xs' : List Value} (h : W.ownsRow B t size v n xs) (hu : W.ownsRow B' t' size' u n' xs') (ht : t ≠ t') (g : Grew W W' u u') : W'.ownsRow B t size v n xs :=
  own_kept h fun k e hk => by
    obtain ⟨cur, e1⟩ := own_block h k e
    exact g.block k hk (ne_type hu e1 ht)
theorem own_set {W : World} {B : Nat} {t : TypeId} {size : Nat} {v : Value} {n : Nat} {xs : List Value} (h : W.ownsRow B t size v n xs) {k j : Nat} {cur : Array Value} {t' : TypeId} {fr : Nat × Nat} (hk : W.heap[k]? = some (.cells cur t' fr)) (ht : t' ≠ t) (x : Value) : (W.setCell ⟨k, j, none⟩ x).ownsRow B t size v n xs :=
  own_kept h fun g e hg => setCell_other W k j g x (by rintro rfl; exact ne_type h hk ht e.symm)
theorem set_below {B k : Nat} {W0 W : World} (h : Below B W0 W) (hk : B ≤ k) (j : Nat) (x : Value) : Below B W0 (W.setCell ⟨k, j, none⟩ x) :=
  ⟨h.os, h.tape, h.output, by rw [setCell_size]; exact h.size, fun i hi => (setCell_other W k j i x (by omega)).trans (h.block i hi)⟩
theorem set_same (W : World) (b i : Nat) (c : List Value) (t : TypeId) (v : Value) (h : W.heap[b]? = some (.cells c.toArray t (0, 0))) (hi : c[i]? = some v) : W.setCell ⟨b, i, none⟩ v = W := by
  have hh : (W.setCell ⟨b, i, none⟩ v).heap = W.heap := by
    apply Array.ext_getElem?
    intro k
    by_cases hk : k = b
    · subst hk
      rw [setCell_heap _ _ _ _ _ _ h, h]
      have : c.set i v = c := by
        apply List.ext_getElem?
        intro j
        by_cases hj : i = j
        · subst hj; rw [List.getElem?_set_self (List.getElem?_eq_some_iff.1 hi).1, hi]
        · rw [List.getElem?_set_ne hj]
      rw [this]
    · exact setCell_other _ _ _ _ _ hk
  have he : W.setCell ⟨b, i, none⟩ v = { W with heap := (W.setCell ⟨b, i, none⟩ v).heap } := rfl
  rw [he, hh]
/-- One bank more. -/
theorem Rs.snoc {w wr W3 W4 : World} {c : Ct} {kv ev bv bv' : Value} {prs : List (Bk × Value)} (h : Rs w wr c kv ev bv prs) (hb : Below wr.heap.size wr W3) (x : Bk × Value) (hx : Row W3 wr.heap.size x.2 x.1.2) (hg : Grew W3 W4 bv bv')
    (hr : W4.ownsRow w.heap.size 82 2 bv' (prs.length + 1) (bcs prs ++ bcs [x])) :
    W4.cell? ⟨w.heap.size, 3, none⟩ = some bv ∧ W4.frozen? ⟨w.heap.size, 3, none⟩ = false ∧ Rs w (W4.setCell ⟨w.heap.size, 3, none⟩ bv') { c with banks := c.banks ++ [x.1] } kv ev bv' (prs ++ [x]) := by
  have h3 := h.below hb
  have e0 : W4.heap[w.heap.size]? = some (.cells [kv, .int .u16 (c.entry : Int), ev, bv].toArray 27 (0, 0)) := (hg.block _ (lt_of h3.b0) (ne_type h3.own.banks h3.b0 (by decide))).trans h3.b0
  have e1 : W4.heap[w.heap.size + 1]? = some (.cells [.int .i64 0].toArray 28 (0, 0)) := (hg.block _ (lt_of h3.b1) (ne_type h3.own.banks h3.b1 (by decide))).trans h3.b1
  have hB4 : Below w.heap.size w W4 := hg.belowAll (fun g e => (h3.own.banks.lt g e).1) h3.bel (Nat.le_refl _)
  have rw5 : ∀ {B : Nat} {v : Value} {l : List UInt8}, Row W3 B v l → Row (W4.setCell ⟨w.heap.size, 3, none⟩ bv') B v l := fun r =>
    own_set (own_grew (show W3.ownsRow _ 5 1 _ _ _ from r) h3.own.banks (by decide) hg) e0 (by decide) bv'
  refine ⟨cell_of _ _ 3 _ _ _ e0 rfl, frozen_of _ _ _ _ _ e0, ⟨⟨rfl, rw5 h3.own.code, own_set (own_grew h3.own.effs h3.own.banks (by decide) hg) e0 (by decide) bv', ?_, ?_, ?_, ?_⟩, ?_, ?_, set_below hB4 (Nat.le_refl _) _ _⟩⟩
  · rw [List.length_append, bcs_append]; exact own_set hr e0 (by decide) bv'
  · rw [List.map_append, h.own.map]; rfl
  · intro y hy
    rw [List.mem_append, List.mem_singleton] at hy
    rcases hy with hy | rfl
    · exact rw5 (h3.own.dat y hy)
    · exact (rw5 hx).mono h.bel.size
  · rw [List.map_append, ← List.cons_append, List.pairwise_append]
    refine ⟨h.own.nd, by simp, ?_⟩
    intro a ha b hb' z hz
    simp only [List.map_cons, List.map_nil, List.mem_singleton] at hb'
    subst hb'
    have hlt : z < wr.heap.size := by
      simp only [List.mem_cons, List.mem_map] at ha
      rcases ha with rfl | ⟨y, hy, rfl⟩
      · exact (h.own.code.lt z hz).2
      · exact ((h.own.dat y hy).lt z hz).2
    intro e2
    have := (hx.lt z e2).1
    omega
  · exact setCell_heap _ _ _ _ _ _ e0
  · rw [setCell_other _ _ _ _ _ (by omega)]; exact e1
end Go.Proofs.YtmlpijjjkpnioaaDoor.C
