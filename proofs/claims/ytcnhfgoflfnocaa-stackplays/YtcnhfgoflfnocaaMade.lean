import Derived.Test.YtcnhfgoflfnocaaSameQ
/-! The law's made. -/
namespace Go.Proofs.Ytcnhfgoflfnocaa
open Go.RowKit
open Go.Proofs
set_option linter.unusedVariables false
set_option linter.unusedSimpArgs false
/-- What made holds while it writes its copies over. -/
structure MD (w wr : World) (gc cc gk ck : Nat) (l : List Int) (m : List (Int × Int)) (st : World → Prop) : Prop where
  bel : Below w.heap.size w wr
  c : ∃ L : List Int, L.length = l.length + 2 ∧ RowU wr w.heap.size (.slice (some ⟨gc, 0, none⟩) (l.length + 2) cc) L
  k : ∃ M : List (Int × Int), M.length = m.length + 2 ∧ RowK wr w.heap.size (.slice (some ⟨gk, 0, none⟩) (m.length + 2) ck) M
  s : st wr
/-- What holds of the new stacks stays, whatever is written into lists. -/
def StOk (st : World → Prop) : Prop := ∀ W W' B, KT (fun t => t = 32 ∨ t = 43) B W W' → st W → st W'
theorem MD.setC {w wr : World} {gc cc gk ck : Nat} {l : List Int} {m : List (Int × Int)} {st : World → Prop} (h : MD w wr gc cc gk ck l m st) (hst : StOk st) (i : Nat) (hi : i < l.length) (x : Int) :
    (∃ y, wr.cell? ⟨gc, i, none⟩ = some (.int .u16 y)) ∧ wr.frozen? ⟨gc, i, none⟩ = false ∧ MD w (wr.setCell ⟨gc, i, none⟩ (.int .u16 x)) gc cc gk ck l m st := by
  obtain ⟨L, hL, r⟩ := h.c
  obtain ⟨M, hM, rk⟩ := h.k
  have r' := r
  rw [← hL] at r'
  obtain ⟨cl, hcl⟩ := own_at r'
  have hg := (r'.lt gc rfl).1
  have hcell : ∃ y, wr.cell? ⟨gc, i, none⟩ = some (.int .u16 y) := by
    rcases r'.ls with ⟨e, _⟩ | ⟨x, c, e, _, hs⟩
    · cases e
    · simp only [Value.slice.injEq, true_and] at e
      obtain ⟨b, o, e1, e2⟩ := hs.u i L[i] (List.getElem?_eq_getElem (by omega))
      rw [← e.1] at e1
      simp only [Option.some.injEq, Addr.mk.injEq] at e1
      obtain ⟨rfl, rfl, _⟩ := e1
      rw [Nat.zero_add] at e2
      exact ⟨_, e2⟩
  have ka : KT (fun t => t = 32 ∨ t = 43) w.heap.size wr (wr.setCell ⟨gc, i, none⟩ (.int .u16 x)) := KT.at ((Tc.refl (fun k => k = gc) wr).setCell gc i rfl _) hcl (.inl rfl) hg
  refine ⟨hcell, frozen_of wr gc i _ 32 hcl, h.bel.trans ka.bel, ⟨L.set i x, by rw [List.length_set]; exact hL, ?_⟩, ⟨M, hM, ?_⟩, hst _ _ _ ka h.s⟩
  · have := own_set r' i (by rw [en_len hU]; omega) (.int .u16 x)
    rw [enU_set] at this
    unfold RowU
    rw [List.length_set, ← hL]
    exact this
  · exact own_kept rk fun y e _ => setCell_other _ _ _ _ _ (own_ne rk hcl (by decide) y e)
theorem MD.setK {w wr : World} {gc cc gk ck : Nat} {l : List Int} {m : List (Int × Int)} {st : World → Prop} (h : MD w wr gc cc gk ck l m st) (hst : StOk st) (i : Nat) (hi : i < m.length) (a b : Int) :
    ((∃ y, wr.cell? ⟨gk, i * 2, none⟩ = some (.int .i64 y)) ∧ ∃ y, wr.cell? ⟨gk, i * 2 + 1, none⟩ = some (.int .u16 y)) ∧ (wr.frozen? ⟨gk, i * 2, none⟩ = false ∧ wr.frozen? ⟨gk, i * 2 + 1, none⟩ = false) ∧ MD w ((wr.setCell ⟨gk, i * 2, none⟩ (.int .i64 a)).setCell ⟨gk, i * 2 + 1, none⟩ (.int .u16 b)) gc cc gk ck l m st := by
  obtain ⟨L, hL, r⟩ := h.c
  obtain ⟨M, hM, rk⟩ := h.k
  have r' := rk
  rw [← hM] at r'
  obtain ⟨cl, hcl⟩ := own_at r'
  have hg := (r'.lt gk rfl).1
  obtain ⟨x1, x2⟩ := rowK_get r' i M[i] (List.getElem?_eq_getElem (by omega))
  have hcl2 := setCell_heap wr gk (i * 2) cl 43 (.int .i64 a) hcl
  have ka : KT (fun t => t = 32 ∨ t = 43) w.heap.size wr (wr.setCell ⟨gk, i * 2, none⟩ (.int .i64 a)) := KT.at ((Tc.refl (fun k => k = gk) wr).setCell gk _ rfl _) hcl (.inr rfl) hg
  have kb : KT (fun t => t = 32 ∨ t = 43) w.heap.size wr ((wr.setCell ⟨gk, i * 2, none⟩ (.int .i64 a)).setCell ⟨gk, i * 2 + 1, none⟩ (.int .u16 b)) := ka.trans (KT.at ((Tc.refl (fun k => k = gk) _).setCell gk _ rfl _) hcl2 (.inr rfl) hg)
  refine ⟨⟨⟨_, x1⟩, _, x2⟩, ⟨frozen_of wr gk _ _ 43 hcl, frozen_of wr gk _ _ 43 hcl⟩, h.bel.trans kb.bel, ⟨L, hL, ?_⟩, ⟨M.set i (a, b), by rw [List.length_set]; exact hM, ?_⟩, hst _ _ _ kb h.s⟩
  · exact own_kept r fun y e _ => (setCell_other _ _ _ _ _ (own_ne r hcl (by decide) y e)).trans (setCell_other _ _ _ _ _ (own_ne r hcl (by decide) y e))
  · have := own_set (own_set r' (i * 2) (by rw [en_len hK]; omega) (.int .i64 a)) (i * 2 + 1) (by rw [List.length_set, en_len hK]; omega) (.int .u16 b)
    rw [enK_set2 M i a b (by omega)] at this
    unfold RowK
    rw [List.length_set, ← hM]
    exact this
theorem stacks_v (pd pr : Option Addr) (cd cr : Nat) (d : List Int) (r : List (Int × Int)) (hd : d.length ≤ room) (hr : r.length ≤ room) (w : World) (h1 : Sl eU 1 w pd d) (h2 : Sl eK 2 w pr r) :
    Calls Try.prog 7 #[.slice pd d.length cd, .slice pr r.length cr] w fun e w' => ∃ (vd vr : Value) (ve : Int), e = .returned (.tuple #[vd, vr, .int .i64 ve]) ∧ Below w.heap.size w w' ∧
      ((mayS d r = true ∧ ∃ b1 b2, vd = ptr b1 ∧ vr = ptr b2 ∧ ve = 0 ∧ HasD w' b1 d ∧ HasR w' b2 r ∧ w.heap.size ≤ b1 ∧ w.heap.size ≤ b2) ∨ (mayS d r = false ∧ vd = .pointer none ∧ vr = .pointer none ∧ ve = 2)) := by
  refine (stacks_any pd pr cd cr d r hd hr w h1 h2).mono ?_
  rintro e w' ⟨bel, ⟨c, b1, b2, rfl, g1, g2, l1, l2, _⟩ | ⟨c, rfl⟩⟩
  · exact ⟨_, _, _, rfl, bel, .inl ⟨c, b1, b2, rfl, rfl, rfl, g1, g2, l1, l2⟩⟩
  · exact ⟨_, _, _, rfl, bel, .inr ⟨c, rfl, rfl, rfl⟩⟩
/-- The new stacks, if there are any. -/
def NS2 (n0 : Nat) (l : List Int) (m : List (Int × Int)) (vd vr : Value) (ve : Int) (W : World) : Prop :=
  (mayS l m = true ∧ ∃ b1 b2, vd = ptr b1 ∧ vr = ptr b2 ∧ ve = 0 ∧ HasD W b1 l ∧ HasR W b2 m ∧ n0 ≤ b1 ∧ n0 ≤ b2) ∨ (mayS l m = false ∧ vd = .pointer none ∧ vr = .pointer none ∧ ve = 2)
theorem NS2.ok (n0 : Nat) (l : List Int) (m : List (Int × Int)) (vd vr : Value) (ve : Int) : StOk (NS2 n0 l m vd vr ve) := by
  rintro W W' B k (⟨c, b1, b2, e1, e2, e3, g1, g2, l1, l2⟩ | h)
  · exact .inl ⟨c, b1, b2, e1, e2, e3, ⟨k.typ _ _ _ _ g1.1 (by decide), g1.2⟩, ⟨k.typ _ _ _ _ g2.1 (by decide), g2.2⟩, l1, l2⟩
  · exact .inr h
theorem NS2.below {n0 : Nat} {l : List Int} {m : List (Int × Int)} {vd vr : Value} {ve : Int} {W W' : World} (h : NS2 n0 l m vd vr ve W) (k : Below W.heap.size W W') : NS2 n0 l m vd vr ve W' := by
  rcases h with ⟨c, b1, b2, e1, e2, e3, g1, g2, l1, l2⟩ | h
  · exact .inl ⟨c, b1, b2, e1, e2, e3, g1.below k, g2.below k, l1, l2⟩
  · exact .inr h
end Go.Proofs.Ytcnhfgoflfnocaa
