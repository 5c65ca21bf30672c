import Derived.Test.YtlljelfplffglabDoorHDf
import Derived.Deep.Slices
/-! The statement's own test that lists share no room. -/
namespace Go.Proofs.YtlljelfplffglabDoor.HC
open Go.RowKit
open Go.Proofs
open Go.Proofs.YtlljelfplffglabDoor
open Go.Proofs.YtlljelfplffglabDoor.H (eC hC infoS hid zC)
open Go.Proofs.YtlljelfplffglabDoor.S (Grew Cs own_pos)
set_option linter.unusedVariables false
set_option linter.unusedSimpArgs false
theorem infoB : (Tryd.prog.info? 27).map (fun i => (i.zero, i.size, i.bytes)) = some (some (.slice none 0 0), 1, 24) := by kernel_rfl
def Row (W : World) (B : Nat) (v : Value) (l : List H.Ch) : Prop := W.ownsRow B 32 4 v l.length (S.en eC l)
theorem Row.lt {W : World} {B : Nat} {v : Value} {l : List H.Ch} (h : Row W B v l) : ∀ k, v.ownBlock = some k → B ≤ k ∧ k < W.heap.size := World.ownsRow.lt h
theorem Row.kept {W W' : World} {B : Nat} {v : Value} {l : List H.Ch} (h : Row W B v l) (k : ∀ g, v.ownBlock = some g → g < W.heap.size → W'.heap[g]? = W.heap[g]?) : Row W' B v l := S.own_kept h k
theorem Row.below {W W' : World} {B : Nat} {v : Value} {l : List H.Ch} (h : Row W B v l) (b : Below W.heap.size W W') : Row W' B v l := h.kept fun g _ hg => b.block g hg
theorem row_kind {W : World} {B g n cap : Nat} {l : List H.Ch} (h : Row W B (.slice (some ⟨g, 0, none⟩) n cap) l) (j : Nat) (t : H.Ch) (hj : l[j]? = some t) : W.cell? ⟨g, j * 4, none⟩ = some (.int .i64 t.x) := by
  have := World.ownsRow.cells h (g := g) rfl (j * 4 + 0) (.int .i64 t.x) (by rw [S.en_get hC l j 0 t hj (by decide)]; rfl)
  rw [Addr.add_lit] at this
  simpa using this
theorem row_old {W : World} {B g n cap : Nat} {l : List H.Ch} (h : Row W B (.slice (some ⟨g, 0, none⟩) n cap) l) (j : Nat) (hj : j < l.length) (q : Nat) (hq : q < 4) : ∃ y, W.cell? ⟨g, j * 4 + q, none⟩ = some y := by
  have hl : j * 4 + q < (S.en eC l).length := by rw [S.en_len hC]; omega
  have := World.ownsRow.cells h (g := g) rfl (j * 4 + q) _ (List.getElem?_eq_getElem hl)
  rw [Addr.add_lit] at this
  exact ⟨_, by simpa using this⟩
theorem row_fz {W : World} {B g n cap : Nat} {l : List H.Ch} (h : Row W B (.slice (some ⟨g, 0, none⟩) n cap) l) (j : Nat) : W.frozen? ⟨g, j, none⟩ = false := by
  rcases h.2 with ⟨e, _⟩ | ⟨g', cap', cur, e, _, hg, _⟩
  · cases e
  · simp only [Value.slice.injEq, Option.some.injEq, Addr.mk.injEq] at e
    obtain ⟨⟨rfl, _⟩, _⟩ := e
    exact frozen_of_row W g j _ _ hg
/-- A token written over, cell by cell. -/
def st4 (W : World) (g j : Nat) (x : H.Ch) : World := (((W.setCell ⟨g, j * 4, none⟩ (.int .i64 x.x)).setCell ⟨g, j * 4 + 1, none⟩ (.int .i64 x.y)).setCell ⟨g, j * 4 + 2, none⟩ (.int .u8 (x.o.toNat : Int))).setCell ⟨g, j * 4 + 3, none⟩ (.int .u8 (x.n.toNat : Int))
theorem st4_other (W : World) (g j b : Nat) (x : H.Ch) (h : b ≠ g) : (st4 W g j x).heap[b]? = W.heap[b]? := by
  unfold st4; rw [S.setCell_other _ _ _ _ _ h, S.setCell_other _ _ _ _ _ h, S.setCell_other _ _ _ _ _ h, S.setCell_other _ _ _ _ _ h]
theorem st4_size (W : World) (g j : Nat) (x : H.Ch) : (st4 W g j x).heap.size = W.heap.size := by unfold st4; simp only [S.setCell_size]
theorem st4_below {B : Nat} {W0 W : World} (h : Below B W0 W) (g j : Nat) (x : H.Ch) (hg : B ≤ g) : Below B W0 (st4 W g j x) := by
  unfold st4
  exact (((h.setCell (p := ⟨g, j * 4, none⟩) hg _).setCell (p := ⟨g, j * 4 + 1, none⟩) hg _).setCell (p := ⟨g, j * 4 + 2, none⟩) hg _).setCell (p := ⟨g, j * 4 + 3, none⟩) hg _
theorem st4_cell (W : World) (g j b q : Nat) (x : H.Ch) (h : b ≠ g) : (st4 W g j x).cell? ⟨b, q, none⟩ = W.cell? ⟨b, q, none⟩ := by
  have e := st4_other W g j b x h
  generalize st4 W g j x = V at *
  exact World.cell?_of_block (a := ⟨b, q, none⟩) e
theorem set_four {β : Type} (a b : List β) (x0 x1 x2 x3 y0 y1 y2 y3 : β) : ((((a ++ (x0 :: x1 :: x2 :: x3 :: b)).set a.length y0).set (a.length + 1) y1).set (a.length + 2) y2).set (a.length + 3) y3 = a ++ (y0 :: y1 :: y2 :: y3 :: b) := by
  rw [List.set_append_right _ _ (Nat.le_refl _), List.set_append_right _ _ (by omega), List.set_append_right _ _ (by omega), List.set_append_right _ _ (by omega), Nat.sub_self, Nat.add_sub_cancel_left, Nat.add_sub_cancel_left, Nat.add_sub_cancel_left]; rfl
theorem en_set4 (l : List H.Ch) (j : Nat) (h : j < l.length) (x : H.Ch) : ((((S.en eC l).set (j * 4) (.int .i64 x.x)).set (j * 4 + 1) (.int .i64 x.y)).set (j * 4 + 2) (.int .u8 (x.o.toNat : Int))).set (j * 4 + 3) (.int .u8 (x.n.toNat : Int)) = S.en eC (l.set j x) := by
  have h1 : (S.en eC (l.take j)).length = j * 4 := by rw [S.en_len hC, List.length_take]; congr 1; omega
  have h2 : l = l.take j ++ (l[j] :: l.drop (j + 1)) := by rw [← List.drop_eq_getElem_cons h, List.take_append_drop]
  have h3 : l.set j x = l.take j ++ (x :: l.drop (j + 1)) := by rw [List.set_eq_take_append_cons_drop, if_pos h]
  rw [h3]
  conv => lhs; rw [h2]
  rw [S.en_append, S.en_append, S.en_cons, S.en_cons]
  have := set_four (S.en eC (l.take j)) (S.en eC (l.drop (j + 1))) (.int .i64 l[j].x) (.int .i64 l[j].y) (.int .u8 (l[j].o.toNat : Int)) (.int .u8 (l[j].n.toNat : Int)) (.int .i64 x.x) (.int .i64 x.y) (.int .u8 (x.o.toNat : Int)) (.int .u8 (x.n.toNat : Int))
  rw [h1] at this
  exact this
theorem row_store {W : World} {B g n cap : Nat} {l : List H.Ch} (hn : n = l.length) (h : Row W B (.slice (some ⟨g, 0, none⟩) n cap) l) (j : Nat) (hj : j < l.length) (x : H.Ch) : Row (st4 W g j x) B (.slice (some ⟨g, 0, none⟩) n cap) (l.set j x) := by
  subst hn
  have h0 := (((World.ownsRow.stored h (j * 4) (.int .i64 x.x)).1.stored (j * 4 + 1) (.int .i64 x.y)).1.stored (j * 4 + 2) (.int .u8 (x.o.toNat : Int))).1.stored (j * 4 + 3) (.int .u8 (x.n.toNat : Int))
  rw [en_set4 l j hj x] at h0
  unfold Row st4
  rw [List.length_set]
  exact h0.1
def K5 (W W' : World) : Prop := ∀ (b : Nat) (cs : Array Value) (fr : Nat × Nat), W.heap[b]? = some (.cells cs 32 fr) → W'.heap[b]? = some (.cells cs 32 fr)
theorem K5.below {W W' : World} (b : Below W.heap.size W W') : K5 W W' := fun x _ _ e => (b.block x (Array.getElem?_eq_some_iff.1 e).1).trans e
theorem K5.grown {W W' : World} {v v' : Value} {B n : Nat} {xs : List Value} (h : W.ownsRow B 27 1 v n xs) (g : Grew W W' v v') : K5 W W' := fun b cs fr e => by
  refine (g.block b (Array.getElem?_eq_some_iff.1 e).1 ?_).trans e
  intro hb
  rcases h.2 with ⟨rfl, _⟩ | ⟨x, cap, cur, rfl, _, hx, _⟩
  · simp [Value.ownBlock] at hb
  · simp [Value.ownBlock] at hb
    subst hb
    rw [hx] at e; simp at e
theorem Row.k5 {W W' : World} {B : Nat} {v : Value} {l : List H.Ch} (h : Row W B v l) (k : K5 W W') : Row W' B v l := by
  refine ⟨h.1, ?_⟩
  rcases h.2 with h | ⟨g, cap, cur, rfl, h2, h3, h4⟩
  · exact .inl h
  · exact .inr ⟨g, cap, cur, rfl, h2, k g cur _ h3, h4⟩
theorem grown_below {W0 W W' : World} {v v' : Value} {N : Nat} (h0 : Below N W0 W) (h : Grew W W' v v') (hB : ∀ g, v.ownBlock = some g → N ≤ g) (hN : N ≤ W.heap.size) : Below N W0 W' := h0.trans (h.below hB hN)
theorem own_val {W : World} {B : Nat} {e : TypeId} {size : Nat} {v : Value} {n : Nat} {xs : List Value} (h : W.ownsRow B e size v n xs) : ∃ p c, v = .slice p n c := by
  rcases h.2 with ⟨e, e0⟩ | ⟨g, cap, cur, e, _⟩
  · exact ⟨none, 0, by rw [e0]; exact e⟩
  · exact ⟨_, _, e⟩
theorem own_below {W W' : World} {B : Nat} {e : TypeId} {size : Nat} {v : Value} {n : Nat} {xs : List Value} (h : W.ownsRow B e size v n xs) (b : Below W.heap.size W W') : W'.ownsRow B e size v n xs := by
  refine ⟨h.1, ?_⟩
  rcases h.2 with h | ⟨g, cap, cur, rfl, h2, h3, h4⟩
  · exact .inl h
  · exact .inr ⟨g, cap, cur, rfl, h2, (b.block g (Array.getElem?_eq_some_iff.1 h3).1).trans h3, h4⟩
theorem cell_of_any (w : World) (b j : Nat) (cs : Array Value) (t : TypeId) (fr : Nat × Nat) (h : w.heap[b]? = some (.cells cs t fr)) : w.cell? ⟨b, j, none⟩ = cs[j]? := by simp [World.cell?, h]
def mkt (i : Nat) : H.Ch := ⟨-1000 - (i : Int), 0, 0, 0⟩
def two (i n m : Nat) : List H.Ch := List.replicate (n + m) (mkt i)
theorem two_len (i n m : Nat) : (two i n m).length = n + m := by simp [two]
theorem two_succ (i n m : Nat) : two i n (m + 1) = two i n m ++ [mkt i] := by unfold two; rw [← Nat.add_assoc, List.replicate_succ']
theorem two_any (i n m j : Nat) (h : j < n + m) : (two i n m)[j]? = some (mkt i) := by unfold two; simp [h]
def updF {α : Type} (f : Nat → α) (i : Nat) (x : α) : Nat → α := fun j => if j = i then x else f j
theorem updF_self {α : Type} (f : Nat → α) (i : Nat) (x : α) : updF f i x i = x := by simp [updF]
theorem updF_ne {α : Type} (f : Nat → α) (i j : Nat) (x : α) (h : j ≠ i) : updF f i x j = f j := by simp [updF, h]

/-- The lists while they are written over. -/
structure P1 (B bl n : Nat) (vals : Nat → Value) (len : Nat → Nat) (W0 W : World) (Ls : Nat → List H.Ch) : Prop where
  below : Below B W0 W
  size : B ≤ W.heap.size
  cells : ∀ i, i < n → W.cell? ⟨bl, i, none⟩ = some (vals i)
  ty : ∃ arr, W.heap[bl]? = some (.cells arr 27 (0, 0))
  rows : ∀ i, i < n → Row W B (vals i) (Ls i)
  lens : ∀ i, i < n → (Ls i).length = len i
  sep : ∀ i j, i < n → j < n → i ≠ j → ∀ x, (vals i).ownBlock = some x → (vals j).ownBlock ≠ some x
theorem P1.ne {B bl n : Nat} {vals : Nat → Value} {len : Nat → Nat} {W0 W : World} {Ls : Nat → List H.Ch} (h : P1 B bl n vals len W0 W Ls) (i : Nat) (hi : i < n) : (vals i).ownBlock ≠ some bl := by
  intro e
  obtain ⟨arr, ha⟩ := h.ty
  rcases (h.rows i hi).2 with ⟨e2, _⟩ | ⟨g, cap, cur, e2, _, hg, _⟩
  · rw [e2] at e; simp [Value.ownBlock] at e
  · rw [e2] at e; simp [Value.ownBlock] at e; subst e; rw [ha] at hg; simp at hg
theorem P1.store {B bl n : Nat} {vals : Nat → Value} {len : Nat → Nat} {W0 W : World} {Ls : Nat → List H.Ch} (h : P1 B bl n vals len W0 W Ls) (i k g c : Nat) (hi : i < n) (hk : k < len i) (hv : vals i = .slice (some ⟨g, 0, none⟩) (len i) c) (x : H.Ch) :
    P1 B bl n vals len W0 (st4 W g k x) (updF Ls i ((Ls i).set k x)) := by
  have hne := h.ne i hi
  have hgb : g ≠ bl := by rintro rfl; exact hne (by rw [hv]; rfl)
  have hlt := (h.rows i hi).lt g (by rw [hv]; rfl)
  refine ⟨st4_below h.below g k x hlt.1, by rw [st4_size]; exact h.size, fun j hj => ?_, ?_, fun j hj => ?_, fun j hj => ?_, h.sep⟩
  · rw [st4_cell W g k bl j x (Ne.symm hgb)]; exact h.cells j hj
  · obtain ⟨arr, ha⟩ := h.ty
    exact ⟨arr, (st4_other W g k bl x (Ne.symm hgb)).trans ha⟩
  · by_cases e : j = i
    · subst e
      rw [updF_self, hv]
      have hr := h.rows j hi
      rw [hv] at hr
      exact row_store (h.lens j hi).symm hr k (by rw [h.lens j hi]; exact hk) x
    · rw [updF_ne _ _ _ _ e]
      exact (h.rows j hj).kept fun y hy _ => st4_other W g k y x (by rintro rfl; exact h.sep j i hj hi e _ hy (by rw [hv]; rfl))
  · by_cases e : j = i
    · subst e; rw [updF_self, List.length_set]; exact h.lens j hj
    · rw [updF_ne _ _ _ _ e]; exact h.lens j hj

/-- The lists while they are appended to: cur is what each has become. -/
structure A3 (B B3 bl n : Nat) (vals cur : Nat → Value) (g len clen : Nat → Nat) (W0 W : World) : Prop where
  below : Below B W0 W
  bb : B ≤ B3
  size : B3 ≤ W.heap.size
  bls : bl < B3
  cells : ∀ i, i < n → W.cell? ⟨bl, i, none⟩ = some (vals i)
  rows : ∀ i, i < n → Row W B (cur i) (two i (len i) (clen i))
  sep : ∀ i j, i < n → j < n → i ≠ j → ∀ x, (cur i).ownBlock = some x → (cur j).ownBlock ≠ some x
  ne : ∀ i, i < n → (cur i).ownBlock ≠ some bl
  orig : ∀ i, i < n → ∀ j, j < len i → W.cell? ⟨g i, j * 4, none⟩ = some (.int .i64 (-1000 - (i : Int)))
  glt : ∀ i, i < n → 0 < len i → g i < B3
  osep : ∀ i j, i < n → j < n → i ≠ j → 0 < len i → (cur j).ownBlock ≠ some (g i)
theorem A3.frame {B B3 bl n : Nat} {vals cur : Nat → Value} {g len clen : Nat → Nat} {W0 W W' : World} (h : A3 B B3 bl n vals cur g len clen W0 W) (k5 : K5 W W') (hb : ∀ k, k < B3 → W'.heap[k]? = W.heap[k]?) (hB : Below B W0 W') (hs : B3 ≤ W'.heap.size) : A3 B B3 bl n vals cur g len clen W0 W' :=
  ⟨hB, h.bb, hs, h.bls, fun i hi => by rw [World.cell?_of_block (w := W) (hb bl h.bls)]; exact h.cells i hi, fun i hi => (h.rows i hi).k5 k5, h.sep, h.ne,
    fun i hi j hj => by rw [World.cell?_of_block (w := W) (hb (g i) (h.glt i hi (by omega)))]; exact h.orig i hi j hj, h.glt, h.osep⟩
theorem A3.app {B B3 bl n : Nat} {vals cur : Nat → Value} {g len clen : Nat → Nat} {W0 W W' : World} {v' : Value} (h : A3 B B3 bl n vals cur g len clen W0 W) (i : Nat) (hi : i < n) (hg : Grew W W' (cur i) v') (hr : Row W' B v' (two i (len i) (clen i) ++ [mkt i])) :
    A3 B B3 bl n vals (updF cur i v') g len (updF clen i (clen i + 1)) W0 W' := by
  have hri := h.rows i hi
  have hsz := h.size
  have hbls := h.bls
  have hgl : ∀ j, j < n → 0 < len j → g j < W.heap.size := fun j hj hp => Nat.lt_of_lt_of_le (h.glt j hj hp) h.size
  refine ⟨h.below.trans (hg.below (fun x hx => (hri.lt x hx).1) (Nat.le_trans h.bb h.size)), h.bb, Nat.le_trans h.size hg.size, h.bls, fun j hj => ?_, fun j hj => ?_, fun a b ha hb hab x hx => ?_, fun j hj => ?_, fun j hj y hy => ?_, h.glt, fun a b ha hb hab hp => ?_⟩
  · rw [World.cell?_of_block (w := W) (hg.block bl (by omega) (fun e => h.ne i hi e.symm))]; exact h.cells j hj
  · by_cases e : j = i
    · subst e
      rw [updF_self, updF_self, two_succ]
      exact hr
    · rw [updF_ne _ _ _ _ e, updF_ne _ _ _ _ e]
      exact (h.rows j hj).kept fun x hx hlt => hg.block x hlt (fun e2 => h.sep j i hj hi e x hx e2.symm)
  · by_cases ea : a = i
    · subst ea
      rw [updF_self] at hx
      have eb : b ≠ a := fun e => hab e.symm
      rw [updF_ne _ _ _ _ eb]
      rcases hg.own with e | e
      · rw [e] at hx; exact h.sep a b ha hb hab x hx
      · intro e2
        have h1 := e x hx
        have h2 := ((h.rows b hb).lt x e2).2
        omega
    · rw [updF_ne _ _ _ _ ea] at hx
      by_cases eb : b = i
      · subst eb
        rw [updF_self]
        rcases hg.own with e | e
        · rw [e]; exact h.sep a b ha hb hab x hx
        · intro e2
          have h1 := e x e2
          have h2 := ((h.rows a ha).lt x hx).2
          omega
      · rw [updF_ne _ _ _ _ eb]; exact h.sep a b ha hb hab x hx
  · by_cases e : j = i
    · subst e
      rw [updF_self]
      rcases hg.own with e | e
      · rw [e]; exact h.ne j hj
      · intro e2; have := e bl e2; omega
    · rw [updF_ne _ _ _ _ e]; exact h.ne j hj
  · have hp : 0 < len j := by omega
    by_cases e : j = i
    · subst e
      by_cases eo : (cur j).ownBlock = some (g j)
      · rcases hg.stay with e | e
        · rw [eo] at e
          rcases hr.2 with ⟨e2, _⟩ | ⟨g', cap, cu, e2, _, hg', hcap, _, hcs, htk⟩
          · rw [e2] at e; simp [Value.ownBlock] at e
          · rw [e2] at e
            simp [Value.ownBlock] at e
            subst e
            rw [e2] at hr
            have hlen : (two j (len j) (clen j) ++ [mkt j])[y]? = some (mkt j) := by
              rw [List.getElem?_append_left (by rw [two_len]; omega)]; exact two_any j (len j) (clen j) y (by omega)
            exact row_kind hr y (mkt j) hlen
        · rw [World.cell?_of_block (w := W) (e (g j) (hgl j hj hp))]; exact h.orig j hj y hy
      · rw [World.cell?_of_block (w := W) (hg.block (g j) (hgl j hj hp) (fun e => eo e.symm))]; exact h.orig j hj y hy
    · rw [World.cell?_of_block (w := W) (hg.block (g j) (hgl j hj hp) (fun e2 => h.osep j i hj hi e hp e2.symm))]; exact h.orig j hj y hy
  · by_cases e : b = i
    · subst e
      rw [updF_self]
      rcases hg.own with e | e
      · rw [e]; exact h.osep a b ha hb hab hp
      · intro e2; have h1 := e _ e2; have := hgl a ha hp; omega
    · rw [updF_ne _ _ _ _ e]; exact h.osep a b ha hb hab hp
theorem own5 {W W' : World} {B n : Nat} {v x x' : Value} {xs : List Value} {l : List H.Ch} (h : W.ownsRow B 27 1 v n xs) (hx : ∃ B', Row W B' x l) (g : Grew W W' x x') : W'.ownsRow B 27 1 v n xs := by
  refine ⟨h.1, ?_⟩
  rcases h.2 with h | ⟨b, cap, cur, rfl, h2, h3, h4⟩
  · exact .inl h
  · refine .inr ⟨b, cap, cur, rfl, h2, (g.block b (Array.getElem?_eq_some_iff.1 h3).1 ?_).trans h3, h4⟩
    intro e
    obtain ⟨B', hr⟩ := hx
    rcases hr.2 with ⟨rfl, _⟩ | ⟨b', cap', cur', rfl, _, hb', _⟩
    · simp [Value.ownBlock] at e
    · simp [Value.ownBlock] at e; subst e; rw [h3] at hb'; simp at hb'

theorem updF_updF {α : Type} (f : Nat → α) (i : Nat) (x y : α) : updF (updF f i x) i y = updF f i y := by
  funext j; by_cases e : j = i <;> simp [updF, e]
end Go.Proofs.YtlljelfplffglabDoor.HC
