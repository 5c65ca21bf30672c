import Derived.Test.YtlljelfplffglabDoorKRefW
import Derived.Test.YtlljelfplffglabDoorHArt
/-! The statement's own test that lists share no room. -/
namespace Go.Proofs.YtlljelfplffglabDoor.K
open Go.RowKit
open Go.Proofs
open Go.Proofs.YtlljelfplffglabDoor.K
set_option linter.unusedVariables false

def K5 (W W' : World) : Prop := ∀ (b : Nat) (cs : Array Value) (fr : Nat × Nat), W.heap[b]? = some (.cells cs 5 fr) → W'.heap[b]? = some (.cells cs 5 fr)
theorem K5.trans {a b c : World} (h : K5 a b) (k : K5 b c) : K5 a c := fun x cs fr e => k x cs fr (h x cs fr e)
theorem K5.below {W W' : World} (b : Below W.heap.size W W') : K5 W W' := fun x _ _ e => (b.block x (Array.getElem?_eq_some_iff.1 e).1).trans e
theorem K5.grown {W W' : World} {v : Value} {B n : Nat} {xs : List Value} (h : W.ownsRow B 23 1 v n xs) (g : W.grownBy W' v.ownBlock) : K5 W W' := fun b cs fr e => by
  refine (g.block b (Array.getElem?_eq_some_iff.1 e).1 ?_).trans e
  intro hb
  rcases h.2 with ⟨rfl, _⟩ | ⟨x, cap, cur, rfl, _, hx, _⟩
  · simp [Value.ownBlock] at hb
  · simp [Value.ownBlock] at hb
    subst hb
    rw [hx] at e; simp at e
theorem row_store {W : World} {B g n cap : Nat} {l : List UInt8} (h : Row W B (.slice (some ⟨g, 0, none⟩) n cap) l) (j : Nat) (hj : j < l.length) (b : UInt8) : Row (W.setCell ⟨g, j, none⟩ (.int .u8 (b.toNat : Int))) B (.slice (some ⟨g, 0, none⟩) n cap) (l.set j b) := by
  refine ⟨by simp [bv], ?_⟩
  rcases h.2 with ⟨e, _⟩ | ⟨g', cap', cur, e, hB, hg, h1, h2, h3, h4⟩
  · cases e
  · simp only [Value.slice.injEq, Option.some.injEq, Addr.mk.injEq] at e
    obtain ⟨⟨rfl, _⟩, rfl, rfl⟩ := e
    refine .inr ⟨g, cap, cur.setIfInBounds j (.int .u8 (b.toNat : Int)), by simp, hB, heap_setCell_same W g j _ _ _ hg, by simpa using h1, h2, by simpa using h3, ?_⟩
    rw [Array.toList_setIfInBounds, List.length_set, List.take_set, h4]
    simp [bv, List.map_set]
theorem Row.k5 {W W' : World} {B : Nat} {v : Value} {l : List UInt8} (h : Row W B v l) (k : K5 W W') : Row W' B v l := by
  refine ⟨h.1, ?_⟩
  rcases h.2 with h | ⟨g, cap, cur, rfl, h2, h3, h4⟩
  · exact .inl h
  · exact .inr ⟨g, cap, cur, rfl, h2, k g cur _ h3, h4⟩
theorem Roomed.k5 {W W' : World} {B : Nat} {v : Value} {l : List UInt8} (h : Roomed W B v l) (k : K5 W W') : Roomed W' B v l := by
  obtain ⟨g, cap, e, hr⟩ := h
  exact ⟨g, cap, e, hr.k5 k⟩
theorem Roomed.mono {W : World} {B B' : Nat} {v : Value} {l : List UInt8} (h : Roomed W B v l) (hb : B' ≤ B) : Roomed W B' v l := by
  obtain ⟨g, cap, e, hr⟩ := h
  exact ⟨g, cap, e, hr.mono hb⟩
theorem Roomed.sl {W : World} {B : Nat} {v : Value} {l : List UInt8} (h : Roomed W B v l) : Sl W v l := by
  obtain ⟨g, cap, rfl, hr⟩ := h
  have h1 := hr.sl.take l.length (by simp)
  rw [List.take_left] at h1
  exact h1
theorem row_cell {W : World} {B g n cap : Nat} {l : List UInt8} (h : Row W B (.slice (some ⟨g, 0, none⟩) n cap) l) (j : Nat) (hj : j < l.length) : W.cell? ⟨g, j, none⟩ = some (.int .u8 (l[j].toNat : Int)) := by
  obtain ⟨p, c, e, hbs⟩ := h.sl.ex
  obtain ⟨y, hy, hcy⟩ := hbs.at j (l[j]) (by simp)
  simp only [Value.slice.injEq] at e
  rw [← e.1] at hy
  cases hy
  rw [Addr.add_lit] at hcy
  simpa using hcy
theorem own_val {W : World} {B : Nat} {e : TypeId} {size : Nat} {v : Value} {n : Nat} {xs : List Value} (h : W.ownsRow B e size v n xs) : ∃ p c, v = .slice p n c := by
  rcases h.2 with ⟨e, e0⟩ | ⟨g, cap, cur, e, _⟩
  · exact ⟨none, 0, by rw [e0]; exact e⟩
  · exact ⟨_, _, e⟩
theorem row_fz {W : World} {B g n cap : Nat} {l : List UInt8} (h : Row W B (.slice (some ⟨g, 0, none⟩) n cap) l) (j : Nat) : W.frozen? ⟨g, j, none⟩ = false := by
  rcases h.2 with ⟨e, _⟩ | ⟨g', cap', cur, e, _, hg, _⟩
  · cases e
  · simp only [Value.slice.injEq, Option.some.injEq, Addr.mk.injEq] at e
    obtain ⟨⟨rfl, _⟩, _⟩ := e
    exact frozen_of_row W g j _ _ hg
theorem own_below {W W' : World} {B : Nat} {e : TypeId} {size : Nat} {v : Value} {n : Nat} {xs : List Value} (h : W.ownsRow B e size v n xs) (b : Below W.heap.size W W') : W'.ownsRow B e size v n xs := by
  refine ⟨h.1, ?_⟩
  rcases h.2 with h | ⟨g, cap, cur, rfl, h2, h3, h4⟩
  · exact .inl h
  · exact .inr ⟨g, cap, cur, rfl, h2, (b.block g (Array.getElem?_eq_some_iff.1 h3).1).trans h3, h4⟩
theorem grown_below {W0 W W' : World} {v : Value} {N : Nat} (h0 : Below N W0 W) (h : W.grownBy W' v.ownBlock) (hB : ∀ g, v.ownBlock = some g → N ≤ g) (hN : N ≤ W.heap.size) : Below N W0 W' :=
  h0.trans ⟨h.os, h.tape, h.output, h.size, fun k hk => h.block k (by omega) (fun e => by have := hB k e.symm; omega)⟩
theorem wp_append_slice (w : World) {o : Oper} {a : Act} {K : Act → World → Prop} {Q : Exit → Act → World → Prop} (s x : Operand)
    (ho : o.op = .call { callee := .builtin .append, args := #[s, x], argTypes := #[83, 83] }) (B : Nat) (v : Value) (k : Nat) (vals : List Value) (hs : a.eval s = v) (hown : w.ownsRow B 23 1 v k vals)
    (bt : Nat) (u : Value) (hu1 : u.oneCell' = true) (hx : a.eval x = .slice (some ⟨bt, 0, none⟩) 1 1) (hc : w.cell? ⟨bt, 0, none⟩ = some u) (hk : k ≤ 2097152) (hB : B ≤ w.heap.size)
    (h : ∀ v' w', w'.ownsRow B 23 1 v' (k + 1) (vals ++ [u]) → w.grownBy w' v.ownBlock → (v'.ownBlock = v.ownBlock ∨ ∀ g, v'.ownBlock = some g → w.heap.size ≤ g) → K (a.put o.dst v') w') : o.wp Tryd.prog a w K Q := by
  obtain ⟨i0, hi, hz0, hz1, hz2⟩ := info_parts info22
  obtain ⟨v', w', hr, h1, h2, h3, _⟩ := run_append_own2 (P := Tryd.prog) w 83 o.type B 23 i0 (.slice none 0 0) 1 24 Tryd.underlying83 hi hz0 hz1 hz2 rfl (by decide) v k vals hown ⟨bt, 0, none⟩ 1 1 [u] rfl (fun j y hj => by
    match j, hj with
    | 0, hj => simp at hj; subst hj; simp only [Addr.add, if_pos]; exact hc) (by intro y hy; simp at hy; subst hy; exact hu1) (by unfold maxLen; omega) (by omega) hB
  unfold Oper.wp execOp
  simp only [ho, resolve, invoke, builtin, Sem.run_bind, Sem.run_pure, Result.andThen_ok, List.map_toArray, List.map_cons, List.map_nil, hs, hx, hr]
  exact h v' w' h1 h2 h3
theorem wpList_append_slice (w : World) {ops : Array Oper} {rest : List Oper} {o : Oper} {a : Act} {Q : Exit → Act → World → Prop} (hgd : o.guard = none) (s x : Operand)
    (ho : o.op = .call { callee := .builtin .append, args := #[s, x], argTypes := #[83, 83] }) (B : Nat) (v : Value) (k : Nat) (vals : List Value) (hs : a.eval s = v) (hown : w.ownsRow B 23 1 v k vals)
    (bt : Nat) (u : Value) (hu1 : u.oneCell' = true) (hx : a.eval x = .slice (some ⟨bt, 0, none⟩) 1 1) (hc : w.cell? ⟨bt, 0, none⟩ = some u) (hk : k ≤ 2097152) (hB : B ≤ w.heap.size)
    (h : ∀ v' w', w'.ownsRow B 23 1 v' (k + 1) (vals ++ [u]) → w.grownBy w' v.ownBlock → (v'.ownBlock = v.ownBlock ∨ ∀ g, v'.ownBlock = some g → w.heap.size ≤ g) → wpList Tryd.prog ops Q rest (a.put o.dst v') w') : wpList Tryd.prog ops Q (o :: rest) a w :=
  wpList_plain hgd fun _ hK => wp_append_slice w s x ho B v k vals hs hown bt u hu1 hx hc hk hB fun v' w' h2 h3 h4 => hK _ _ (h v' w' h2 h3 h4)
def mrk (i : Nat) : UInt8 := by8 (i + 1)
def updF {α : Type} (f : Nat → α) (i : Nat) (x : α) : Nat → α := fun j => if j = i then x else f j
theorem updF_self {α : Type} (f : Nat → α) (i : Nat) (x : α) : updF f i x i = x := by simp [updF]
theorem updF_ne {α : Type} (f : Nat → α) (i j : Nat) (x : α) (h : j ≠ i) : updF f i x j = f j := by simp [updF, h]

/-- The lists while they are written over. -/
structure P1 (B bl n : Nat) (vals : Nat → Value) (len : Nat → Nat) (W0 W : World) (Ls : Nat → List UInt8) : Prop where
  below : Below B W0 W
  size : B ≤ W.heap.size
  cells : ∀ i, i < n → W.cell? ⟨bl, i, none⟩ = some (vals i)
  ty : ∃ arr, W.heap[bl]? = some (.cells arr 23 (0, 0))
  rows : ∀ i, i < n → Row W B (vals i) (Ls i)
  lens : ∀ i, i < n → (Ls i).length = len i
  sep : ∀ i j, i < n → j < n → i ≠ j → ∀ x, (vals i).ownBlock = some x → (vals j).ownBlock ≠ some x
theorem P1.ne {B bl n : Nat} {vals : Nat → Value} {len : Nat → Nat} {W0 W : World} {Ls : Nat → List UInt8} (h : P1 B bl n vals len W0 W Ls) (i : Nat) (hi : i < n) : (vals i).ownBlock ≠ some bl := by
  intro e
  obtain ⟨arr, ha⟩ := h.ty
  rcases (h.rows i hi).2 with ⟨e2, _⟩ | ⟨g, cap, cur, e2, _, hg, _⟩
  · rw [e2] at e; simp [Value.ownBlock] at e
  · rw [e2] at e; simp [Value.ownBlock] at e; subst e; rw [ha] at hg; simp at hg
theorem P1.store {B bl n : Nat} {vals : Nat → Value} {len : Nat → Nat} {W0 W : World} {Ls : Nat → List UInt8} (h : P1 B bl n vals len W0 W Ls) (i k g c : Nat) (hi : i < n) (hk : k < len i) (hv : vals i = .slice (some ⟨g, 0, none⟩) (len i) c) (b : UInt8) :
    P1 B bl n vals len W0 (W.setCell ⟨g, k, none⟩ (.int .u8 (b.toNat : Int))) (updF Ls i ((Ls i).set k b)) := by
  have hne := h.ne i hi
  have hgb : g ≠ bl := by rintro rfl; exact hne (by rw [hv]; rfl)
  have hlt := (h.rows i hi).lt g (by rw [hv]; rfl)
  refine ⟨h.below.setCell (p := ⟨g, k, none⟩) hlt.1 _, by simpa using h.size, fun j hj => ?_, ?_, fun j hj => ?_, fun j hj => ?_, h.sep⟩
  · rw [World.cell?_of_block (w := W) (heap_setCell_other W ⟨g, k, none⟩ bl _ (Ne.symm hgb))]; exact h.cells j hj
  · obtain ⟨arr, ha⟩ := h.ty
    exact ⟨arr, (heap_setCell_other W ⟨g, k, none⟩ bl _ (Ne.symm hgb)).trans ha⟩
  · by_cases e : j = i
    · subst e
      rw [updF_self, hv]
      have hr := h.rows j hi
      rw [hv] at hr
      exact row_store hr k (by rw [h.lens j hi]; exact hk) b
    · rw [updF_ne _ _ _ _ e]
      exact (h.rows j hj).kept fun x hx _ => heap_setCell_other W ⟨g, k, none⟩ x _ (by rintro rfl; exact h.sep j i hj hi e _ hx (by rw [hv]; rfl))
  · by_cases e : j = i
    · subst e; rw [updF_self, List.length_set]; exact h.lens j hj
    · rw [updF_ne _ _ _ _ e]; exact h.lens j hj

/-- The lists while they are appended to: cur is what each has become. -/
structure A3 (B B3 bl n : Nat) (vals cur : Nat → Value) (g len clen : Nat → Nat) (W0 W : World) : Prop where
  below : Below B W0 W
  bb : B ≤ B3
  size : B3 ≤ W.heap.size
  bls : bl < B3
  cells : ∀ i, i < n → W.cell? ⟨bl, i, none⟩ = some (vals i)
  rows : ∀ i, i < n → Row W B (cur i) (List.replicate (clen i) (mrk i))
  sep : ∀ i j, i < n → j < n → i ≠ j → ∀ x, (cur i).ownBlock = some x → (cur j).ownBlock ≠ some x
  ne : ∀ i, i < n → (cur i).ownBlock ≠ some bl
  orig : ∀ i, i < n → ∀ j, j < len i → W.cell? ⟨g i, j, none⟩ = some (.int .u8 ((mrk i).toNat : Int))
  glt : ∀ i, i < n → 0 < len i → g i < B3
  osep : ∀ i j, i < n → j < n → i ≠ j → 0 < len i → (cur j).ownBlock ≠ some (g i)
  oself : ∀ i, i < n → len i ≤ clen i
theorem A3.frame {B B3 bl n : Nat} {vals cur : Nat → Value} {g len clen : Nat → Nat} {W0 W W' : World} (h : A3 B B3 bl n vals cur g len clen W0 W) (k5 : K5 W W') (hb : ∀ k, k < B3 → W'.heap[k]? = W.heap[k]?) (hB : Below B W0 W') (hs : B3 ≤ W'.heap.size) : A3 B B3 bl n vals cur g len clen W0 W' :=
  ⟨hB, h.bb, hs, h.bls, fun i hi => by rw [World.cell?_of_block (w := W) (hb bl h.bls)]; exact h.cells i hi, fun i hi => (h.rows i hi).k5 k5, h.sep, h.ne,
    fun i hi j hj => by rw [World.cell?_of_block (w := W) (hb (g i) (h.glt i hi (by omega)))]; exact h.orig i hi j hj, h.glt, h.osep, h.oself⟩
theorem A3.app {B B3 bl n : Nat} {vals cur : Nat → Value} {g len clen : Nat → Nat} {W0 W W' : World} {v' : Value} (h : A3 B B3 bl n vals cur g len clen W0 W) (i : Nat) (hi : i < n) (hg : Grew W W' (cur i) v') (hr : Row W' B v' (List.replicate (clen i) (mrk i) ++ [mrk i])) :
    A3 B B3 bl n vals (updF cur i v') g len (updF clen i (clen i + 1)) W0 W' := by
  have hri := h.rows i hi
  have hsz := h.size
  have hbls := h.bls
  have hgl : ∀ j, j < n → 0 < len j → g j < W.heap.size := fun j hj hp => Nat.lt_of_lt_of_le (h.glt j hj hp) h.size
  refine ⟨h.below.trans (hg.below (fun x hx => (hri.lt x hx).1) (Nat.le_trans h.bb h.size)), h.bb, Nat.le_trans h.size hg.size, h.bls, fun j hj => ?_, fun j hj => ?_, fun a b ha hb hab x hx => ?_, fun j hj => ?_, fun j hj y hy => ?_, h.glt, fun a b ha hb hab hp => ?_, fun j hj => ?_⟩
  · rw [World.cell?_of_block (w := W) (hg.block bl (by omega) (fun e => h.ne i hi e.symm))]; exact h.cells j hj
  · by_cases e : j = i
    · subst e
      rw [updF_self, updF_self, List.replicate_succ']
      exact hr
    · rw [updF_ne _ _ _ _ e, updF_ne _ _ _ _ e]
      exact (h.rows j hj).kept fun x hx hlt => hg.block x hlt (fun e2 => h.sep j i hj hi e x hx e2.symm)
  · by_cases ea : a = i
    · subst ea
      rw [updF_self] at hx
      have eb : b ≠ a := fun e => hab e.symm
      rw [updF_ne _ _ _ _ eb]
      rcases hg.own with e | e
      · rw [e] at hx; exact h.sep a b ha hb hab x hx
      · intro e2
        have h1 := e x hx
        have h2 := ((h.rows b hb).lt x e2).2
        omega
    · rw [updF_ne _ _ _ _ ea] at hx
      by_cases eb : b = i
      · subst eb
        rw [updF_self]
        rcases hg.own with e | e
        · rw [e]; exact h.sep a b ha hb hab x hx
        · intro e2
          have h1 := e x e2
          have h2 := ((h.rows a ha).lt x hx).2
          omega
      · rw [updF_ne _ _ _ _ eb]; exact h.sep a b ha hb hab x hx
  · by_cases e : j = i
    · subst e
      rw [updF_self]
      rcases hg.own with e | e
      · rw [e]; exact h.ne j hj
      · intro e2; have := e bl e2; omega
    · rw [updF_ne _ _ _ _ e]; exact h.ne j hj
  · have hp : 0 < len j := by omega
    by_cases e : j = i
    · subst e
      by_cases eo : (cur j).ownBlock = some (g j)
      · rcases hg.stay with e | e
        · rw [eo] at e
          rcases hr.2 with ⟨e2, _⟩ | ⟨g', cap, cu, e2, _, hg', hcap, _, hcs, htk⟩
          · rw [e2] at e; simp [Value.ownBlock] at e
          · rw [e2] at e
            simp [Value.ownBlock] at e
            subst e
            rw [cell_of_any W' _ y _ _ _ hg']
            have hyl : y < clen j := Nat.lt_of_lt_of_le hy (h.oself j hj)
            have h1 : (cu.toList.take ((List.replicate (clen j) (mrk j) ++ [mrk j]).length * 1))[y]? = (bv (List.replicate (clen j) (mrk j) ++ [mrk j]))[y]? := by rw [htk]
            rw [List.getElem?_take, if_pos (by simp; omega)] at h1
            rw [← Array.getElem?_toList, h1]
            refine (bv_get _ y _).2 ⟨mrk j, ?_, rfl⟩
            rw [List.getElem?_append_left (by simpa using hyl)]
            simp [hyl]
        · rw [World.cell?_of_block (w := W) (e (g j) (hgl j hj hp))]; exact h.orig j hj y hy
      · rw [World.cell?_of_block (w := W) (hg.block (g j) (hgl j hj hp) (fun e => eo e.symm))]; exact h.orig j hj y hy
    · rw [World.cell?_of_block (w := W) (hg.block (g j) (hgl j hj hp) (fun e2 => h.osep j i hj hi e hp e2.symm))]; exact h.orig j hj y hy
  · by_cases e : b = i
    · subst e
      rw [updF_self]
      rcases hg.own with e | e
      · rw [e]; exact h.osep a b ha hb hab hp
      · intro e2; have h1 := e _ e2; have := hgl a ha hp; omega
    · rw [updF_ne _ _ _ _ e]; exact h.osep a b ha hb hab hp
  · by_cases e : j = i
    · subst e; rw [updF_self]; have := h.oself j hj; omega
    · rw [updF_ne _ _ _ _ e]; exact h.oself j hj
theorem mk_nat (i : Nat) (h : i < 200) : ((mrk i).toNat : Int) = (i : Int) + 1 := by
  unfold mrk; rw [by8_nat]; omega
theorem own5 {W W' : World} {B n : Nat} {v x x' : Value} {xs : List Value} {l : List UInt8} (h : W.ownsRow B 23 1 v n xs) (hx : ∃ B', Row W B' x l) (g : Grew W W' x x') : W'.ownsRow B 23 1 v n xs := by
  refine ⟨h.1, ?_⟩
  rcases h.2 with h | ⟨b, cap, cur, rfl, h2, h3, h4⟩
  · exact .inl h
  · refine .inr ⟨b, cap, cur, rfl, h2, (g.block b (Array.getElem?_eq_some_iff.1 h3).1 ?_).trans h3, h4⟩
    intro e
    obtain ⟨B', hr⟩ := hx
    rcases hr.2 with ⟨rfl, _⟩ | ⟨b', cap', cur', rfl, _, hb', _⟩
    · simp [Value.ownBlock] at e
    · simp [Value.ownBlock] at e; subst e; rw [h3] at hb'; simp at hb'

theorem updF_updF {α : Type} (f : Nat → α) (i : Nat) (x y : α) : updF (updF f i x) i y = updF f i y := by
  funext j; by_cases e : j = i <;> simp [updF, e]
end Go.Proofs.YtlljelfplffglabDoor.K
