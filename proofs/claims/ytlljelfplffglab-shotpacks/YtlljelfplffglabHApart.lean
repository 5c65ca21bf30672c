import Derived.Test.YtlljelfplffglabKRefW
import Derived.Test.YtlljelfplffglabHArt
/-! The statement's own test that lists share no room. -/
namespace Go.Proofs.Ytlljelfplffglab.K
open Go.RowKit
open Go.Proofs
open Go.Proofs.Ytlljelfplffglab.K
set_option linter.unusedVariables false

def K5 (W W' : World) : Prop := ∀ (b : Nat) (cs : Array Value) (fr : Nat × Nat), W.heap[b]? = some (.cells cs 5 fr) → W'.heap[b]? = some (.cells cs 5 fr)
theorem K5.trans {a b c : World} (h : K5 a b) (k : K5 b c) : K5 a c := fun x cs fr e => k x cs fr (h x cs fr e)
theorem K5.below {W W' : World} (b : Below W.heap.size W W') : K5 W W' := fun x _ _ e => (b.block x (Array.getElem?_eq_some_iff.1 e).1).trans e
theorem K5.grown {W W' : World} {v : Value} {B n : Nat} {xs : List Value} (h : W.ownsRow B 22 1 v n xs) (g : W.grownBy W' v.ownBlock) : K5 W W' := fun b cs fr e => by
  refine (g.block b (Array.getElem?_eq_some_iff.1 e).1 ?_).trans e
  intro hb
  rcases h.2 with ⟨rfl, _⟩ | ⟨x, cap, cur, rfl, _, hx, _⟩
  · simp [Value.ownBlock] at hb
  · simp [Value.ownBlock] at hb
    subst hb
    rw [hx] at e; simp at e
theorem row_store {W : World} {B g n cap : Nat} {l : List UInt8} (h : Row W B (.slice (some ⟨g, 0, none⟩) n cap) l) (j : Nat) (hj : j < l.length) (b : UInt8) : Row (W.setCell ⟨g, j, none⟩ (.int .u8 (b.toNat : Int))) B (.slice (some ⟨g, 0, none⟩) n cap) (l.set j b) := by
  refine ⟨by simp [bv], ?_⟩
  rcases h.2 with ⟨e, _⟩ | ⟨g', cap', cur, e, hB, hg, h1, h2, h3, h4⟩
  · cases e
  · simp only [Value.slice.injEq, Option.some.injEq, Addr.mk.injEq] at e
    obtain ⟨⟨rfl, _⟩, rfl, rfl⟩ := e
    refine .inr ⟨g, cap, cur.setIfInBounds j (.int .u8 (b.toNat : Int)), by simp, hB, heap_setCell_same W g j _ _ _ hg, by simpa using h1, h2, by simpa using h3, ?_⟩
    rw [Array.toList_setIfInBounds, List.length_set, List.take_set, h4]
    simp [bv, List.map_set]
theorem Row.k5 {W W' : World} {B : Nat} {v : Value} {l : List UInt8} (h : Row W B v l) (k : K5 W W') : Row W' B v l := by
  refine ⟨h.1, ?_⟩
  rcases h.2 with h | ⟨g, cap, cur, rfl, h2, h3, h4⟩
  · exact .inl h
  · exact .inr ⟨g, cap, cur, rfl, h2, k g cur _ h3, h4⟩
theorem Roomed.k5 {W W' : World} {B : Nat} {v : Value} {l : List UInt8} (h : Roomed W B v l) (k : K5 W W') : Roomed W' B v l := by
  obtain ⟨g, cap, e, hr⟩ := h
  exact ⟨g, cap, e, hr.k5 k⟩
theorem Roomed.mono {W : World} {B B' : Nat} {v : Value} {l : List UInt8} (h : Roomed W B v l) (hb : B' ≤ B) : Roomed W B' v l := by
  obtain ⟨g, cap, e, hr⟩ := h
  exact ⟨g, cap, e, hr.mono hb⟩
theorem Roomed.sl {W : World} {B : Nat} {v : Value} {l : List UInt8} (h : Roomed W B v l) : Sl W v l := by
  obtain ⟨g, cap, rfl, hr⟩ := h
  have h1 := hr.sl.take l.length (by simp)
  rw [List.take_left] at h1
  exact h1
theorem row_cell {W : World} {B g n cap : Nat} {l : List UInt8} (h : Row W B (.slice (some ⟨g, 0, none⟩) n cap) l) (j : Nat) (hj : j < l.length) : W.cell? ⟨g, j, none⟩ = some (.int .u8 (l[j].toNat : Int)) := by
  obtain ⟨p, c, e, hbs⟩ := h.sl.ex
  obtain ⟨y, hy, hcy⟩ := hbs.at j (l[j]) (by simp)
  simp only [Value.slice.injEq] at e
  rw [← e.1] at hy
  cases hy
  rw [Addr.add_lit] at hcy
  simpa using hcy
theorem own_val {W : World} {B : Nat} {e : TypeId} {size : Nat} {v : Value} {n : Nat} {xs : List Value} (h : W.ownsRow B e size v n xs) : ∃ p c, v = .slice p n c := by
  rcases h.2 with ⟨e, e0⟩ | ⟨g, cap, cur, e, _⟩
  · exact ⟨none, 0, by rw [e0]; exact e⟩
  · exact ⟨_, _, e⟩
theorem row_fz {W : World} {B g n cap : Nat} {l : List UInt8} (h : Row W B (.slice (some ⟨g, 0, none⟩) n cap) l) (j : Nat) : W.frozen? ⟨g, j, none⟩ = false := by
  rcases h.2 with ⟨e, _⟩ | ⟨g', cap', cur, e, _, hg, _⟩
  · cases e
  · simp only [Value.slice.injEq, Option.some.injEq, Addr.mk.injEq] at e
    obtain ⟨⟨rfl, _⟩, _⟩ := e
    exact frozen_of_row W g j _ _ hg
theorem own_below {W W' : World} {B : Nat} {e : TypeId} {size : Nat} {v : Value} {n : Nat} {xs : List Value} (h : W.ownsRow B e size v n xs) (b : Below W.heap.size W W') : W'.ownsRow B e size v n xs := by
  refine ⟨h.1, ?_⟩
  rcases h.2 with h | ⟨g, cap, cur, rfl, h2, h3, h4⟩
  · exact .inl h
  · exact .inr ⟨g, cap, cur, rfl, h2, (b.block g (Array.getElem?_eq_some_iff.1 h3).1).trans h3, h4⟩
theorem grown_below {W0 W W' : World} {v : Value} {N : Nat} (h0 : Below N W0 W) (h : W.grownBy W' v.ownBlock) (hB : ∀ g, v.ownBlock = some g → N ≤ g) (hN : N ≤ W.heap.size) : Below N W0 W' :=
  h0.trans ⟨h.os, h.tape, h.output, h.size, fun k hk => h.block k (by omega) (fun e => by have := hB k e.symm; omega)⟩
theorem wp_append_slice (w : World) {o : Oper} {a : Act} {K : Act → World → Prop} {Q : Exit → Act → World → Prop} (s x : Operand)
    (ho : o.op = .call { callee := .builtin .append, args := #[s, x], argTypes := #[32, 32] }) (B : Nat) (v : Value) (k : Nat) (vals : List Value) (hs : a.eval s = v) (hown : w.ownsRow B 22 1 v k vals)
    (bt : Nat) (u : Value) (hu1 : u.oneCell' = true) (hx : a.eval x = .slice (some ⟨bt, 0, none⟩) 1 1) (hc : w.cell? ⟨bt, 0, none⟩ = some u) (hk : k ≤ 2097152) (hB : B ≤ w.heap.size)
    (h : ∀ v' w', w'.ownsRow B 22 1 v' (k + 1) (vals ++ [u]) → w.grownBy w' v.ownBlock → (v'.ownBlock = v.ownBlock ∨ ∀ g, v'.ownBlock = some g → w.heap.size ≤ g) → K (a.put o.dst v') w') : o.wp Try.prog a w K Q := by
  obtain ⟨i0, hi, hz0, hz1, hz2⟩ := info_parts info22
  obtain ⟨v', w', hr, h1, h2, h3, _⟩ := run_append_own2 (P := Try.prog) w 32 o.type B 22 i0 (.slice none 0 0) 1 24 Try.underlying32 hi hz0 hz1 hz2 rfl (by decide) v k vals hown ⟨bt, 0, none⟩ 1 1 [u] rfl (fun j y hj => by
    match j, hj with
    | 0, hj => simp at hj; subst hj; simp only [Addr.add, if_pos]; exact hc) (by intro y hy; simp at hy; subst hy; exact hu1) (by unfold maxLen; omega) (by omega) hB
  unfold Oper.wp execOp
  simp only [ho, resolve, invoke, builtin, Sem.run_bind, Sem.run_pure, Result.andThen_ok, List.map_toArray, List.map_cons, List.map_nil, hs, hx, hr]
  exact h v' w' h1 h2 h3
theorem wpList_append_slice (w : World) {ops : Array Oper} {rest : List Oper} {o : Oper} {a : Act} {Q : Exit → Act → World → Prop} (hgd : o.guard = none) (s x : Operand)
    (ho : o.op = .call { callee := .builtin .append, args := #[s, x], argTypes := #[32, 32] }) (B : Nat) (v : Value) (k : Nat) (vals : List Value) (hs : a.eval s = v) (hown : w.ownsRow B 22 1 v k vals)
    (bt : Nat) (u : Value) (hu1 : u.oneCell' = true) (hx : a.eval x = .slice (some ⟨bt, 0, none⟩) 1 1) (hc : w.cell? ⟨bt, 0, none⟩ = some u) (hk : k ≤ 2097152) (hB : B ≤ w.heap.size)
    (h : ∀ v' w', w'.ownsRow B 22 1 v' (k + 1) (vals ++ [u]) → w.grownBy w' v.ownBlock → (v'.ownBlock = v.ownBlock ∨ ∀ g, v'.ownBlock = some g → w.heap.size ≤ g) → wpList Try.prog ops Q rest (a.put o.dst v') w') : wpList Try.prog ops Q (o :: rest) a w :=
  wpList_plain hgd fun _ hK => wp_append_slice w s x ho B v k vals hs hown bt u hu1 hx hc hk hB fun v' w' h2 h3 h4 => hK _ _ (h v' w' h2 h3 h4)
def mrk (i : Nat) : UInt8 := by8 (i + 1)
def updF {α : Type} (f : Nat → α) (i : Nat) (x : α) : Nat → α := fun j => if j = i then x else f j
theorem updF_self {α : Type} (f : Nat → α) (i : Nat) (x : α) : updF f i x i = x := by simp [updF]
theorem updF_ne {α : Type} (f : Nat → α) (i j : Nat) (x : α) (h : j ≠ i) : updF f i x j = f j := by simp [updF, h]

/-- The lists while they are written over. -/
structure P1 (B bl n : Nat) (vals : Nat → Value) (len : Nat → Nat) (W0 W : World) (Ls : Nat → List UInt8) : Prop where
  below : Below B W0 W
  size : B ≤ W.heap.size
  cells : ∀ i, i < n → W.cell? ⟨bl, i, none⟩ = some (vals i)
  ty : ∃ arr, W.heap[bl]? = some (.cells arr 22 (0, 0))
  rows : ∀ i, i < n → Row W B (vals i) (Ls i)
  lens : ∀ i, i < n → (Ls i).length = len i
  sep : ∀ i j, i < n → j < n → i ≠ j → ∀ x, (vals i).ownBlock = some x → (vals j).ownBlock ≠ some x
theorem P1.ne {B bl n : Nat} {vals : Nat → Value} {len : Nat → Nat} {W0 W : World} {Ls : Nat → List UInt8} (h : P1 B bl n vals len W0 W Ls) (i : Nat) (hi : i < n) : (vals i).ownBlock ≠ some bl := by
  intro e
  obtain ⟨arr, ha⟩ := h.ty
  rcases (h.rows i hi).2 with ⟨e2, _⟩ | ⟨g, cap, cur, e2, _, hg, _⟩
  · rw [e2] at e; simp [Value.ownBlock] at e
  · rw [e2] at e; simp [Value.ownBlock] at e; subst e; rw [ha] at hg; simp at hg
theorem P1.store {B bl n : Nat} {vals : Nat → Value} {len : Nat → Nat} {W0 W : World} {Ls : Nat → List UInt8} (h : P1 B bl n vals len W0 W Ls) (i k g c : Nat) (hi : i < n) (hk : k < len i) (hv : vals i = .slice (some ⟨g, 0, none⟩) (len i) c) (b : UInt8) :
    P1 B bl n vals len W0 (W.setCell ⟨g, k, none⟩ (.int .u8 (b.toNat : Int))) (updF Ls i ((Ls i).set k b)) := by
  have hne := h.ne i hi
  have hgb : g ≠ bl := by rintro rfl; exact hne (by rw [hv]; rfl)
  have hlt := (h.rows i hi).lt g (by rw [hv]; rfl)
  refine ⟨h.below.setCell (p := ⟨g, k, none⟩) hlt.1 _, by simpa using h.size, fun j hj => ?_, ?_, fun j hj => ?_, fun j hj => ?_, h.sep⟩
  · rw [World.cell?_of_block (w := W) (heap_setCell_other W ⟨g, k, none⟩ bl _ (Ne.symm hgb))]; exact h.cells j hj
  · obtain ⟨arr, ha⟩ := h.ty
    exact ⟨arr, (heap_setCell_other W ⟨g, k, none⟩ bl _ (Ne.symm hgb)).trans ha⟩
  · by_cases e : j = i
    · subst e
      rw [updF_self, hv]
      have hr := h.rows j hi
      rw [hv] at hr
      exact row_store hr k (by rw [h.lens j hi]; exact hk) b
    · rw [updF_ne _ _ _ _ e]
      exact (h.rows j hj).kept fun x hx _ => heap_setCell_other W ⟨g, k, none⟩ x _ (by rintro rfl; exact h.sep j i hj hi e _ hx (by rw [hv]; rfl))
  · by_cases e : j = i
    · subst e; rw [updF_self, List.length_set]; exact h.lens j hj
    · rw [updF_ne _ _ _ _ e]; exact h.lens j hj

/-- The lists while they are appended to: cur is what each has become. -/
structure A3 (B B3 bl n : Nat) (vals cur : Nat → Value) (g len clen : Nat → Nat) (W0 W : World) : Prop where
  below : Below B W0 W
  bb : B ≤ B3
  size : B3 ≤ W.heap.size
  bls : bl < B3
  cells : ∀ i, i < n → W.cell? ⟨bl, i, none⟩ = some (vals i)
  rows : ∀ i, i < n → Row W B (cur i) (List.replicate (clen i) (mrk i))
  sep : ∀ i j, i < n → j < n → i ≠ j → ∀ x, (cur i).ownBlock = some x → (cur j).ownBlock ≠ some x
  ne : ∀ i, i < n → (cur i).ownBlock ≠ some bl
  orig : ∀ i, i < n → ∀ j, j < len i → W.cell? ⟨g i, j, none⟩ = some (.int .u8 ((mrk i).toNat : Int))
  glt : ∀ i, i < n → 0 < len i → g i < B3
  osep : ∀ i j, i < n → j < n → i ≠ j → 0 < len i → (cur j).ownBlock ≠ some (g i)
  oself : ∀ i, i < n → len i ≤ clen i
theorem A3.frame {B B3 bl n : Nat} {vals cur : Nat → Value} {g len clen : Nat → Nat} {W0 W W' : World} (h : A3 B B3 bl n vals cur g len clen W0 W) (k5 : K5 W W') (hb : ∀ k, k < B3 → W'.heap[k]? = W.heap[k]?) (hB : Below B W0 W') (hs : B3 ≤ W'.heap.size) : A3 B B3 bl n vals cur g len clen W0 W' :=
  ⟨hB, h.bb, hs, h.bls, fun i hi => by rw [World.cell?_of_block (w := W) (hb bl h.bls)]; exact h.cells i hi, fun i hi => (h.rows i hi).k5 k5, h.sep, h.ne,
    fun i hi j hj => by rw [World.cell?_of_block (w := W) (hb (g i) (h.glt i hi (by omega)))]; exact h.orig i hi j hj, h.glt, h.osep, h.oself⟩
theorem A3.app {B B3 bl n : Nat} {vals cur : Nat → Value} {g len clen : Nat → Nat} {W0 W W' : World} {v' : Value} (h : A3 B B3 bl n vals cur g len clen W0 W) (i : Nat) (hi : i < n) (hg : Grew W W' (cur i) v') (hr : Row W' B v' (List.replicate (clen i) (mrk i) ++ [mrk i])) :
    A3 B B3 bl n vals (updF cur i v') g len (updF clen i (clen i + 1)) W0 W' := by
  have hri := h.rows i hi
  have hsz := h.size
  have hbls := h.bls
  have hgl : ∀ j, j < n → 0 < len j → g j < W.heap.size := fun j hj hp => Nat.lt_of_lt_of_le (h.glt j hj hp) h.size
  refine ⟨h.below.trans (hg.below (fun x hx => (hri.lt x hx).1) (Nat.le_trans h.bb h.size)), h.bb, Nat.le_trans h.size hg.size, h.bls, fun j hj => ?_, fun j hj => ?_, fun a b ha hb hab x hx => ?_, fun j hj => ?_, fun j hj y hy => ?_, h.glt, fun a b ha hb hab hp => ?_, fun j hj => ?_⟩
  · rw [World.cell?_of_block (w := W) (hg.block bl (by omega) (fun e => h.ne i hi e.symm))]; exact h.cells j hj
  · by_cases e : j = i
    · subst e
      rw [updF_self, updF_self, List.replicate_succ']
      exact hr
    · rw [updF_ne _ _ _ _ e, updF_ne _ _ _ _ e]
      exact (h.rows j hj).kept fun x hx hlt => hg.block x hlt (fun e2 => h.sep j i hj hi e x hx e2.symm)
  · by_cases ea : a = i
    · subst ea
      rw [updF_self] at hx
      have eb : b ≠ a := fun e => hab e.symm
      rw [updF_ne _ _ _ _ eb]
      rcases hg.own with e | e
      · rw [e] at hx; exact h.sep a b ha hb hab x hx
      · intro e2
        have h1 := e x hx
        have h2 := ((h.rows b hb).lt x e2).2
        omega
    · rw [updF_ne _ _ _ _ ea] at hx
      by_cases eb : b = i
      · subst eb
        rw [updF_self]
        rcases hg.own with e | e
        · rw [e]; exact h.sep a b ha hb hab x hx
        · intro e2
          have h1 := e x e2
          have h2 := ((h.rows a ha).lt x hx).2
          omega
      · rw [updF_ne _ _ _ _ eb]; exact h.sep a b ha hb hab x hx
  · by_cases e : j = i
    · subst e
      rw [updF_self]
      rcases hg.own with e | e
      · rw [e]; exact h.ne j hj
      · intro e2; have := e bl e2; omega
    · rw [updF_ne _ _ _ _ e]; exact h.ne j hj
  · have hp : 0 < len j := by omega
    by_cases e : j = i
    · subst e
      by_cases eo : (cur j).ownBlock = some (g j)
      · rcases hg.stay with e | e
        · rw [eo] at e
          rcases hr.2 with ⟨e2, _⟩ | ⟨g', cap, cu, e2, _, hg', hcap, _, hcs, htk⟩
          · rw [e2] at e; simp [Value.ownBlock] at e
          · rw [e2] at e
            simp [Value.ownBlock] at e
            subst e
            rw [cell_of_any W' _ y _ _ _ hg']
            have hyl : y < clen j := Nat.lt_of_lt_of_le hy (h.oself j hj)
            have h1 : (cu.toList.take ((List.replicate (clen j) (mrk j) ++ [mrk j]).length * 1))[y]? = (bv (List.replicate (clen j) (mrk j) ++ [mrk j]))[y]? := by rw [htk]
            rw [List.getElem?_take, if_pos (by simp; omega)] at h1
            rw [← Array.getElem?_toList, h1]
            refine (bv_get _ y _).2 ⟨mrk j, ?_, rfl⟩
            rw [List.getElem?_append_left (by simpa using hyl)]
            simp [hyl]
        · rw [World.cell?_of_block (w := W) (e (g j) (hgl j hj hp))]; exact h.orig j hj y hy
      · rw [World.cell?_of_block (w := W) (hg.block (g j) (hgl j hj hp) (fun e => eo e.symm))]; exact h.orig j hj y hy
    · rw [World.cell?_of_block (w := W) (hg.block (g j) (hgl j hj hp) (fun e2 => h.osep j i hj hi e hp e2.symm))]; exact h.orig j hj y hy
  · by_cases e : b = i
    · subst e
      rw [updF_self]
      rcases hg.own with e | e
      · rw [e]; exact h.osep a b ha hb hab hp
      · intro e2; have h1 := e _ e2; have := hgl a ha hp; omega
    · rw [updF_ne _ _ _ _ e]; exact h.osep a b ha hb hab hp
  · by_cases e : j = i
    · subst e; rw [updF_self]; have := h.oself j hj; omega
    · rw [updF_ne _ _ _ _ e]; exact h.oself j hj
theorem mk_nat (i : Nat) (h : i < 200) : ((mrk i).toNat : Int) = (i : Int) + 1 := by
  unfold mrk; rw [by8_nat]; omega
theorem own5 {W W' : World} {B n : Nat} {v x x' : Value} {xs : List Value} {l : List UInt8} (h : W.ownsRow B 22 1 v n xs) (hx : ∃ B', Row W B' x l) (g : Grew W W' x x') : W'.ownsRow B 22 1 v n xs := by
  refine ⟨h.1, ?_⟩
  rcases h.2 with h | ⟨b, cap, cur, rfl, h2, h3, h4⟩
  · exact .inl h
  · refine .inr ⟨b, cap, cur, rfl, h2, (g.block b (Array.getElem?_eq_some_iff.1 h3).1 ?_).trans h3, h4⟩
    intro e
    obtain ⟨B', hr⟩ := hx
    rcases hr.2 with ⟨rfl, _⟩ | ⟨b', cap', cur', rfl, _, hb', _⟩
    · simp [Value.ownBlock] at e
    · simp [Value.ownBlock] at e; subst e; rw [h3] at hb'; simp at hb'

theorem updF_updF {α : Type} (f : Nat → α) (i : Nat) (x y : α) : updF (updF f i x) i y = updF f i y := by
  funext j; by_cases e : j = i <;> simp [updF, e]
set_option maxHeartbeats 4000000 in
set_option maxRecDepth 100000 in
theorem apart_any (B bl n : Nat) (hn : n ≤ 100) (vals : Nat → Value) (len : Nat → Nat) (Ls : Nat → List UInt8) (W : World) (h : P1 B bl n vals len W W Ls) (hlen : ∀ i, i < n → len i + 200 ≤ room) :
    Calls Try.prog 11 #[.slice (some ⟨bl, 0, none⟩) n n] W fun r w' => r = .returned (.bool true) ∧ Below B W w' := by
  have hv : ∀ i, i < n → ∃ p c g, vals i = .slice p (len i) c ∧ (0 < len i → p = some ⟨g, 0, none⟩) := fun i hi => by
    have hr := h.rows i hi
    have hl := h.lens i hi
    rcases hr.2 with ⟨e, e0⟩ | ⟨g, cap, cur, e, _⟩
    · exact ⟨none, 0, 0, by rw [e]; congr 1; omega, fun hp => by omega⟩
    · exact ⟨_, cap, g, by rw [e, hl], fun _ => rfl⟩
  obtain ⟨pv, hpv⟩ := Deep.choose_lt hv
  obtain ⟨cv, hcv⟩ := Deep.choose_lt hpv
  obtain ⟨g, hg⟩ := Deep.choose_lt hcv
  clear hv hpv hcv
  have HV : Hid _ := hg
  have H0 : Hid _ := h
  have HL : Hid _ := hlen
  clear hg h hlen
  go_enter Try.func11, Try.ntmps11
  go_wp2
  go_loopw [3] (fun i wr => ∃ (k : Nat) (Ls : Nat → List UInt8), k ≤ n ∧ i = .int .i64 (k : Int) ∧ P1 B bl n vals len W wr Ls ∧ ∀ a, a < k → ∀ j, j < len a → (Ls a)[j]? = some (mrk a)) (fun i _ => n - (intOf i).toNat)
  case atStart => exact ⟨0, Ls, by omega, rfl, H0.out, fun a ha => by omega⟩
  case round =>
    clear H0
    obtain ⟨k, Ls, hk, rfl, hP, hmk⟩ := hrel
    by_cases hlt : k < n
    · have i1 : (k : Int) < n := by omega
      have hc := hP.cells k hlt
      obtain ⟨ev, eg⟩ := HV.out k hlt
      have hLk := HL.out k hlt
      unfold room at hLk
      rw [ev] at hc
      have HP : Hid _ := hP
      have HM : Hid _ := hmk
      clear hP hmk
      go_wp2
      go_loopw [4] (fun j w3 => ∃ (y : Nat) (Ls : Nat → List UInt8), y ≤ len k ∧ j = .int .i64 (y : Int) ∧ P1 B bl n vals len W w3 Ls ∧ (∀ a, a < k → ∀ j, j < len a → (Ls a)[j]? = some (mrk a)) ∧ ∀ j, j < y → (Ls k)[j]? = some (mrk k)) (fun j _ => len k - (intOf j).toNat)
      case atStart => exact ⟨0, Ls, by omega, rfl, HP.out, HM.out, fun j hj => by omega⟩
      case round =>
        clear HP HM hc
        obtain ⟨y, Ls, hy, rfl, hP, hmk, hmy⟩ := hrel
        by_cases hyl : y < len k
        · have i2 : (y : Int) < len k := by omega
          have hc := hP.cells k hlt
          rw [ev, eg (by omega)] at hc
          have hrow := hP.rows k hlt
          have hll := hP.lens k hlt
          rw [ev, eg (by omega)] at hrow
          have hcell := row_cell hrow y (by omega)
          have hfz := row_fz hrow y
          have hst := hP.store k y (g k) (cv k) hlt hyl (by rw [ev, eg (by omega)]) (mrk k)
          have hmn := mk_nat k (by omega)
          rw [hmn] at hst
          have hnew1 : ∀ a, a < k → ∀ j, j < len a → (updF Ls k ((Ls k).set y (mrk k)) a)[j]? = some (mrk a) := fun a ha j hj => by
            rw [updF_ne _ _ _ _ (by omega)]; exact hmk a ha j hj
          have hnew2 : ∀ j, j < y + 1 → (updF Ls k ((Ls k).set y (mrk k)) k)[j]? = some (mrk k) := fun j hj => by
            rw [updF_self, List.getElem?_set]
            by_cases e : y = j
            · rw [if_pos e, if_pos (by omega)]
            · rw [if_neg e]; exact hmy j (by omega)
          have e250 : (k : Int) % 250 = k := by omega
          generalize (Ls k)[y].toNat = old at *
          have HS : Hid _ := hst
          have HN1 : Hid _ := hnew1
          have HN2 : Hid _ := hnew2
          clear hst hnew1 hnew2 hmk hmy hP hrow ev eg
          go_wp2
          go_roundw
          case rel =>
            first
              | exact ⟨y + 1, _, by omega, by go_num, HS.out, HN1.out, HN2.out⟩
              | ((repeat apply Exists.intro); refine ⟨⟨y + 1, _, by omega, ?_, HS.out, HN1.out, HN2.out⟩, rfl⟩; go_num)
          case measure => simp [intOf]; omega
        · obtain rfl : y = len k := by omega
          have hc := hP.cells k hlt
          rw [ev] at hc
          have hmk2 : ∀ a, a < k + 1 → ∀ j, j < len a → (Ls a)[j]? = some (mrk a) := fun a ha j hj => by
            by_cases e : a = k
            · subst e; exact hmy j hj
            · exact hmk a (by omega) j hj
          have HP : Hid _ := hP
          have HM : Hid _ := hmk2
          clear hP hmk hmk2 hmy
          go_wp2
          go_roundw
          case rel =>
            first
              | exact ⟨k + 1, _, by omega, by go_num, HP.out, HM.out⟩
              | ((repeat apply Exists.intro); refine ⟨⟨k + 1, _, by omega, ?_, HP.out, HM.out⟩, rfl⟩; go_num)
          case measure => simp [intOf]; omega
    · obtain rfl : k = n := by omega
      have hA : A3 B wr.heap.size bl k vals vals g len len W wr := by
        refine ⟨hP.below, hP.size, Nat.le_refl _, ?_, hP.cells, fun i hi => ?_, hP.sep, hP.ne, fun i hi j hj => ?_, fun i hi hp => ?_, fun a b ha hb hab hp => ?_, fun i hi => Nat.le_refl _⟩
        · obtain ⟨arr, ha⟩ := hP.ty
          exact (Array.getElem?_eq_some_iff.1 ha).1
        · have := hP.rows i hi
          have e : Ls i = List.replicate (len i) (mrk i) := by
            apply List.ext_getElem?
            intro j
            by_cases hj : j < len i
            · rw [hmk i hi j hj]; simp [hj]
            · rw [List.getElem?_eq_none (by rw [hP.lens i hi]; omega), List.getElem?_eq_none (by simp; omega)]
          rw [← e]; exact this
        · obtain ⟨ev, eg⟩ := HV.out i hi
          have hrow := hP.rows i hi
          have hll := hP.lens i hi
          rw [ev, eg (by omega)] at hrow
          rw [row_cell hrow j (by omega)]
          have := hmk i hi j hj
          rw [List.getElem?_eq_getElem (by omega)] at this
          simp at this
          rw [this]
        · obtain ⟨ev, eg⟩ := HV.out i hi
          have hrow := hP.rows i hi
          rw [ev, eg hp] at hrow
          exact (hrow.lt (g i) rfl).2
        · obtain ⟨ev, eg⟩ := HV.out a ha
          exact hP.sep a b ha hb hab (g a) (by rw [ev, eg hp]; rfl)
      have HA : Hid _ := hA
      clear hA hP hmk
      generalize hB3 : wr.heap.size = B3 at *
      have hB3' : B3 ≤ wr.heap.size := by omega
      go_wp2
      go_loopw [5, 6] (fun vl i w3 => ∃ (a : Nat) (cur : Nat → Value) (xs : List Value), a ≤ k ∧ i = .int .i64 (a : Int) ∧ w3.ownsRow B3 22 1 vl a xs ∧ A3 B B3 bl k vals cur g len (fun j => if j < a then len j + 80 else len j) W w3 ∧ (∀ j, j < a → xs[j]? = some (cur j)) ∧ ∀ j, a ≤ j → cur j = vals j) (fun _ i _ => k - (intOf i).toNat)
      case atStart => exact ⟨0, vals, [], by omega, rfl, World.ownsRow_nil _ _ _ _, by simpa using HA.out, fun j hj => by omega, fun j _ => rfl⟩
      case round =>
        clear HA hB3
        obtain ⟨a, cur, xs, ha, rfl, hown, hA, hxs, hcur⟩ := hrel
        obtain ⟨pl, cl, hvl⟩ := own_val hown
        subst hvl
        by_cases hlt2 : a < k
        · have i1 : (a : Int) < k := by omega
          have hc := hA.cells a hlt2
          obtain ⟨ev, eg⟩ := HV.out a hlt2
          have hva : cur a = vals a := hcur a (Nat.le_refl _)
          rw [ev] at hc
          have hLk := HL.out a hlt2
          have HX : Hid _ := hxs
          have HC : Hid _ := hcur
          have HO : Hid _ := hown
          have HA : Hid _ := hA
          clear hxs hcur hown hA
          have hstart : A3 B B3 bl k vals (updF cur a (.slice (pv a) (len a) (cv a))) g len (updF (fun j => if j < a then len j + 80 else len j) a (len a + 0)) W wr := by
            have e1 : updF cur a (.slice (pv a) (len a) (cv a)) = cur := by
              funext j; by_cases e : j = a
              · subst e; rw [updF_self, hva, ev]
              · rw [updF_ne _ _ _ _ e]
            have e2 : updF (fun j => if j < a then len j + 80 else len j) a (len a + 0) = (fun j => if j < a then len j + 80 else len j) := by
              funext j; by_cases e : j = a
              · subst e; rw [updF_self]; simp
              · rw [updF_ne _ _ _ _ e]
            rw [e1, e2]; exact HA.out
          have HS : Hid _ := hstart
          clear hstart
          go_wp2
          go_loopw [7, 8] (fun x j w5 => ∃ y : Nat, y ≤ 80 ∧ j = .int .i64 (y : Int) ∧ w5.ownsRow B3 22 1 (.slice pl a cl) a xs ∧ A3 B B3 bl k vals (updF cur a x) g len (updF (fun j => if j < a then len j + 80 else len j) a (len a + y)) W w5) (fun _ j _ => 80 - (intOf j).toNat)
          case atStart => exact ⟨0, by omega, rfl, HO.out, HS.out⟩
          case round =>
            clear HO HS HA hc
            obtain ⟨y, hy, rfl, hown, hA⟩ := hrel
            have hri := hA.rows a hlt2
            rw [updF_self, updF_self] at hri
            have hBz : B ≤ wr.heap.size := Nat.le_trans hA.bb hA.size
            have hz3 := hA.size
            by_cases hy1 : y < 80
            · have i2 : (y : Int) < 80 := by omega
              obtain ⟨hs1, hb1⟩ := row1 wr (mrk a)
              rw [mk_nat a (by omega)] at hs1 hb1
              have hA1 := hA.frame (K5.below hb1) (fun k hk => hb1.block k (by omega)) (hA.below.trans (hb1.mono hBz)) (Nat.le_trans hz3 hb1.size)
              have hown1 := own_below hown hb1
              have hri1 := hri.below hb1
              have e250 : (a : Int) % 250 = a := by omega
              have HA1 : Hid _ := hA1
              have HO1 : Hid _ := hown1
              clear hA1 hown1 hA hown
              go_wp2_with (first | (at_builtin; refine wpList_append_bytes _ rfl _ _ rfl B _ _ rfl hri1 _ [mrk a] rfl hs1 (by simp; omega) (Nat.le_trans hBz hb1.size) ?_))
              intro v' w' hr' hg'
              have hA2 := HA1.out.app a hlt2 (v' := v') (by rw [updF_self]; exact hg') (by rw [updF_self]; exact hr')
              rw [updF_updF, updF_updF, updF_self] at hA2
              have hown2 := own5 HO1.out ⟨B, hri1⟩ hg'
              have HA2 : Hid _ := hA2
              have HO2 : Hid _ := hown2
              clear hA2 hown2 HA1 HO1 hr' hg' hri hri1 hs1 hb1
              go_wp2
              go_roundw
              case rel =>
                first
                  | exact ⟨y + 1, by omega, by go_num, HO2.out, HA2.out⟩
                  | ((repeat apply Exists.intro); refine ⟨⟨y + 1, by omega, ?_, HO2.out, HA2.out⟩, rfl⟩; go_num)
              case measure => simp [intOf]; omega
            · obtain rfl : y = 80 := by omega
              obtain ⟨px, cx, hxe, _⟩ := hri.sl.ex
              rw [List.length_replicate] at hxe
              subst hxe
              have hal : Below wr.heap.size wr (wr.alloc (.cells #[.slice px (len a + 80) cx] 22)) := (Below.refl _ _).alloc (Nat.le_refl _) _
              have hcell : (wr.alloc (.cells #[.slice px (len a + 80) cx] 22)).cell? ⟨wr.heap.size, 0, none⟩ = some (.slice px (len a + 80) cx) := cell_of_any _ _ 0 _ _ _ (heap_alloc_any wr _)
              have hA1 := hA.frame (K5.below hal) (fun k hk => hal.block k (by omega)) (hA.below.trans (hal.mono hBz)) (Nat.le_trans hz3 hal.size)
              have hown1 := own_below hown hal
              have hz4 := Nat.le_trans hz3 hal.size
              have hxl : xs.length = a := by have := hown.1; simpa using this
              have HA1 : Hid _ := hA1
              clear hA1 hA hown
              go_wp2_with (first | (at_builtin; refine wpList_append_slice _ rfl _ _ rfl B3 _ a xs rfl hown1 wr.heap.size (.slice px (len a + 80) cx) rfl rfl hcell (by omega) hz4 ?_))
              intro v' w' hr1 hr2 hr3
              have hA2 := HA1.out.frame (K5.grown hown1 hr2) (fun k hk => hr2.block k (by omega) (fun e => by have := (hown1.lt k e.symm).1; omega)) (grown_below HA1.out.below hr2 (fun x hx => Nat.le_trans HA1.out.bb (hown1.lt x hx).1) (Nat.le_trans HA1.out.bb hz4)) (Nat.le_trans hz4 hr2.size)
              have ecl : updF (fun j => if j < a then len j + 80 else len j) a (len a + 80) = (fun j => if j < a + 1 then len j + 80 else len j) := by
                funext j
                by_cases e : j = a
                · subst e; rw [updF_self]; simp
                · rw [updF_ne _ _ _ _ e]
                  by_cases e2 : j < a
                  · have : j < a + 1 := by omega
                    simp [e2, this]
                  · have : ¬ j < a + 1 := by omega
                    simp [e2, this]
              rw [ecl] at hA2
              have hxs2 : ∀ j, j < a + 1 → (xs ++ [.slice px (len a + 80) cx])[j]? = some (updF cur a (.slice px (len a + 80) cx) j) := fun j hj => by
                by_cases e : j = a
                · subst e; rw [updF_self, List.getElem?_append_right (by omega)]; simp [hxl]
                · rw [updF_ne _ _ _ _ e, List.getElem?_append_left (by omega)]; exact HX.out j (by omega)
              have hcur2 : ∀ j, a + 1 ≤ j → updF cur a (.slice px (len a + 80) cx) j = vals j := fun j hj => by
                rw [updF_ne _ _ _ _ (by omega)]; exact HC.out j (by omega)
              have HA2 : Hid _ := hA2
              have HO2 : Hid _ := hr1
              have HX2 : Hid _ := hxs2
              have HC2 : Hid _ := hcur2
              clear hA2 hr1 hxs2 hcur2 HX HC hr2 hr3 HA1 hown1 hri hcell hal
              go_wp2
              go_roundw
              case rel =>
                first
                  | exact ⟨a + 1, _, _, by omega, by go_num, HO2.out, HA2.out, HX2.out, HC2.out⟩
                  | ((repeat apply Exists.intro); refine ⟨⟨a + 1, _, _, by omega, ?_, HO2.out, HA2.out, HX2.out, HC2.out⟩, rfl⟩; go_num)
              case measure => simp [intOf]; omega
        · obtain rfl : a = k := by omega
          have HX : Hid _ := hxs
          have HO : Hid _ := hown
          have HA : Hid _ := hA
          clear hxs hown hA hcur
          go_wp2
          go_loopw [9] (fun i w3 => ∃ b : Nat, b ≤ a ∧ i = .int .i64 (b : Int) ∧ w3 = wr) (fun i _ => a - (intOf i).toNat)
          case atStart => exact ⟨0, by omega, rfl, rfl⟩
          case round =>
            obtain ⟨b, hb, rfl, rfl⟩ := hrel
            by_cases hlt3 : b < a
            · have i1 : (b : Int) < a := by omega
              obtain ⟨gl, cl', hle⟩ := own_pos HO.out (by omega)
              simp only [Value.slice.injEq] at hle
              obtain ⟨rfl, _, rfl⟩ := hle
              have hcl : wr.cell? ⟨gl, b, none⟩ = some (cur b) := by
                have := World.ownsRow.cells HO.out (g := gl) rfl b _ (HX.out b hlt3)
                rw [Addr.add_lit] at this
                simpa using this
              have hri := HA.out.rows b hlt3
              simp only [if_pos hlt3] at hri
              obtain ⟨gx, cx, hxe⟩ := own_pos hri (by simp)
              rw [List.length_replicate] at hxe
              rw [hxe] at hri hcl
              have hc := HA.out.cells b hlt3
              obtain ⟨ev, eg⟩ := HV.out b hlt3
              rw [ev] at hc
              have hLk := HL.out b hlt3
              unfold room at hLk
              have hmn := mk_nat b (by omega)
              have hcy : ∀ y, y < len b + 80 → wr.cell? ⟨gx, y, none⟩ = some (.int .u8 ((b : Int) + 1)) := fun y hy => by
                rw [row_cell hri y (by simpa using hy)]; simp [hmn]
              have hoy : ∀ y, y < len b → wr.cell? ⟨g b, y, none⟩ = some (.int .u8 ((b : Int) + 1)) := fun y hy => by
                rw [HA.out.orig b hlt3 y hy, hmn]
              have HCY : Hid _ := hcy
              have HOY : Hid _ := hoy
              clear hcy hoy hri ev hmn
              have e250 : (b : Int) % 250 = b := by omega
              go_wp2
              go_loopw [10] (fun j w5 => ∃ y : Nat, y ≤ len b + 80 ∧ j = .int .i64 (y : Int) ∧ w5 = wr) (fun j _ => len b + 80 - (intOf j).toNat)
              case atStart => exact ⟨0, by omega, rfl, rfl⟩
              case round =>
                obtain ⟨y, hy, rfl, rfl⟩ := hrel
                by_cases hyl : y < len b + 80
                · have i2 : (y : Int) < len b + 80 := by omega
                  have hcy := HCY.out y hyl
                  by_cases hyo : y < len b
                  · have i3 : (y : Int) < len b := by omega
                    have hoy := HOY.out y hyo
                    have hpe := eg (by omega)
                    rw [hpe] at hc
                    clear eg
                    go_wp2
                    go_roundw
                    case rel => exact ⟨y + 1, by omega, by go_num, by trivial⟩
                    case measure => simp [intOf]; omega
                  · have i3 : decide ((y : Int) < (len b : Int)) = false := by simp; omega
                    clear eg
                    go_wp2
                    go_roundw
                    case rel => exact ⟨y + 1, by omega, by go_num, by trivial⟩
                    case measure => simp [intOf]; omega
                · obtain rfl : y = len b + 80 := by omega
                  have i2 : ¬ ((len b + 80 : Nat) : Int) < (len b : Int) + 80 := by omega
                  go_wp2
                  go_roundw
                  case rel => exact ⟨b + 1, by omega, by go_num, by trivial⟩
                  case measure => simp [intOf]; omega
            · obtain rfl : b = a := by omega
              go_wp2
              go_ret
              exact ⟨rfl, HA.out.below⟩
end Go.Proofs.Ytlljelfplffglab.K
