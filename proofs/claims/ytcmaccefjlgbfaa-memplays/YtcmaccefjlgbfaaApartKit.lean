import Derived.Test.YtcmaccefjlgbfaaOwn
import Derived.Deep.Slices
/-! The statement's own test that lists share no room. -/
namespace Go.Proofs.Ytcmaccefjlgbfaa
open Go.RowKit
open Go.Proofs
set_option linter.unusedVariables false
set_option linter.unusedSimpArgs false
theorem infoB : (Try.prog.info? 35).map (fun i => (i.zero, i.size, i.bytes)) = some (some (.slice none 0 0), 1, 24) := by kernel_rfl
def by8 (x : Nat) : UInt8 := UInt8.ofNat x
theorem by8_nat (x : Nat) : (by8 x).toNat = x % 256 := by simp [by8]
theorem row_cell {W : World} {B g n cap : Nat} {l : List UInt8} (h : Row W B (.slice (some ⟨g, 0, none⟩) n cap) l) (j : Nat) (hj : j < l.length) : W.cell? ⟨g, j, none⟩ = some (.int .u8 (l[j].toNat : Int)) := by
  have := World.ownsRow.cells h (g := g) rfl j _ ((bv_get l j _).2 ⟨l[j], List.getElem?_eq_getElem hj, rfl⟩)
  rw [Addr.add_lit] at this
  simpa using this
theorem row_fz {W : World} {B g n cap : Nat} {l : List UInt8} (h : Row W B (.slice (some ⟨g, 0, none⟩) n cap) l) (j : Nat) : W.frozen? ⟨g, j, none⟩ = false := by
  rcases h.2 with ⟨e, _⟩ | ⟨g', cap', cur, e, _, hg, _⟩
  · cases e
  · simp only [Value.slice.injEq, Option.some.injEq, Addr.mk.injEq] at e
    obtain ⟨⟨rfl, _⟩, _⟩ := e
    exact frozen_of_row W g j _ _ hg
theorem row_store {W : World} {B g n cap : Nat} {l : List UInt8} (h : Row W B (.slice (some ⟨g, 0, none⟩) n cap) l) (j : Nat) (hj : j < l.length) (b : UInt8) : Row (W.setCell ⟨g, j, none⟩ (.int .u8 (b.toNat : Int))) B (.slice (some ⟨g, 0, none⟩) n cap) (l.set j b) := by
  refine ⟨by simp [bv], ?_⟩
  rcases h.2 with ⟨e, _⟩ | ⟨g', cap', cur, e, hB, hg, h1, h2, h3, h4⟩
  · cases e
  · simp only [Value.slice.injEq, Option.some.injEq, Addr.mk.injEq] at e
    obtain ⟨⟨rfl, _⟩, rfl, rfl⟩ := e
    refine .inr ⟨g, cap, cur.setIfInBounds j (.int .u8 (b.toNat : Int)), by simp, hB, heap_setCell_same W g j _ _ _ hg, by simpa using h1, h2, by simpa using h3, ?_⟩
    rw [Array.toList_setIfInBounds, List.length_set, List.take_set, h4]
    simp [bv, List.map_set]
def K5 (W W' : World) : Prop := ∀ (b : Nat) (cs : Array Value) (fr : Nat × Nat), W.heap[b]? = some (.cells cs 5 fr) → W'.heap[b]? = some (.cells cs 5 fr)
theorem K5.below {W W' : World} (b : Below W.heap.size W W') : K5 W W' := fun x _ _ e => (b.block x (Array.getElem?_eq_some_iff.1 e).1).trans e
theorem K5.grown {W W' : World} {v v' : Value} {B n : Nat} {xs : List Value} (h : W.ownsRow B 35 1 v n xs) (g : Grew W W' v v') : K5 W W' := fun b cs fr e => by
  refine (g.block b (Array.getElem?_eq_some_iff.1 e).1 ?_).trans e
  intro hb
  rcases h.2 with ⟨rfl, _⟩ | ⟨x, cap, cur, rfl, _, hx, _⟩
  · simp [Value.ownBlock] at hb
  · simp [Value.ownBlock] at hb
    subst hb
    rw [hx] at e; simp at e
theorem Row.k5 {W W' : World} {B : Nat} {v : Value} {l : List UInt8} (h : Row W B v l) (k : K5 W W') : Row W' B v l := by
  refine ⟨h.1, ?_⟩
  rcases h.2 with h | ⟨g, cap, cur, rfl, h2, h3, h4⟩
  · exact .inl h
  · exact .inr ⟨g, cap, cur, rfl, h2, k g cur _ h3, h4⟩
theorem grown_below {W0 W W' : World} {v v' : Value} {N : Nat} (h0 : Below N W0 W) (h : Grew W W' v v') (hB : ∀ g, v.ownBlock = some g → N ≤ g) (hN : N ≤ W.heap.size) : Below N W0 W' := h0.trans (h.below hB hN)
theorem own_val {W : World} {B : Nat} {e : TypeId} {size : Nat} {v : Value} {n : Nat} {xs : List Value} (h : W.ownsRow B e size v n xs) : ∃ p c, v = .slice p n c := by
  rcases h.2 with ⟨e, e0⟩ | ⟨g, cap, cur, e, _⟩
  · exact ⟨none, 0, by rw [e0]; exact e⟩
  · exact ⟨_, _, e⟩
theorem own_below {W W' : World} {B : Nat} {e : TypeId} {size : Nat} {v : Value} {n : Nat} {xs : List Value} (h : W.ownsRow B e size v n xs) (b : Below W.heap.size W W') : W'.ownsRow B e size v n xs := by
  refine ⟨h.1, ?_⟩
  rcases h.2 with h | ⟨g, cap, cur, rfl, h2, h3, h4⟩
  · exact .inl h
  · exact .inr ⟨g, cap, cur, rfl, h2, (b.block g (Array.getElem?_eq_some_iff.1 h3).1).trans h3, h4⟩
theorem row1 (W : World) (x : UInt8) : Sl (W.alloc (.cells #[.int .u8 (x.toNat : Int)] 5)) (.slice (some ⟨W.heap.size, 0, none⟩) 1 1) [x] ∧ Below W.heap.size W (W.alloc (.cells #[.int .u8 (x.toNat : Int)] 5)) :=
  ⟨(row_of_alloc W W.heap.size (Nat.le_refl _) [x] (by simp [maxLen])).sl, (Below.refl _ _).alloc (Nat.le_refl _) _⟩
theorem cell_of_any (w : World) (b j : Nat) (cs : Array Value) (t : TypeId) (fr : Nat × Nat) (h : w.heap[b]? = some (.cells cs t fr)) : w.cell? ⟨b, j, none⟩ = cs[j]? := by simp [World.cell?, h]
def mrk2 (i : Nat) : UInt8 := by8 (i + 101)
def two (i n m : Nat) : List UInt8 := List.replicate n (by8 (i + 1)) ++ List.replicate m (mrk2 i)
theorem two_len (i n m : Nat) : (two i n m).length = n + m := by simp [two]
theorem two_succ (i n m : Nat) : two i n (m + 1) = two i n m ++ [mrk2 i] := by unfold two; rw [List.replicate_succ', List.append_assoc]
theorem two_lo (i n m j : Nat) (h : j < n) : (two i n m)[j]? = some (by8 (i + 1)) := by unfold two; rw [List.getElem?_append_left (by simpa using h)]; simp [h]
theorem two_hi (i n m j : Nat) (h : n ≤ j) (h2 : j < n + m) : (two i n m)[j]? = some (mrk2 i) := by unfold two; rw [List.getElem?_append_right (by simpa using h), List.length_replicate, List.getElem?_replicate, if_pos (by omega)]
def mrk (i : Nat) : UInt8 := by8 (i + 1)
def updF {α : Type} (f : Nat → α) (i : Nat) (x : α) : Nat → α := fun j => if j = i then x else f j
theorem updF_self {α : Type} (f : Nat → α) (i : Nat) (x : α) : updF f i x i = x := by simp [updF]
theorem updF_ne {α : Type} (f : Nat → α) (i j : Nat) (x : α) (h : j ≠ i) : updF f i x j = f j := by simp [updF, h]

/-- The lists while they are written over. -/
structure P1 (B bl n : Nat) (vals : Nat → Value) (len : Nat → Nat) (W0 W : World) (Ls : Nat → List UInt8) : Prop where
  below : Below B W0 W
  size : B ≤ W.heap.size
  cells : ∀ i, i < n → W.cell? ⟨bl, i, none⟩ = some (vals i)
  ty : ∃ arr, W.heap[bl]? = some (.cells arr 35 (0, 0))
  rows : ∀ i, i < n → Row W B (vals i) (Ls i)
  lens : ∀ i, i < n → (Ls i).length = len i
  sep : ∀ i j, i < n → j < n → i ≠ j → ∀ x, (vals i).ownBlock = some x → (vals j).ownBlock ≠ some x
theorem P1.ne {B bl n : Nat} {vals : Nat → Value} {len : Nat → Nat} {W0 W : World} {Ls : Nat → List UInt8} (h : P1 B bl n vals len W0 W Ls) (i : Nat) (hi : i < n) : (vals i).ownBlock ≠ some bl := by
  intro e
  obtain ⟨arr, ha⟩ := h.ty
  rcases (h.rows i hi).2 with ⟨e2, _⟩ | ⟨g, cap, cur, e2, _, hg, _⟩
  · rw [e2] at e; simp [Value.ownBlock] at e
  · rw [e2] at e; simp [Value.ownBlock] at e; subst e; rw [ha] at hg; simp at hg
theorem P1.store {B bl n : Nat} {vals : Nat → Value} {len : Nat → Nat} {W0 W : World} {Ls : Nat → List UInt8} (h : P1 B bl n vals len W0 W Ls) (i k g c : Nat) (hi : i < n) (hk : k < len i) (hv : vals i = .slice (some ⟨g, 0, none⟩) (len i) c) (b : UInt8) :
    P1 B bl n vals len W0 (W.setCell ⟨g, k, none⟩ (.int .u8 (b.toNat : Int))) (updF Ls i ((Ls i).set k b)) := by
  have hne := h.ne i hi
  have hgb : g ≠ bl := by rintro rfl; exact hne (by rw [hv]; rfl)
  have hlt := (h.rows i hi).lt g (by rw [hv]; rfl)
  refine ⟨h.below.setCell (p := ⟨g, k, none⟩) hlt.1 _, by simpa using h.size, fun j hj => ?_, ?_, fun j hj => ?_, fun j hj => ?_, h.sep⟩
  · rw [World.cell?_of_block (w := W) (heap_setCell_other W ⟨g, k, none⟩ bl _ (Ne.symm hgb))]; exact h.cells j hj
  · obtain ⟨arr, ha⟩ := h.ty
    exact ⟨arr, (heap_setCell_other W ⟨g, k, none⟩ bl _ (Ne.symm hgb)).trans ha⟩
  · by_cases e : j = i
    · subst e
      rw [updF_self, hv]
      have hr := h.rows j hi
      rw [hv] at hr
      exact row_store hr k (by rw [h.lens j hi]; exact hk) b
    · rw [updF_ne _ _ _ _ e]
      exact (h.rows j hj).kept fun x hx _ => heap_setCell_other W ⟨g, k, none⟩ x _ (by rintro rfl; exact h.sep j i hj hi e _ hx (by rw [hv]; rfl))
  · by_cases e : j = i
    · subst e; rw [updF_self, List.length_set]; exact h.lens j hj
    · rw [updF_ne _ _ _ _ e]; exact h.lens j hj

/-- The lists while they are appended to: cur is what each has become. -/
structure A3 (B B3 bl n : Nat) (vals cur : Nat → Value) (g len clen : Nat → Nat) (W0 W : World) : Prop where
  below : Below B W0 W
  bb : B ≤ B3
  size : B3 ≤ W.heap.size
  bls : bl < B3
  cells : ∀ i, i < n → W.cell? ⟨bl, i, none⟩ = some (vals i)
  rows : ∀ i, i < n → Row W B (cur i) (two i (len i) (clen i))
  sep : ∀ i j, i < n → j < n → i ≠ j → ∀ x, (cur i).ownBlock = some x → (cur j).ownBlock ≠ some x
  ne : ∀ i, i < n → (cur i).ownBlock ≠ some bl
  orig : ∀ i, i < n → ∀ j, j < len i → W.cell? ⟨g i, j, none⟩ = some (.int .u8 ((mrk i).toNat : Int))
  glt : ∀ i, i < n → 0 < len i → g i < B3
  osep : ∀ i j, i < n → j < n → i ≠ j → 0 < len i → (cur j).ownBlock ≠ some (g i)
theorem A3.frame {B B3 bl n : Nat} {vals cur : Nat → Value} {g len clen : Nat → Nat} {W0 W W' : World} (h : A3 B B3 bl n vals cur g len clen W0 W) (k5 : K5 W W') (hb : ∀ k, k < B3 → W'.heap[k]? = W.heap[k]?) (hB : Below B W0 W') (hs : B3 ≤ W'.heap.size) : A3 B B3 bl n vals cur g len clen W0 W' :=
  ⟨hB, h.bb, hs, h.bls, fun i hi => by rw [World.cell?_of_block (w := W) (hb bl h.bls)]; exact h.cells i hi, fun i hi => (h.rows i hi).k5 k5, h.sep, h.ne,
    fun i hi j hj => by rw [World.cell?_of_block (w := W) (hb (g i) (h.glt i hi (by omega)))]; exact h.orig i hi j hj, h.glt, h.osep⟩
theorem A3.app {B B3 bl n : Nat} {vals cur : Nat → Value} {g len clen : Nat → Nat} {W0 W W' : World} {v' : Value} (h : A3 B B3 bl n vals cur g len clen W0 W) (i : Nat) (hi : i < n) (hg : Grew W W' (cur i) v') (hr : Row W' B v' (two i (len i) (clen i) ++ [mrk2 i])) :
    A3 B B3 bl n vals (updF cur i v') g len (updF clen i (clen i + 1)) W0 W' := by
  have hri := h.rows i hi
  have hsz := h.size
  have hbls := h.bls
  have hgl : ∀ j, j < n → 0 < len j → g j < W.heap.size := fun j hj hp => Nat.lt_of_lt_of_le (h.glt j hj hp) h.size
  refine ⟨h.below.trans (hg.below (fun x hx => (hri.lt x hx).1) (Nat.le_trans h.bb h.size)), h.bb, Nat.le_trans h.size hg.size, h.bls, fun j hj => ?_, fun j hj => ?_, fun a b ha hb hab x hx => ?_, fun j hj => ?_, fun j hj y hy => ?_, h.glt, fun a b ha hb hab hp => ?_⟩
  · rw [World.cell?_of_block (w := W) (hg.block bl (by omega) (fun e => h.ne i hi e.symm))]; exact h.cells j hj
  · by_cases e : j = i
    · subst e
      rw [updF_self, updF_self, two_succ]
      exact hr
    · rw [updF_ne _ _ _ _ e, updF_ne _ _ _ _ e]
      exact (h.rows j hj).kept fun x hx hlt => hg.block x hlt (fun e2 => h.sep j i hj hi e x hx e2.symm)
  · by_cases ea : a = i
    · subst ea
      rw [updF_self] at hx
      have eb : b ≠ a := fun e => hab e.symm
      rw [updF_ne _ _ _ _ eb]
      rcases hg.own with e | e
      · rw [e] at hx; exact h.sep a b ha hb hab x hx
      · intro e2
        have h1 := e x hx
        have h2 := ((h.rows b hb).lt x e2).2
        omega
    · rw [updF_ne _ _ _ _ ea] at hx
      by_cases eb : b = i
      · subst eb
        rw [updF_self]
        rcases hg.own with e | e
        · rw [e]; exact h.sep a b ha hb hab x hx
        · intro e2
          have h1 := e x e2
          have h2 := ((h.rows a ha).lt x hx).2
          omega
      · rw [updF_ne _ _ _ _ eb]; exact h.sep a b ha hb hab x hx
  · by_cases e : j = i
    · subst e
      rw [updF_self]
      rcases hg.own with e | e
      · rw [e]; exact h.ne j hj
      · intro e2; have := e bl e2; omega
    · rw [updF_ne _ _ _ _ e]; exact h.ne j hj
  · have hp : 0 < len j := by omega
    by_cases e : j = i
    · subst e
      by_cases eo : (cur j).ownBlock = some (g j)
      · rcases hg.stay with e | e
        · rw [eo] at e
          rcases hr.2 with ⟨e2, _⟩ | ⟨g', cap, cu, e2, _, hg', hcap, _, hcs, htk⟩
          · rw [e2] at e; simp [Value.ownBlock] at e
          · rw [e2] at e
            simp [Value.ownBlock] at e
            subst e
            rw [cell_of_any W' _ y _ _ _ hg']
            have h1 : (cu.toList.take ((two j (len j) (clen j) ++ [mrk2 j]).length * 1))[y]? = (bv (two j (len j) (clen j) ++ [mrk2 j]))[y]? := by rw [htk]
            rw [List.getElem?_take, if_pos (by simp [two_len]; omega)] at h1
            rw [← Array.getElem?_toList, h1]
            refine (bv_get _ y _).2 ⟨mrk j, ?_, rfl⟩
            rw [List.getElem?_append_left (by rw [two_len]; omega)]
            exact two_lo j (len j) (clen j) y hy
        · rw [World.cell?_of_block (w := W) (e (g j) (hgl j hj hp))]; exact h.orig j hj y hy
      · rw [World.cell?_of_block (w := W) (hg.block (g j) (hgl j hj hp) (fun e => eo e.symm))]; exact h.orig j hj y hy
    · rw [World.cell?_of_block (w := W) (hg.block (g j) (hgl j hj hp) (fun e2 => h.osep j i hj hi e hp e2.symm))]; exact h.orig j hj y hy
  · by_cases e : b = i
    · subst e
      rw [updF_self]
      rcases hg.own with e | e
      · rw [e]; exact h.osep a b ha hb hab hp
      · intro e2; have h1 := e _ e2; have := hgl a ha hp; omega
    · rw [updF_ne _ _ _ _ e]; exact h.osep a b ha hb hab hp
theorem mk_nat (i : Nat) (h : i < 200) : ((mrk i).toNat : Int) = (i : Int) + 1 := by
  unfold mrk; rw [by8_nat]; omega
theorem mk2_nat (i : Nat) (h : i < 150) : ((mrk2 i).toNat : Int) = (i : Int) + 101 := by
  unfold mrk2; rw [by8_nat]; omega
theorem own5 {W W' : World} {B n : Nat} {v x x' : Value} {xs : List Value} {l : List UInt8} (h : W.ownsRow B 35 1 v n xs) (hx : ∃ B', Row W B' x l) (g : Grew W W' x x') : W'.ownsRow B 35 1 v n xs := by
  refine ⟨h.1, ?_⟩
  rcases h.2 with h | ⟨b, cap, cur, rfl, h2, h3, h4⟩
  · exact .inl h
  · refine .inr ⟨b, cap, cur, rfl, h2, (g.block b (Array.getElem?_eq_some_iff.1 h3).1 ?_).trans h3, h4⟩
    intro e
    obtain ⟨B', hr⟩ := hx
    rcases hr.2 with ⟨rfl, _⟩ | ⟨b', cap', cur', rfl, _, hb', _⟩
    · simp [Value.ownBlock] at e
    · simp [Value.ownBlock] at e; subst e; rw [h3] at hb'; simp at hb'

theorem updF_updF {α : Type} (f : Nat → α) (i : Nat) (x y : α) : updF (updF f i x) i y = updF f i y := by
  funext j; by_cases e : j = i <;> simp [updF, e]
end Go.Proofs.Ytcmaccefjlgbfaa
/-! kept: what was handed in is as it was. -/
namespace Go.Proofs.Ytcmaccefjlgbfaa
open Go.RowKit
open Go.Proofs
set_option linter.unusedVariables false
set_option linter.unusedSimpArgs false
set_option maxHeartbeats 2000000
set_option maxRecDepth 100000
theorem kept_any (B : Nat) (u : Value) (p' : Option Addr) (c' : Nat) (bs : List (Int × List UInt8)) (gs : List (Nat × Nat)) (hl : bs.length ≤ room) (hd : ∀ t ∈ bs, t.2.length + 1 ≤ room) (w : World) (h : OB w B u bs gs) (h' : BnS w p' bs) :
    Calls Try.prog 32 #[u, .slice p' bs.length c'] w fun e w' => e = .returned (.bool true) ∧ ∃ q, w' = w.drewN q := by
  unfold room at hl hd
  obtain ⟨pu, cu, rfl⟩ := own_val h.row
  go_enter Try.func32, Try.ntmps32
  go_wp2
  go_loopw [9] (fun i wr => ∃ k q : Nat, k ≤ bs.length ∧ i = .int .i64 (k : Int) ∧ wr = w.drewN q) (fun i _ => bs.length - (intOf i).toNat)
  case atStart => exact ⟨0, 0, by omega, rfl, rfl⟩
  case round =>
    obtain ⟨k, q, hk, rfl, rfl⟩ := hrel
    by_cases hlt : k < bs.length
    · have i1 : (k : Int) < bs.length := by omega
      have hkg : k < gs.length := by rw [h.len]; exact hlt
      have hd1 := hd bs[k] (List.getElem_mem hlt)
      obtain ⟨b', o', dv', rfl, f1, f2, f3, f4⟩ := h' k bs[k] (List.getElem?_eq_getElem hlt)
      obtain ⟨gu, e0⟩ : ∃ g, pu = some ⟨g, 0, none⟩ := by
        obtain ⟨g, c, e⟩ := own_pos h.row (by omega)
        simp only [Value.slice.injEq] at e; exact ⟨g, e.1⟩
      subst e0
      obtain ⟨k1, k2⟩ := bcs_get bs gs k bs[k] gs[k] (List.getElem?_eq_getElem hlt) (List.getElem?_eq_getElem hkg)
      have e1 := World.ownsRow.cells h.row (g := gu) rfl _ _ k1
      have e2 := World.ownsRow.cells h.row (g := gu) rfl _ _ k2
      rw [Addr.add_lit, Nat.zero_add] at e1 e2
      have hrw := h.dat k bs[k] gs[k] (List.getElem?_eq_getElem hlt) (List.getElem?_eq_getElem hkg)
      have e3 := row_pre hrw
      have c90 := row_cell hrw (bs[k]).2.length (by simp)
      have hcap : (bs[k]).2.length + 1 ≤ (gs[k]).2 := by
        rcases hrw.2 with ⟨e, _⟩ | ⟨_, _, _, e, _, _, h2, _⟩
        · cases e
        · simp only [Value.slice.injEq] at e; rw [e.2.2]; simp at h2; omega
      have v1 := fun q => Sl.conv (W := w.drewN q) e3
      have v2 := fun q => Sl.conv (W := w.drewN q) f3
      have v3 := fun q => slice_to (w.drewN q) (some ⟨(gs[k]).1, 0, none⟩) (bs[k]).2.length (gs[k]).2 ((bs[k]).2.length + 1) ((bs[k]).2.length + 1 : Int) (by omega) hcap
      obtain ⟨dp', dc', rfl, _⟩ := f3.ex
      have hc9 : w.cell? ⟨(gs[k]).1, (bs[k]).2.length, none⟩ = some (.int .u8 90) := by rw [c90]; simp
      clear e3 f3 c90 hrw k1 k2
      generalize hn : (bs[k]).1 = n at *
      generalize hL : (bs[k]).2.length = L at *
      generalize hs : (⟨(bs[k]).2.toArray⟩ : ByteArray) = s at *
      generalize hG : gs[k] = g at *
      have g1 : ∀ q, (w.drewN q).cell? ⟨gu, k * 2, none⟩ = some (.int .i64 n) := fun q => e1
      have g2 : ∀ q, (w.drewN q).cell? ⟨gu, k * 2 + 1, none⟩ = some (.slice (some ⟨g.1, 0, none⟩) L g.2) := fun q => e2
      have g3 : ∀ q, (w.drewN q).cell? ⟨b', o' + k * 2, none⟩ = some (.int .i64 n) := fun q => f1
      have g4 : ∀ q, (w.drewN q).cell? ⟨b', o' + k * 2 + 1, none⟩ = some (.slice dp' L dc') := fun q => f2
      have g5 : ∀ q, (w.drewN q).cell? ⟨g.1, L, none⟩ = some (.int .u8 90) := fun q => hc9
      have i2 : (L : Int) < (L : Int) + 1 := by omega
      go_wp2_with fail
      go_quiet (fail)
      go_wp2
      go_roundw
      case rel =>
        first
          | exact ⟨k + 1, _, by omega, by go_num, rfl⟩
          | ((repeat apply Exists.intro); refine ⟨⟨k + 1, _, by omega, ?_, rfl⟩, rfl⟩; go_num)
      case measure => simp [intOf]; omega
    · obtain rfl : k = bs.length := by omega
      go_wp2
      go_ret
      exact ⟨rfl, _, rfl⟩
end Go.Proofs.Ytcmaccefjlgbfaa
