import Derived.Test.YtmlpijjjkpnioaaDoorCOwn
import Derived.Test.YtmlpijjjkpnioaaDoorCDrop
import Derived.Test.YtmlpijjjkpnioaaDoorKApart7
import Derived.Deep.DeepCutAuto
/-! Own: a cartridge in lists of its own, marks behind them. -/
namespace Go.Proofs.YtmlpijjjkpnioaaDoor.C
open Go.RowKit
open Go.Proofs
open Go.Proofs.YtmlpijjjkpnioaaDoor.K
set_option linter.unusedVariables false
set_option linter.unusedSimpArgs false
set_option maxHeartbeats 4000000
set_option maxRecDepth 100000
/-- A step that writes blocks of the type T alone, and new ones. -/
def KT (T : TypeId) (W W' : World) : Prop := ∀ (b : Nat) (cs : Array Value) (t : TypeId) (fr : Nat × Nat), t ≠ T → W.heap[b]? = some (.cells cs t fr) → W'.heap[b]? = some (.cells cs t fr)
theorem KT.below {T : TypeId} {W W' : World} (b : Below W.heap.size W W') : KT T W W' := fun x _ _ _ _ e => (b.block x (lt_of e)).trans e
theorem KT.grown {T : TypeId} {W W' : World} {v v' : Value} {B size n : Nat} {xs : List Value} (h : W.ownsRow B T size v n xs) (g : Grew W W' v v') : KT T W W' := fun b cs t fr ht e => by
  refine (g.block b (lt_of e) fun hb => ?_).trans e
  obtain ⟨cur, hc⟩ := own_block h b hb.symm
  rw [hc] at e
  simp at e
  exact ht e.2.1.symm
theorem KT.set {T : TypeId} {W : World} {g i : Nat} {cs : Array Value} {fr : Nat × Nat} {v : Value} (h : W.heap[g]? = some (.cells cs T fr)) : KT T W (W.setCell ⟨g, i, none⟩ v) := fun b cs' t fr' ht e => by
  refine (setCell_other W g i b v fun hb => ?_).trans e
  subst hb
  rw [h] at e
  simp at e
  exact ht e.2.1.symm
theorem own_kt {T e : TypeId} {W W' : World} {B size n : Nat} {v : Value} {xs : List Value} (h : W.ownsRow B e size v n xs) (he : e ≠ T) (k : KT T W W') : W'.ownsRow B e size v n xs := by
  refine ⟨h.1, ?_⟩
  rcases h.2 with h | ⟨g, cap, cur, rfl, h2, h3, h4⟩
  · exact .inl h
  · exact .inr ⟨g, cap, cur, rfl, h2, k g cur e _ he h3, h4⟩
theorem roomed_kt {T : TypeId} {W W' : World} {B : Nat} {v : Value} {l : List UInt8} (h : Roomed W B v l) (he : 5 ≠ T) (k : KT T W W') : Roomed W' B v l := by
  obtain ⟨g, cap, e, hr⟩ := h
  exact ⟨g, cap, e, own_kt hr he k⟩
theorem roomed_lo {W : World} {B B' : Nat} {v : Value} {l : List UInt8} (h : Roomed W B v l) (hb : B' ≤ B) : Roomed W B' v l := h.mono hb
def zCt : List Value := [.slice none 0 0, .int .u16 0, .slice none 0 0, .slice none 0 0]
/-- While the cartridge is made. -/
structure QO (W w : World) (c : Ct) (pv : List Value) (kv eo bo : Value) (g3 : Nat) : Prop where
  bel : Below W.heap.size W w
  b1 : w.heap[W.heap.size]? = some (.cells pv.toArray 27 (0, 0))
  b2 : w.heap[W.heap.size + 1]? = some (.cells zCt.toArray 27 (0, 0))
  g : w.heap[g3]? = some (.cells [kv, .int .u16 (c.entry : Int), eo, bo].toArray 27 (0, 0))
  ge : W.heap.size + 2 ≤ g3
  code : Roomed w (W.heap.size + 2) kv c.code
theorem QO.step {T : TypeId} {W w w' : World} {c : Ct} {pv : List Value} {kv eo bo : Value} {g3 : Nat} (h : QO W w c pv kv eo bo g3) (k : KT T w w') (h1 : 27 ≠ T) (h5 : 5 ≠ T) (b : Below W.heap.size w w') : QO W w' c pv kv eo bo g3 :=
  ⟨h.bel.trans b, k _ _ _ _ h1 h.b1, k _ _ _ _ h1 h.b2, k _ _ _ _ h1 h.g, h.ge, roomed_kt h.code h5 k⟩
theorem QO.next {W w w' : World} {c : Ct} {pv : List Value} {kv eo bo : Value} {g3 : Nat} (h : QO W w c pv kv eo bo g3) (b : Below w.heap.size w w') : QO W w' c pv kv eo bo g3 := h.step (T := 80) (KT.below b) (by decide) (by decide) (b.mono h.bel.size)
theorem QO.set {W w : World} {c : Ct} {pv : List Value} {kv eo bo eo' bo' : Value} {g3 : Nat} (h : QO W w c pv kv eo bo g3) (i : Nat) (v : Value) (e : [kv, .int .u16 (c.entry : Int), eo, bo].set i v = [kv, .int .u16 (c.entry : Int), eo', bo']) : QO W (w.setCell ⟨g3, i, none⟩ v) c pv kv eo' bo' g3 := by
  have hg := setCell_heap w g3 i _ 27 v h.g
  rw [e] at hg
  have hge := h.ge
  exact ⟨h.bel.trans ⟨rfl, rfl, rfl, by simp [World.setCell], fun j hj => setCell_other _ _ _ _ _ (by omega)⟩, (setCell_other _ _ _ _ _ (by omega)).trans h.b1, (setCell_other _ _ _ _ _ (by omega)).trans h.b2, hg, hge, roomed_kt h.code (by decide) (KT.set h.g)⟩
/-- The effects: a row with a mark behind. -/
def m3 : List Value := [.int .u16 7, .int .i64 77, .int .i64 0]
def EO (W w : World) (c : Ct) (ge ce : Nat) : Prop := w.ownsRow (W.heap.size + 2) 80 3 (.slice (some ⟨ge, 0, none⟩) (c.effs.length + 1) ce) (c.effs.length + 1) (t3 (c.effs.map encE) ++ m3)
/-- The banks that are there. -/
def BO (W w : World) (bs : List Bk) (bo : Value) (prs : List (Bk × Value)) : Prop := prs.map Prod.fst = bs ∧ w.ownsRow (W.heap.size + 2) 82 2 bo prs.length (bcs prs) ∧ ∀ x ∈ prs, Roomed w (W.heap.size + 2) x.2 x.1.2
theorem BO.step {T : TypeId} {W w w' : World} {bs : List Bk} {bo : Value} {prs : List (Bk × Value)} (h : BO W w bs bo prs) (k : KT T w w') (h1 : 82 ≠ T) (h5 : 5 ≠ T) : BO W w' bs bo prs := ⟨h.1, own_kt h.2.1 h1 k, fun x hx => roomed_kt (h.2.2 x hx) h5 k⟩
theorem infoE : (Tryd.prog.info? 80).map (fun i => (i.zero, i.size, i.bytes)) = some (some (.agg #[.int .u16 0, .int .i64 0, .int .i64 0]), 3, 24) := by kernel_rfl
theorem own_z (W : World) (t : TypeId) (s : Nat) : (W.alloc (.cells #[] t)).ownsRow W.heap.size t s (.slice (some ⟨W.heap.size, 0, none⟩) 0 0) 0 [] :=
  ⟨by simp, .inr ⟨W.heap.size, 0, #[], rfl, Nat.le_refl _, heap_alloc_new W _, Nat.le_refl _, by decide, by simp, by simp⟩⟩
theorem own_lo {w : World} {B B' : Nat} {e : TypeId} {size : Nat} {v : Value} {n : Nat} {xs : List Value} (h : w.ownsRow B e size v n xs) (hb : B' ≤ B) : w.ownsRow B' e size v n xs := by
  refine ⟨h.1, ?_⟩
  rcases h.2 with h | ⟨g, cap, cur, h1, h2, h3⟩
  · exact .inl h
  · exact .inr ⟨g, cap, cur, h1, Nat.le_trans hb h2, h3⟩
theorem own_cap {W : World} {B : Nat} {e : TypeId} {size n c g : Nat} {xs : List Value} (h : W.ownsRow B e size (.slice (some ⟨g, 0, none⟩) n c) n xs) : n ≤ c := by
  rcases h.2 with ⟨h', _⟩ | ⟨g', cap', cur, h', _, _, hnc, _⟩
  · simp at h'
  · cases h'; exact hnc
theorem own_pos {w : World} {B : Nat} {e : TypeId} {size : Nat} {v : Value} {n : Nat} {xs : List Value} (h : w.ownsRow B e size v n xs) (h0 : 0 < n) : ∃ g cap, v = .slice (some ⟨g, 0, none⟩) n cap := by
  rcases h.2 with ⟨_, h⟩ | ⟨g, cap, cur, h1, _⟩
  · omega
  · exact ⟨g, cap, h1⟩
theorem t3_part : ∀ (l : List V3) (j : Nat) (u : Value), (t3 l)[j]? = some u → ∃ x, l[j / 3]? = some x ∧ (j % 3 = 0 ∧ u = x.1 ∨ j % 3 = 1 ∧ u = x.2.1 ∨ j % 3 = 2 ∧ u = x.2.2)
  | [], j, u, h => by simp [t3] at h
  | x :: l, 0, u, h => by simp [t3] at h; exact ⟨x, rfl, .inl ⟨rfl, h.symm⟩⟩
  | x :: l, 1, u, h => by simp [t3] at h; exact ⟨x, rfl, .inr (.inl ⟨rfl, h.symm⟩)⟩
  | x :: l, 2, u, h => by simp [t3] at h; exact ⟨x, rfl, .inr (.inr ⟨rfl, h.symm⟩)⟩
  | x :: l, j + 3, u, h => by
    obtain ⟨y, h1, h2⟩ := t3_part l j u (by simpa [t3] using h)
    rw [show (j + 3) / 3 = j / 3 + 1 by omega, show (j + 3) % 3 = j % 3 by omega]
    exact ⟨y, by simpa using h1, h2⟩
theorem EfS.cs {W : World} {p : Option Addr} {es : List Ef} {c : Nat} (h : EfS W p es) (hp : p = none → es.length = 0 ∧ c = 0) : Cs W (.slice p es.length c) 3 es.length (t3 (es.map encE)) := by
  cases p with
  | none =>
    obtain ⟨h1, rfl⟩ := hp rfl
    obtain rfl := List.eq_nil_of_length_eq_zero h1
    exact .inl ⟨rfl, rfl, rfl⟩
  | some ad =>
    refine .inr ⟨ad, c, rfl, by rw [t3_len, List.length_map], fun j u hj => ?_, fun u hu => ?_⟩
    · obtain ⟨x, hx, hu⟩ := t3_part _ j u hj
      rw [List.getElem?_map] at hx
      cases he : es[j / 3]? with
      | none => rw [he] at hx; cases hx
      | some t =>
        rw [he] at hx
        cases hx
        obtain ⟨b, o, e, k1, k2, k3⟩ := h _ t he
        cases e
        rw [Addr.add_lit]
        rcases hu with ⟨hm, rfl⟩ | ⟨hm, rfl⟩ | ⟨hm, rfl⟩
        · rw [show o + j = o + j / 3 * 3 by omega]; exact k1
        · rw [show o + j = o + j / 3 * 3 + 1 by omega]; exact k2
        · rw [show o + j = o + j / 3 * 3 + 2 by omega]; exact k3
    · obtain ⟨j, hj⟩ := List.mem_iff_getElem?.1 hu
      obtain ⟨x, hx, hu⟩ := t3_part _ j u hj
      rw [List.getElem?_map] at hx
      cases he : es[j / 3]? with
      | none => rw [he] at hx; cases hx
      | some t =>
        rw [he] at hx
        cases hx
        rcases hu with ⟨_, rfl⟩ | ⟨_, rfl⟩ | ⟨_, rfl⟩ <;> rfl
theorem KT.row {T : TypeId} {W : World} {g : Nat} {cs cs2 : Array Value} {fr : Nat × Nat} (h : W.heap[g]? = some (.cells cs T fr)) : KT T W (W.setRow g cs2) := fun b cs' t fr' ht e => by
  refine (setRow_other W g b _ fun hb => ?_).trans e
  subst hb
  rw [h] at e
  simp at e
  exact ht e.2.1.symm
theorem QO.make {W W1 X : World} {c : Ct} {pv : List Value} {kv : Value} {g3 : Nat} (hW1 : W1.heap.size = W.heap.size + 2) (h1 : Below W.heap.size W W1) (b1 : W1.heap[W.heap.size]? = some (.cells pv.toArray 27 (0, 0))) (b2 : W1.heap[W.heap.size + 1]? = some (.cells zCt.toArray 27 (0, 0))) (hX : Below W1.heap.size W1 X) (hz : X.heap[g3]? = some (.cells zCt.toArray 27 (0, 0))) (hg : W1.heap.size ≤ g3) (hr : Roomed X (W.heap.size + 2) kv c.code) :
    QO W (X.setRow g3 [kv, .int .u16 (c.entry : Int), .slice none 0 0, .slice none 0 0].toArray) c pv kv (.slice none 0 0) (.slice none 0 0) g3 := by
  have ho : ∀ i, i < W1.heap.size → (X.setRow g3 [kv, .int .u16 (c.entry : Int), .slice none 0 0, .slice none 0 0].toArray).heap[i]? = W1.heap[i]? := fun i hi => (setRow_other _ g3 i _ (by omega)).trans (hX.block i hi)
  exact ⟨h1.trans ⟨hX.os, hX.tape, hX.output, by rw [size_setRow]; exact hX.size, fun i hi => ho i (by omega)⟩, (ho _ (by omega)).trans b1, (ho _ (by omega)).trans b2, setRow_heap _ g3 _ _ _ _ hz, by omega, roomed_kt hr (by decide) (KT.row hz)⟩
structure OWC (W w : World) (c : Ct) (kv : Value) (ge ce gb cb : Nat) (prs : List (Bk × Value)) : Prop where
  bel : Below W.heap.size W w
  code : Roomed w (W.heap.size + 2) kv c.code
  effs : EO W w c ge ce
  map : prs.map Prod.fst = c.banks
  banks : w.ownsRow (W.heap.size + 2) 82 2 (.slice (some ⟨gb, 0, none⟩) (c.banks.length + 1) cb) (c.banks.length + 1) (bcs prs ++ [.int .i64 77, .slice none 0 0])
  dat : ∀ x ∈ prs, Roomed w (W.heap.size + 2) x.2 x.1.2
theorem own_cart (c : Ct) (v : Value) (ep : Option Addr) (ec : Nat) (bp : Option Addr) (bc : Nat) (kv : Value) (W : World) (h : IsC W v c ep ec bp bc kv) (hnil : ep = none → ec = 0) (hc1 : c.code.length + 4096 ≤ room) (he1 : c.effs.length * 24 + 4096 ≤ room) (hb1 : c.banks.length * 32 + 4096 ≤ room) (hd1 : ∀ x ∈ c.banks, x.2.length + 4096 ≤ room) :
    Calls Tryd.prog 24 #[v] W fun e w' => ∃ kv' ge ce gb cb prs, e = .returned (.agg #[kv', .int .u16 (c.entry : Int), .slice (some ⟨ge, 0, none⟩) c.effs.length ce, .slice (some ⟨gb, 0, none⟩) c.banks.length cb]) ∧ OWC W w' c kv' ge ce gb cb prs := by
  obtain rfl := h.val
  obtain ⟨kp, kc, rfl, _⟩ := h.code.ex
  unfold cv
  have hNl : ep = none → c.effs.length = 0 ∧ ec = 0 := fun e => by
    refine ⟨?_, hnil e⟩
    cases hq : c.effs with
    | nil => rfl
    | cons a r =>
      obtain ⟨_, _, e', _⟩ := h.effs 0 a (by rw [hq]; rfl)
      rw [e] at e'
      cases e'
  have hNl := hid hNl
  have hkb : c.banks.length ≤ 4398046511104 := by unfold room at hb1; omega
  have hkb2 : c.effs.length ≤ 5864062014805 := by unfold room at he1; omega
  obtain ⟨W1, hW1⟩ : ∃ W1, (W.alloc (.cells #[.slice kp c.code.length kc, .int .u16 (c.entry : Int), .slice ep c.effs.length ec, .slice bp c.banks.length bc] 27)).alloc (.cells #[.slice none 0 0, .int .u16 0, .slice none 0 0, .slice none 0 0] 27) = W1 := ⟨_, rfl⟩
  have z1 : W1.heap.size = W.heap.size + 2 := by rw [← hW1]; simp
  have k1 : Below W.heap.size W W1 := by rw [← hW1]; exact ((Below.refl _ W).alloc (Nat.le_refl _) _).alloc (by simp) _
  have v1 : W1.heap[W.heap.size]? = some (.cells [.slice kp c.code.length kc, .int .u16 (c.entry : Int), .slice ep c.effs.length ec, .slice bp c.banks.length bc].toArray 27 (0, 0)) := by rw [← hW1]; exact heap_alloc2_old W _ _
  have v2 : W1.heap[W.heap.size + 1]? = some (.cells zCt.toArray 27 (0, 0)) := by rw [← hW1]; exact heap_alloc2_new W _ _
  have hmk : ∀ X : World, Below W1.heap.size W1 X → (fun wz : World => wz.cell? ⟨W.heap.size, 0, none⟩ = some (.slice kp c.code.length kc) ∧ wz.cell? ⟨W.heap.size, 1, none⟩ = some (.int .u16 (c.entry : Int))) X := fun X hX => by
    have vx := (hX.block _ (lt_of v1)).trans v1
    exact ⟨cell_of X _ 0 _ 27 _ vx rfl, cell_of X _ 1 _ 27 _ vx rfl⟩
  have HMK := hid hmk
  have HW := hid hW1
  have H1 := hid (And.intro z1 (And.intro k1 (And.intro v1 v2)))
  have HC := hid h
  have HD := hid hd1
  have HBy0 := hid (Below.refl W1.heap.size W1).drew
  clear hmk hW1 z1 k1 v1 v2 h hd1
  go_enter Tryd.func24, Tryd.ntmps24
  go_upto_region 1 with fail
  rw [HW.out]
  go_cut [3] (fun s3 wc => ∃ g3 kv', s3 = .pointer (some ⟨g3, 0, none⟩) ∧ QO W wc c [.slice kp c.code.length kc, .int .u16 (c.entry : Int), .slice ep c.effs.length ec, .slice bp c.banks.length bc] kv' (.slice none 0 0) (.slice none 0 0) g3)
  case first =>
    refine wp_region_held_drew (S := (fun wz : World => wz.cell? ⟨W.heap.size, 0, none⟩ = some (.slice kp c.code.length kc) ∧ wz.cell? ⟨W.heap.size, 1, none⟩ = some (.int .u16 (c.entry : Int)))) (by kernel_rfl) (HMK.out _ HBy0.out) (fun hHeld => ?_)
    generalize W1.drew = y0 at *
    refine wpAnyH_take (i := 0) (v := ?_) rfl (by kernel_rfl) (by kernel_rfl) (by kernel_rfl) (fun c a w h => h) (Or.inl ⟨by rfl, ?_⟩) hHeld ?_
    rotate_left
    · (intro w hSw; (try dsimp only at hSw); go_simp; try with_reducible rfl)
    simp only [Act.put, List.getElem_toArray, List.getElem_cons_zero, List.getElem_cons_succ, List.setIfInBounds_toArray, List.set_cons_zero, List.set_cons_succ]
    refine wpAnyH_take (i := 1) (v := ?_) rfl (by kernel_rfl) (by kernel_rfl) (by kernel_rfl) (fun c a w h => h) (Or.inl ⟨by rfl, ?_⟩) hHeld ?_
    rotate_left
    · (intro w hSw; (try dsimp only at hSw); go_simp; try with_reducible rfl)
    simp only [Act.put, List.getElem_toArray, List.getElem_cons_zero, List.getElem_cons_succ, List.setIfInBounds_toArray, List.set_cons_zero, List.set_cons_succ]
    refine wpAnyH_take (i := 3) (v := ?_) rfl (by kernel_rfl) (by kernel_rfl) (by kernel_rfl) (fun c a w h => h) (Or.inl ⟨by rfl, ?_⟩) hHeld ?_
    rotate_left
    · (intro w hSw; (try dsimp only at hSw); go_simp; try with_reducible rfl)
    simp only [Act.put, List.getElem_toArray, List.getElem_cons_zero, List.getElem_cons_succ, List.setIfInBounds_toArray, List.set_cons_zero, List.set_cons_succ]
    refine wpAnyH_take (i := 4) (v := ?_) rfl (by kernel_rfl) (by kernel_rfl) (by kernel_rfl) (fun c a w h => h) (Or.inl ⟨by rfl, ?_⟩) hHeld ?_
    rotate_left
    · (intro w hSw; (try dsimp only at hSw); go_simp; try with_reducible rfl)
    simp only [Act.put, List.getElem_toArray, List.getElem_cons_zero, List.getElem_cons_succ, List.setIfInBounds_toArray, List.set_cons_zero, List.set_cons_succ]
    refine wpAnyH_ready (rs := [2, 6]) (by kernel_rfl) (by simp) ?_
    refine AllReadyH.cons rfl (fun K hK => ?_) ?_
    · go_simp
      have hcall := roomy_any (.slice kp c.code.length kc) c.code (by omega) y0 (((HC.out.code.below H1.out.2.1).below HBy0.out))
      refine hcall.mono ?_
      rintro e y1 ⟨u, rfl, hru, kk⟩
      obtain ⟨gk, ck, rfl, _⟩ := id hru
      have HR := hid (roomed_lo hru (show W.heap.size + 2 ≤ y0.heap.size by have := H1.out.1; have := HBy0.out.size; omega))
      have HBy1 := hid (HBy0.out.trans (kk.mono HBy0.out.size))
      refine hK.out _ _ (HMK.out _ HBy1.out) (fun hHeld => ?_)
      clear hK K kk hcall hru
      try simp only [Act.put, List.getElem_toArray, List.getElem_cons_zero, List.getElem_cons_succ, List.setIfInBounds_toArray, List.set_cons_zero, List.set_cons_succ]
      refine wpAnyH_take (i := 5) (v := ?_) rfl (by kernel_rfl) (by kernel_rfl) (by kernel_rfl) (fun c a w h => h) (Or.inl ⟨by rfl, ?_⟩) hHeld ?_
      rotate_left
      · (intro w hSw; (try dsimp only at hSw); go_simp; try with_reducible rfl)
      simp only [Act.put, List.getElem_toArray, List.getElem_cons_zero, List.getElem_cons_succ, List.setIfInBounds_toArray, List.set_cons_zero, List.set_cons_succ]
      refine wpAnyH_ready (rs := [6]) (by kernel_rfl) (by simp) ?_
      refine AllReadyH.cons rfl (fun K hK => ?_) AllReadyH.nil
      go_simp
      have kk : Below y1.heap.size y1 (y1.alloc (.cells #[.slice none 0 0, .int .u16 0, .slice none 0 0, .slice none 0 0] 27)) := (Below.refl _ _).alloc (Nat.le_refl _) _
      have hz : (y1.alloc (.cells #[.slice none 0 0, .int .u16 0, .slice none 0 0, .slice none 0 0] 27)).heap[y1.heap.size]? = some (.cells zCt.toArray 27 (0, 0)) := heap_alloc_new y1 _
      generalize y1.alloc (.cells #[.slice none 0 0, .int .u16 0, .slice none 0 0, .slice none 0 0] 27) = y2 at *
      obtain ⟨g3, hbn⟩ : ∃ bn, y1.heap.size = bn := ⟨_, rfl⟩
      have HBy2 := hid (HBy1.out.trans (kk.mono HBy1.out.size))
      have HZ := hid (And.intro (show y2.heap[g3]? = some (.cells zCt.toArray 27 (0, 0)) by rw [← hbn]; exact hz) (show W1.heap.size ≤ g3 by rw [← hbn]; exact HBy1.out.size))
      rw [hbn]
      have HR := hid (roomed_kt HR.out (T := 27) (by decide) (KT.below kk))
      refine hK.out _ _ (HMK.out _ HBy2.out) (fun hHeld => ?_)
      clear hK K kk hz hbn
      try simp only [Act.put, List.getElem_toArray, List.getElem_cons_zero, List.getElem_cons_succ, List.setIfInBounds_toArray, List.set_cons_zero, List.set_cons_succ]
      refine wpAnyH_ready (rs := [7]) (by kernel_rfl) (by simp) ?_
      refine AllReadyH.cons rfl (fun K hK => ?_) AllReadyH.nil
      rw [if_pos (by rfl)]
      refine wp_store_row 27 _ _ rfl g3 [.slice (some ⟨gk, 0, none⟩) c.code.length ck, .int .u16 (c.entry : Int), .slice none 0 0, .slice none 0 0].toArray (by simp [Act.eval]) (by simp [Act.eval]) 27 zCt.toArray HZ.out.1 (by kernel_rfl) (by rfl) (by simp [Value.oneCell']) ?_
      have HQ := hid (QO.make H1.out.1 H1.out.2.1 H1.out.2.2.1 H1.out.2.2.2 HBy2.out HZ.out.1 HZ.out.2 HR.out)
      refine hK.out _ _ ⟨cell_of _ _ 0 _ 27 _ HQ.out.b1 rfl, cell_of _ _ 1 _ 27 _ HQ.out.b1 rfl⟩ (fun hHeld => ?_)
      clear hK K hHeld
      try simp only [Act.put, List.getElem_toArray, List.getElem_cons_zero, List.getElem_cons_succ, List.setIfInBounds_toArray, List.set_cons_zero, List.set_cons_succ]
      refine wpAnyH_done (by kernel_rfl) ?_ _
      generalize y2.setRow g3 [.slice (some ⟨gk, 0, none⟩) c.code.length ck, .int .u16 (c.entry : Int), .slice none 0 0, .slice none 0 0].toArray = yz at *
      go_wp2
      go_meet
      case rel => exact ⟨g3, _, rfl, HQ.out⟩
    refine AllReadyH.cons rfl (fun K hK => ?_) AllReadyH.nil
    go_simp
    have kk : Below y0.heap.size y0 (y0.alloc (.cells #[.slice none 0 0, .int .u16 0, .slice none 0 0, .slice none 0 0] 27)) := (Below.refl _ _).alloc (Nat.le_refl _) _
    have hz : (y0.alloc (.cells #[.slice none 0 0, .int .u16 0, .slice none 0 0, .slice none 0 0] 27)).heap[y0.heap.size]? = some (.cells zCt.toArray 27 (0, 0)) := heap_alloc_new y0 _
    generalize y0.alloc (.cells #[.slice none 0 0, .int .u16 0, .slice none 0 0, .slice none 0 0] 27) = y1 at *
    obtain ⟨g3, hbn⟩ : ∃ bn, y0.heap.size = bn := ⟨_, rfl⟩
    have HBy1 := hid (HBy0.out.trans (kk.mono HBy0.out.size))
    have HZ := hid (And.intro (show y1.heap[g3]? = some (.cells zCt.toArray 27 (0, 0)) by rw [← hbn]; exact hz) (show W1.heap.size ≤ g3 by rw [← hbn]; exact HBy0.out.size))
    rw [hbn]
    refine hK.out _ _ (HMK.out _ HBy1.out) (fun hHeld => ?_)
    clear hK K kk hz hbn
    try simp only [Act.put, List.getElem_toArray, List.getElem_cons_zero, List.getElem_cons_succ, List.setIfInBounds_toArray, List.set_cons_zero, List.set_cons_succ]
    refine wpAnyH_ready (rs := [2]) (by kernel_rfl) (by simp) ?_
    refine AllReadyH.cons rfl (fun K hK => ?_) AllReadyH.nil
    go_simp
    have hcall := roomy_any (.slice kp c.code.length kc) c.code (by omega) y1 (((HC.out.code.below H1.out.2.1).below HBy1.out))
    refine hcall.mono ?_
    rintro e y2 ⟨u, rfl, hru, kk⟩
    obtain ⟨gk, ck, rfl, _⟩ := id hru
    have HR := hid (roomed_lo hru (show W.heap.size + 2 ≤ y1.heap.size by have := H1.out.1; have := HBy1.out.size; omega))
    have HBy2 := hid (HBy1.out.trans (kk.mono HBy1.out.size))
    have HZ := hid (And.intro ((kk.block _ (lt_of HZ.out.1)).trans HZ.out.1) HZ.out.2)
    refine hK.out _ _ (HMK.out _ HBy2.out) (fun hHeld => ?_)
    clear hK K kk hcall hru
    try simp only [Act.put, List.getElem_toArray, List.getElem_cons_zero, List.getElem_cons_succ, List.setIfInBounds_toArray, List.set_cons_zero, List.set_cons_succ]
    refine wpAnyH_take (i := 5) (v := ?_) rfl (by kernel_rfl) (by kernel_rfl) (by kernel_rfl) (fun c a w h => h) (Or.inl ⟨by rfl, ?_⟩) hHeld ?_
    rotate_left
    · (intro w hSw; (try dsimp only at hSw); go_simp; try with_reducible rfl)
    simp only [Act.put, List.getElem_toArray, List.getElem_cons_zero, List.getElem_cons_succ, List.setIfInBounds_toArray, List.set_cons_zero, List.set_cons_succ]
    refine wpAnyH_ready (rs := [7]) (by kernel_rfl) (by simp) ?_
    refine AllReadyH.cons rfl (fun K hK => ?_) AllReadyH.nil
    rw [if_pos (by rfl)]
    refine wp_store_row 27 _ _ rfl g3 [.slice (some ⟨gk, 0, none⟩) c.code.length ck, .int .u16 (c.entry : Int), .slice none 0 0, .slice none 0 0].toArray (by simp [Act.eval]) (by simp [Act.eval]) 27 zCt.toArray HZ.out.1 (by kernel_rfl) (by rfl) (by simp [Value.oneCell']) ?_
    have HQ := hid (QO.make H1.out.1 H1.out.2.1 H1.out.2.2.1 H1.out.2.2.2 HBy2.out HZ.out.1 HZ.out.2 HR.out)
    refine hK.out _ _ ⟨cell_of _ _ 0 _ 27 _ HQ.out.b1 rfl, cell_of _ _ 1 _ 27 _ HQ.out.b1 rfl⟩ (fun hHeld => ?_)
    clear hK K hHeld
    try simp only [Act.put, List.getElem_toArray, List.getElem_cons_zero, List.getElem_cons_succ, List.setIfInBounds_toArray, List.set_cons_zero, List.set_cons_succ]
    refine wpAnyH_done (by kernel_rfl) ?_ _
    generalize y2.setRow g3 [.slice (some ⟨gk, 0, none⟩) c.code.length ck, .int .u16 (c.entry : Int), .slice none 0 0, .slice none 0 0].toArray = yz at *
    go_wp2
    go_meet
    case rel => exact ⟨g3, _, rfl, HQ.out⟩
  case rest =>
    obtain ⟨g3, kv', rfl, hQ⟩ := hcut
    have HQ := hid hQ
    clear hQ HMK HW HBy0
    have hmk2 : ∀ X : World, X.heap[W.heap.size]? = some (.cells [.slice kp c.code.length kc, .int .u16 (c.entry : Int), .slice ep c.effs.length ec, .slice bp c.banks.length bc].toArray 27 (0, 0)) → (fun wz : World => wz.cell? ⟨W.heap.size, 2, none⟩ = some (.slice ep c.effs.length ec)) X := fun X hX => cell_of X _ 2 _ 27 _ hX rfl
    have HM2 := hid hmk2
    clear hmk2
    go_upto_region 2 with fail
    go_cut [23] (fun s23 wx => ∃ ge ce, QO W wx c [.slice kp c.code.length kc, .int .u16 (c.entry : Int), .slice ep c.effs.length ec, .slice bp c.banks.length bc] kv' (.slice (some ⟨ge, 0, none⟩) c.effs.length ce) (.slice none 0 0) g3 ∧ EO W wx c ge ce)
    case first =>
      have HQy0 := hid (HQ.out.next (Below.refl _ wc).drew)
      refine wp_region_drop [12] (S := (fun wz : World => wz.cell? ⟨W.heap.size, 2, none⟩ = some (.slice ep c.effs.length ec))) (by kernel_rfl) (HM2.out _ HQy0.out.b1) (fun hHeld => ?_)
      generalize wc.drew = y0 at *
      refine wpD_take (i := 1) (v := ?_) rfl (by kernel_rfl) (by kernel_rfl) (by kernel_rfl) (by kernel_rfl) (by kernel_rfl) (fun c a w h => h) (Or.inl ⟨by rfl, ?_⟩) hHeld ?_
      rotate_left
      · (intro w hSw; (try dsimp only at hSw); go_simp; try with_reducible rfl)
      simp only [Act.put, List.getElem_toArray, List.getElem_cons_zero, List.getElem_cons_succ, List.setIfInBounds_toArray, List.set_cons_zero, List.set_cons_succ]
      refine wpD_take (i := 2) (v := ?_) rfl (by kernel_rfl) (by kernel_rfl) (by kernel_rfl) (by kernel_rfl) (by kernel_rfl) (fun c a w h => h) (Or.inl ⟨by rfl, ?_⟩) hHeld ?_
      rotate_left
      · (intro w hSw; (try dsimp only at hSw); go_simp; try with_reducible rfl)
      simp only [Act.put, List.getElem_toArray, List.getElem_cons_zero, List.getElem_cons_succ, List.setIfInBounds_toArray, List.set_cons_zero, List.set_cons_succ]
      refine wpD_take (i := 4) (v := ?_) rfl (by kernel_rfl) (by kernel_rfl) (by kernel_rfl) (by kernel_rfl) (by kernel_rfl) (fun c a w h => h) (Or.inl ⟨by rfl, ?_⟩) hHeld ?_
      rotate_left
      · (intro w hSw; (try dsimp only at hSw); go_simp; try with_reducible rfl)
      simp only [Act.put, List.getElem_toArray, List.getElem_cons_zero, List.getElem_cons_succ, List.setIfInBounds_toArray, List.set_cons_zero, List.set_cons_succ]
      refine wpD_take (i := 7) (v := ?_) rfl (by kernel_rfl) (by kernel_rfl) (by kernel_rfl) (by kernel_rfl) (by kernel_rfl) (fun c a w h => h) (Or.inl ⟨by rfl, ?_⟩) hHeld ?_
      rotate_left
      · (intro w hSw; (try dsimp only at hSw); go_simp; try with_reducible rfl)
      simp only [Act.put, List.getElem_toArray, List.getElem_cons_zero, List.getElem_cons_succ, List.setIfInBounds_toArray, List.set_cons_zero, List.set_cons_succ]
      refine wpD_take (i := 8) (v := ?_) rfl (by kernel_rfl) (by kernel_rfl) (by kernel_rfl) (by kernel_rfl) (by kernel_rfl) (fun c a w h => h) (Or.inl ⟨by rfl, ?_⟩) hHeld ?_
      rotate_left
      · (intro w hSw; (try dsimp only at hSw); go_simp; try with_reducible rfl)
      simp only [Act.put, List.getElem_toArray, List.getElem_cons_zero, List.getElem_cons_succ, List.setIfInBounds_toArray, List.set_cons_zero, List.set_cons_succ]
      refine wpD_take (i := 9) (v := ?_) rfl (by kernel_rfl) (by kernel_rfl) (by kernel_rfl) (by kernel_rfl) (by kernel_rfl) (fun c a w h => h) (Or.inl ⟨by rfl, ?_⟩) hHeld ?_
      rotate_left
      · (intro w hSw; (try dsimp only at hSw); go_simp; try with_reducible rfl)
      simp only [Act.put, List.getElem_toArray, List.getElem_cons_zero, List.getElem_cons_succ, List.setIfInBounds_toArray, List.set_cons_zero, List.set_cons_succ]
      refine wpD_ready (rs := [0, 5]) (by kernel_rfl) (by simp) ?_
      refine AllD.cons rfl (fun K hK => ?_) ?_
      · go_simp
        have kk : Below y0.heap.size y0 (y0.alloc (.cells #[] 80)) := (Below.refl _ _).alloc (Nat.le_refl _) _
        have ow := own_z y0 80 3
        generalize y0.alloc (.cells #[] 80) = y1 at *
        obtain ⟨g0, hbn⟩ : ∃ bn, y0.heap.size = bn := ⟨_, rfl⟩
        have HQy1 := hid (HQy0.out.next kk)
        have HRy1 := hid (show y1.ownsRow (W.heap.size + 2) 80 3 (.slice (some ⟨g0, 0, none⟩) 0 0) 0 [] by rw [← hbn]; exact own_lo ow (by have := lt_of HQy0.out.b2; omega))
        rw [hbn]
        refine hK.out _ _ (HM2.out _ HQy1.out.b1) (fun hHeld => ?_)
        clear hK K hbn ow kk
        try simp only [Act.put, List.getElem_toArray, List.getElem_cons_zero, List.getElem_cons_succ, List.setIfInBounds_toArray, List.set_cons_zero, List.set_cons_succ]
        refine wpD_ready (rs := [3, 5]) (by kernel_rfl) (by simp) ?_
        refine AllD.cons rfl (fun K hK => ?_) ?_
        · rw [if_pos (by rfl)]
          have hcs := EfS.cs (c := ec) (HC.out.effs.below HQy1.out.bel) hNl.out
          have hsz : W.heap.size + 2 ≤ y1.heap.size := by have := lt_of HQy1.out.b2; omega
          refine wp_append_row y1 (.tmp 12) (.tmp 14) 24 80 _ 3 24 Tryd.underlying24 infoE rfl (by decide) rfl (W.heap.size + 2) _ 0 [] (by simp [Act.eval]) HRy1.out _ c.effs.length _ (by simp [Act.eval]) hcs (by omega) (by unfold maxLen; unfold room at he1; omega) hsz (fun v3 y2 hr1 hg1 => ?_)
          rw [Nat.zero_add, List.nil_append] at hr1
          obtain ⟨p3, c3, hv3⟩ := own_form hr1
          subst hv3
          have hbe : Below (W.heap.size + 2) y1 y2 := hg1.below (fun g hg => (World.ownsRow.lt HRy1.out g hg).1) hsz
          have HQy2 := hid (HQy1.out.step (KT.grown HRy1.out hg1) (by decide) (by decide) (hbe.mono (by omega)))
          have HRy2 := hid hr1
          refine hK.out _ _ (HM2.out _ HQy2.out.b1) (fun hHeld => ?_)
          clear hK K hr1 hg1 hbe hcs
          try simp only [Act.put, List.getElem_toArray, List.getElem_cons_zero, List.getElem_cons_succ, List.setIfInBounds_toArray, List.set_cons_zero, List.set_cons_succ]
          refine wpD_ready (rs := [5]) (by kernel_rfl) (by simp) ?_
          refine AllD.cons rfl (fun K hK => ?_) AllD.nil
          go_simp
          have kk : Below y2.heap.size y2 (y2.alloc (.cells #[.int .u16 7, .int .i64 77, .int .i64 0] 80)) := (Below.refl _ _).alloc (Nat.le_refl _) _
          have hz : (y2.alloc (.cells #[.int .u16 7, .int .i64 77, .int .i64 0] 80)).heap[y2.heap.size]? = some (.cells m3.toArray 80 (0, 0)) := heap_alloc_new y2 _
          generalize y2.alloc (.cells #[.int .u16 7, .int .i64 77, .int .i64 0] 80) = y3 at *
          obtain ⟨gm, hbn⟩ : ∃ bn, y2.heap.size = bn := ⟨_, rfl⟩
          have HQy3 := hid (HQy2.out.next kk)
          have HRy3 := hid (own_kept HRy2.out fun g _ hg => kk.block g hg)
          have HMy3 := hid (show y3.heap[gm]? = some (.cells m3.toArray 80 (0, 0)) by rw [← hbn]; exact hz)
          have HN : Hid (Value.ownBlock (.slice p3 c.effs.length c3) ≠ some gm) := hid (fun e => by have := (World.ownsRow.lt HRy2.out gm e).2; omega)
          rw [hbn]
          refine hK.out _ _ (HM2.out _ HQy3.out.b1) (fun hHeld => ?_)
          clear hK K hbn hz kk
          try simp only [Act.put, List.getElem_toArray, List.getElem_cons_zero, List.getElem_cons_succ, List.setIfInBounds_toArray, List.set_cons_zero, List.set_cons_succ]
          have hcs : Cs y3 (.slice (some ⟨gm, 0, none⟩) 1 1) 3 1 m3 := .inr ⟨_, _, rfl, rfl, fun j u hj => by rw [Addr.add_lit, Nat.zero_add]; exact cell_of y3 _ j _ _ u HMy3.out hj, by intro u hu; simp [m3] at hu; rcases hu with rfl | rfl | rfl <;> rfl⟩
          have hsz : W.heap.size + 2 ≤ y3.heap.size := by have := lt_of HQy3.out.b2; omega
          refine wpD_ready (rs := [6]) (by kernel_rfl) (by simp) ?_
          refine AllD.cons rfl (fun K hK => ?_) AllD.nil
          rw [if_pos (by rfl)]
          refine wp_append_row y3 (.tmp 15) (.tmp 17) 24 80 _ 3 24 Tryd.underlying24 infoE rfl (by decide) rfl (W.heap.size + 2) _ c.effs.length _ (by simp [Act.eval]) HRy3.out _ 1 _ (by simp [Act.eval]) hcs (by omega) (by unfold maxLen; unfold room at he1; omega) hsz (fun v6 y9 hr1 hg1 => ?_)
          obtain ⟨ge, ce, hv6⟩ := own_pos hr1 (by omega)
          subst hv6
          have hc5 := own_cap hr1
          have hc6 : (c.effs.length : Int) ≤ (ce : Int) := by omega
          have hc7 : c.effs.length ≤ ce := by omega
          have hbe : Below (W.heap.size + 2) y3 y9 := hg1.below (fun g hg => (World.ownsRow.lt HRy3.out g hg).1) hsz
          have HQy9 := hid (HQy3.out.step (KT.grown HRy3.out hg1) (by decide) (by decide) (hbe.mono (by omega)))
          have HE9 := hid (show EO W y9 c ge ce from hr1)
          refine hK.out _ _ (HM2.out _ HQy9.out.b1) (fun hHeld => ?_)
          clear hK K hr1 hg1 hbe hcs
          try simp only [Act.put, List.getElem_toArray, List.getElem_cons_zero, List.getElem_cons_succ, List.setIfInBounds_toArray, List.set_cons_zero, List.set_cons_succ]
          refine wpD_take (i := 10) (v := ?_) rfl (by kernel_rfl) (by kernel_rfl) (by kernel_rfl) (by kernel_rfl) (by kernel_rfl) (fun c a w h => h) (Or.inl ⟨by rfl, ?_⟩) hHeld ?_
          rotate_left
          · (intro w hSw; (try dsimp only at hSw); go_simp; try with_reducible rfl)
          simp only [Act.put, List.getElem_toArray, List.getElem_cons_zero, List.getElem_cons_succ, List.setIfInBounds_toArray, List.set_cons_zero, List.set_cons_succ]
          refine wpD_take (i := 11) (v := ?_) rfl (by kernel_rfl) (by kernel_rfl) (by kernel_rfl) (by kernel_rfl) (by kernel_rfl) (fun c a w h => h) (Or.inl ⟨by rfl, ?_⟩) hHeld ?_
          rotate_left
          · (intro w hSw; (try dsimp only at hSw); go_simp; try with_reducible rfl)
          simp only [Act.put, List.getElem_toArray, List.getElem_cons_zero, List.getElem_cons_succ, List.setIfInBounds_toArray, List.set_cons_zero, List.set_cons_succ]
          have e5 := cell_of y9 g3 2 _ 27 _ HQy9.out.g rfl
          have f5 := frozen_of y9 g3 2 _ 27 HQy9.out.g
          refine wpD_ready (rs := [12]) (by kernel_rfl) (by simp) ?_
          refine AllD.late rfl (by kernel_rfl) (fun K hK => ?_)
          go_simp
          refine hK.out _ _ ?_
          clear hK K
          try simp only [Act.put, List.getElem_toArray, List.getElem_cons_zero, List.getElem_cons_succ, List.setIfInBounds_toArray, List.set_cons_zero, List.set_cons_succ]
          refine wpD_done (by kernel_rfl) ?_ _
          have HQz := hid (HQy9.out.set (eo' := .slice (some ⟨ge, 0, none⟩) c.effs.length ce) (bo' := .slice none 0 0) 2 (.slice (some ⟨ge, 0, none⟩) c.effs.length ce) rfl)
          have HEz := hid (show EO W (y9.setCell ⟨g3, 2, none⟩ (.slice (some ⟨ge, 0, none⟩) c.effs.length ce)) c ge ce from own_kt HE9.out (by decide) (KT.set (T := 27) HQy9.out.g))
          generalize y9.setCell ⟨g3, 2, none⟩ (.slice (some ⟨ge, 0, none⟩) c.effs.length ce) = yz at *
          clear e5 f5
          go_wp2
          go_meet
          case rel => exact ⟨ge, ce, HQz.out, HEz.out⟩
        refine AllD.cons rfl (fun K hK => ?_) AllD.nil
        go_simp
        have kk : Below y1.heap.size y1 (y1.alloc (.cells #[.int .u16 7, .int .i64 77, .int .i64 0] 80)) := (Below.refl _ _).alloc (Nat.le_refl _) _
        have hz : (y1.alloc (.cells #[.int .u16 7, .int .i64 77, .int .i64 0] 80)).heap[y1.heap.size]? = some (.cells m3.toArray 80 (0, 0)) := heap_alloc_new y1 _
        generalize y1.alloc (.cells #[.int .u16 7, .int .i64 77, .int .i64 0] 80) = y4 at *
        obtain ⟨gm, hbn⟩ : ∃ bn, y1.heap.size = bn := ⟨_, rfl⟩
        have HQy4 := hid (HQy1.out.next kk)
        have HRy4 := hid (own_kept HRy1.out fun g _ hg => kk.block g hg)
        have HMy4 := hid (show y4.heap[gm]? = some (.cells m3.toArray 80 (0, 0)) by rw [← hbn]; exact hz)
        have HN : Hid (Value.ownBlock (.slice (some ⟨g0, 0, none⟩) 0 0) ≠ some gm) := hid (fun e => by have := (World.ownsRow.lt HRy1.out gm e).2; omega)
        rw [hbn]
        refine hK.out _ _ (HM2.out _ HQy4.out.b1) (fun hHeld => ?_)
        clear hK K hbn hz kk
        try simp only [Act.put, List.getElem_toArray, List.getElem_cons_zero, List.getElem_cons_succ, List.setIfInBounds_toArray, List.set_cons_zero, List.set_cons_succ]
        refine wpD_ready (rs := [3]) (by kernel_rfl) (by simp) ?_
        refine AllD.cons rfl (fun K hK => ?_) AllD.nil
        rw [if_pos (by rfl)]
        have hcs := EfS.cs (c := ec) (HC.out.effs.below HQy4.out.bel) hNl.out
        have hsz : W.heap.size + 2 ≤ y4.heap.size := by have := lt_of HQy4.out.b2; omega
        refine wp_append_row y4 (.tmp 12) (.tmp 14) 24 80 _ 3 24 Tryd.underlying24 infoE rfl (by decide) rfl (W.heap.size + 2) _ 0 [] (by simp [Act.eval]) HRy4.out _ c.effs.length _ (by simp [Act.eval]) hcs (by omega) (by unfold maxLen; unfold room at he1; omega) hsz (fun v3 y5 hr1 hg1 => ?_)
        rw [Nat.zero_add, List.nil_append] at hr1
        obtain ⟨p3, c3, hv3⟩ := own_form hr1
        subst hv3
        have hbe : Below (W.heap.size + 2) y4 y5 := hg1.below (fun g hg => (World.ownsRow.lt HRy4.out g hg).1) hsz
        have HQy5 := hid (HQy4.out.step (KT.grown HRy4.out hg1) (by decide) (by decide) (hbe.mono (by omega)))
        have HRy5 := hid hr1
        have HMy5 := hid ((hg1.block gm (lt_of HMy4.out) (fun e => HN.out e.symm)).trans HMy4.out)
        have HN : Hid (Value.ownBlock (.slice p3 c.effs.length c3) ≠ some gm) := hid (by
          rcases hg1.own with e | e
          · rw [e]; exact HN.out
          · intro e2
            have := e gm e2
            have := lt_of HMy4.out
            omega)
        refine hK.out _ _ (HM2.out _ HQy5.out.b1) (fun hHeld => ?_)
        clear hK K hr1 hg1 hbe hcs
        try simp only [Act.put, List.getElem_toArray, List.getElem_cons_zero, List.getElem_cons_succ, List.setIfInBounds_toArray, List.set_cons_zero, List.set_cons_succ]
        have hcs : Cs y5 (.slice (some ⟨gm, 0, none⟩) 1 1) 3 1 m3 := .inr ⟨_, _, rfl, rfl, fun j u hj => by rw [Addr.add_lit, Nat.zero_add]; exact cell_of y5 _ j _ _ u HMy5.out hj, by intro u hu; simp [m3] at hu; rcases hu with rfl | rfl | rfl <;> rfl⟩
        have hsz : W.heap.size + 2 ≤ y5.heap.size := by have := lt_of HQy5.out.b2; omega
        refine wpD_ready (rs := [6]) (by kernel_rfl) (by simp) ?_
        refine AllD.cons rfl (fun K hK => ?_) AllD.nil
        rw [if_pos (by rfl)]
        refine wp_append_row y5 (.tmp 15) (.tmp 17) 24 80 _ 3 24 Tryd.underlying24 infoE rfl (by decide) rfl (W.heap.size + 2) _ c.effs.length _ (by simp [Act.eval]) HRy5.out _ 1 _ (by simp [Act.eval]) hcs (by omega) (by unfold maxLen; unfold room at he1; omega) hsz (fun v6 y9 hr1 hg1 => ?_)
        obtain ⟨ge, ce, hv6⟩ := own_pos hr1 (by omega)
        subst hv6
        have hc5 := own_cap hr1
        have hc6 : (c.effs.length : Int) ≤ (ce : Int) := by omega
        have hc7 : c.effs.length ≤ ce := by omega
        have hbe : Below (W.heap.size + 2) y5 y9 := hg1.below (fun g hg => (World.ownsRow.lt HRy5.out g hg).1) hsz
        have HQy9 := hid (HQy5.out.step (KT.grown HRy5.out hg1) (by decide) (by decide) (hbe.mono (by omega)))
        have HE9 := hid (show EO W y9 c ge ce from hr1)
        refine hK.out _ _ (HM2.out _ HQy9.out.b1) (fun hHeld => ?_)
        clear hK K hr1 hg1 hbe hcs
        try simp only [Act.put, List.getElem_toArray, List.getElem_cons_zero, List.getElem_cons_succ, List.setIfInBounds_toArray, List.set_cons_zero, List.set_cons_succ]
        refine wpD_take (i := 10) (v := ?_) rfl (by kernel_rfl) (by kernel_rfl) (by kernel_rfl) (by kernel_rfl) (by kernel_rfl) (fun c a w h => h) (Or.inl ⟨by rfl, ?_⟩) hHeld ?_
        rotate_left
        · (intro w hSw; (try dsimp only at hSw); go_simp; try with_reducible rfl)
        simp only [Act.put, List.getElem_toArray, List.getElem_cons_zero, List.getElem_cons_succ, List.setIfInBounds_toArray, List.set_cons_zero, List.set_cons_succ]
        refine wpD_take (i := 11) (v := ?_) rfl (by kernel_rfl) (by kernel_rfl) (by kernel_rfl) (by kernel_rfl) (by kernel_rfl) (fun c a w h => h) (Or.inl ⟨by rfl, ?_⟩) hHeld ?_
        rotate_left
        · (intro w hSw; (try dsimp only at hSw); go_simp; try with_reducible rfl)
        simp only [Act.put, List.getElem_toArray, List.getElem_cons_zero, List.getElem_cons_succ, List.setIfInBounds_toArray, List.set_cons_zero, List.set_cons_succ]
        have e5 := cell_of y9 g3 2 _ 27 _ HQy9.out.g rfl
        have f5 := frozen_of y9 g3 2 _ 27 HQy9.out.g
        refine wpD_ready (rs := [12]) (by kernel_rfl) (by simp) ?_
        refine AllD.late rfl (by kernel_rfl) (fun K hK => ?_)
        go_simp
        refine hK.out _ _ ?_
        clear hK K
        try simp only [Act.put, List.getElem_toArray, List.getElem_cons_zero, List.getElem_cons_succ, List.setIfInBounds_toArray, List.set_cons_zero, List.set_cons_succ]
        refine wpD_done (by kernel_rfl) ?_ _
        have HQz := hid (HQy9.out.set (eo' := .slice (some ⟨ge, 0, none⟩) c.effs.length ce) (bo' := .slice none 0 0) 2 (.slice (some ⟨ge, 0, none⟩) c.effs.length ce) rfl)
        have HEz := hid (show EO W (y9.setCell ⟨g3, 2, none⟩ (.slice (some ⟨ge, 0, none⟩) c.effs.length ce)) c ge ce from own_kt HE9.out (by decide) (KT.set (T := 27) HQy9.out.g))
        generalize y9.setCell ⟨g3, 2, none⟩ (.slice (some ⟨ge, 0, none⟩) c.effs.length ce) = yz at *
        clear e5 f5
        go_wp2
        go_meet
        case rel => exact ⟨ge, ce, HQz.out, HEz.out⟩
      refine AllD.cons rfl (fun K hK => ?_) AllD.nil
      go_simp
      have kk : Below y0.heap.size y0 (y0.alloc (.cells #[.int .u16 7, .int .i64 77, .int .i64 0] 80)) := (Below.refl _ _).alloc (Nat.le_refl _) _
      have hz : (y0.alloc (.cells #[.int .u16 7, .int .i64 77, .int .i64 0] 80)).heap[y0.heap.size]? = some (.cells m3.toArray 80 (0, 0)) := heap_alloc_new y0 _
      generalize y0.alloc (.cells #[.int .u16 7, .int .i64 77, .int .i64 0] 80) = y6 at *
      obtain ⟨gm, hbn⟩ : ∃ bn, y0.heap.size = bn := ⟨_, rfl⟩
      have HQy6 := hid (HQy0.out.next kk)
      have HMy6 := hid (show y6.heap[gm]? = some (.cells m3.toArray 80 (0, 0)) by rw [← hbn]; exact hz)
      rw [hbn]
      refine hK.out _ _ (HM2.out _ HQy6.out.b1) (fun hHeld => ?_)
      clear hK K hbn hz kk
      try simp only [Act.put, List.getElem_toArray, List.getElem_cons_zero, List.getElem_cons_succ, List.setIfInBounds_toArray, List.set_cons_zero, List.set_cons_succ]
      refine wpD_ready (rs := [0]) (by kernel_rfl) (by simp) ?_
      refine AllD.cons rfl (fun K hK => ?_) AllD.nil
      go_simp
      have kk : Below y6.heap.size y6 (y6.alloc (.cells #[] 80)) := (Below.refl _ _).alloc (Nat.le_refl _) _
      have ow := own_z y6 80 3
      generalize y6.alloc (.cells #[] 80) = y7 at *
      obtain ⟨g0, hbn⟩ : ∃ bn, y6.heap.size = bn := ⟨_, rfl⟩
      have HQy7 := hid (HQy6.out.next kk)
      have HMy7 := hid ((kk.block _ (lt_of HMy6.out)).trans HMy6.out)
      have HRy7 := hid (show y7.ownsRow (W.heap.size + 2) 80 3 (.slice (some ⟨g0, 0, none⟩) 0 0) 0 [] by rw [← hbn]; exact own_lo ow (by have := lt_of HQy6.out.b2; omega))
      have HN : Hid (Value.ownBlock (.slice (some ⟨g0, 0, none⟩) 0 0) ≠ some gm) := hid (by intro e; simp [Value.ownBlock] at e; have := lt_of HMy6.out; omega)
      rw [hbn]
      refine hK.out _ _ (HM2.out _ HQy7.out.b1) (fun hHeld => ?_)
      clear hK K hbn ow kk
      try simp only [Act.put, List.getElem_toArray, List.getElem_cons_zero, List.getElem_cons_succ, List.setIfInBounds_toArray, List.set_cons_zero, List.set_cons_succ]
      refine wpD_ready (rs := [3]) (by kernel_rfl) (by simp) ?_
      refine AllD.cons rfl (fun K hK => ?_) AllD.nil
      rw [if_pos (by rfl)]
      have hcs := EfS.cs (c := ec) (HC.out.effs.below HQy7.out.bel) hNl.out
      have hsz : W.heap.size + 2 ≤ y7.heap.size := by have := lt_of HQy7.out.b2; omega
      refine wp_append_row y7 (.tmp 12) (.tmp 14) 24 80 _ 3 24 Tryd.underlying24 infoE rfl (by decide) rfl (W.heap.size + 2) _ 0 [] (by simp [Act.eval]) HRy7.out _ c.effs.length _ (by simp [Act.eval]) hcs (by omega) (by unfold maxLen; unfold room at he1; omega) hsz (fun v3 y8 hr1 hg1 => ?_)
      rw [Nat.zero_add, List.nil_append] at hr1
      obtain ⟨p3, c3, hv3⟩ := own_form hr1
      subst hv3
      have hbe : Below (W.heap.size + 2) y7 y8 := hg1.below (fun g hg => (World.ownsRow.lt HRy7.out g hg).1) hsz
      have HQy8 := hid (HQy7.out.step (KT.grown HRy7.out hg1) (by decide) (by decide) (hbe.mono (by omega)))
      have HRy8 := hid hr1
      have HMy8 := hid ((hg1.block gm (lt_of HMy7.out) (fun e => HN.out e.symm)).trans HMy7.out)
      have HN : Hid (Value.ownBlock (.slice p3 c.effs.length c3) ≠ some gm) := hid (by
        rcases hg1.own with e | e
        · rw [e]; exact HN.out
        · intro e2
          have := e gm e2
          have := lt_of HMy7.out
          omega)
      refine hK.out _ _ (HM2.out _ HQy8.out.b1) (fun hHeld => ?_)
      clear hK K hr1 hg1 hbe hcs
      try simp only [Act.put, List.getElem_toArray, List.getElem_cons_zero, List.getElem_cons_succ, List.setIfInBounds_toArray, List.set_cons_zero, List.set_cons_succ]
      have hcs : Cs y8 (.slice (some ⟨gm, 0, none⟩) 1 1) 3 1 m3 := .inr ⟨_, _, rfl, rfl, fun j u hj => by rw [Addr.add_lit, Nat.zero_add]; exact cell_of y8 _ j _ _ u HMy8.out hj, by intro u hu; simp [m3] at hu; rcases hu with rfl | rfl | rfl <;> rfl⟩
      have hsz : W.heap.size + 2 ≤ y8.heap.size := by have := lt_of HQy8.out.b2; omega
      refine wpD_ready (rs := [6]) (by kernel_rfl) (by simp) ?_
      refine AllD.cons rfl (fun K hK => ?_) AllD.nil
      rw [if_pos (by rfl)]
      refine wp_append_row y8 (.tmp 15) (.tmp 17) 24 80 _ 3 24 Tryd.underlying24 infoE rfl (by decide) rfl (W.heap.size + 2) _ c.effs.length _ (by simp [Act.eval]) HRy8.out _ 1 _ (by simp [Act.eval]) hcs (by omega) (by unfold maxLen; unfold room at he1; omega) hsz (fun v6 y9 hr1 hg1 => ?_)
      obtain ⟨ge, ce, hv6⟩ := own_pos hr1 (by omega)
      subst hv6
      have hc5 := own_cap hr1
      have hc6 : (c.effs.length : Int) ≤ (ce : Int) := by omega
      have hc7 : c.effs.length ≤ ce := by omega
      have hbe : Below (W.heap.size + 2) y8 y9 := hg1.below (fun g hg => (World.ownsRow.lt HRy8.out g hg).1) hsz
      have HQy9 := hid (HQy8.out.step (KT.grown HRy8.out hg1) (by decide) (by decide) (hbe.mono (by omega)))
      have HE9 := hid (show EO W y9 c ge ce from hr1)
      refine hK.out _ _ (HM2.out _ HQy9.out.b1) (fun hHeld => ?_)
      clear hK K hr1 hg1 hbe hcs
      try simp only [Act.put, List.getElem_toArray, List.getElem_cons_zero, List.getElem_cons_succ, List.setIfInBounds_toArray, List.set_cons_zero, List.set_cons_succ]
      refine wpD_take (i := 10) (v := ?_) rfl (by kernel_rfl) (by kernel_rfl) (by kernel_rfl) (by kernel_rfl) (by kernel_rfl) (fun c a w h => h) (Or.inl ⟨by rfl, ?_⟩) hHeld ?_
      rotate_left
      · (intro w hSw; (try dsimp only at hSw); go_simp; try with_reducible rfl)
      simp only [Act.put, List.getElem_toArray, List.getElem_cons_zero, List.getElem_cons_succ, List.setIfInBounds_toArray, List.set_cons_zero, List.set_cons_succ]
      refine wpD_take (i := 11) (v := ?_) rfl (by kernel_rfl) (by kernel_rfl) (by kernel_rfl) (by kernel_rfl) (by kernel_rfl) (fun c a w h => h) (Or.inl ⟨by rfl, ?_⟩) hHeld ?_
      rotate_left
      · (intro w hSw; (try dsimp only at hSw); go_simp; try with_reducible rfl)
      simp only [Act.put, List.getElem_toArray, List.getElem_cons_zero, List.getElem_cons_succ, List.setIfInBounds_toArray, List.set_cons_zero, List.set_cons_succ]
      have e5 := cell_of y9 g3 2 _ 27 _ HQy9.out.g rfl
      have f5 := frozen_of y9 g3 2 _ 27 HQy9.out.g
      refine wpD_ready (rs := [12]) (by kernel_rfl) (by simp) ?_
      refine AllD.late rfl (by kernel_rfl) (fun K hK => ?_)
      go_simp
      refine hK.out _ _ ?_
      clear hK K
      try simp only [Act.put, List.getElem_toArray, List.getElem_cons_zero, List.getElem_cons_succ, List.setIfInBounds_toArray, List.set_cons_zero, List.set_cons_succ]
      refine wpD_done (by kernel_rfl) ?_ _
      have HQz := hid (HQy9.out.set (eo' := .slice (some ⟨ge, 0, none⟩) c.effs.length ce) (bo' := .slice none 0 0) 2 (.slice (some ⟨ge, 0, none⟩) c.effs.length ce) rfl)
      have HEz := hid (show EO W (y9.setCell ⟨g3, 2, none⟩ (.slice (some ⟨ge, 0, none⟩) c.effs.length ce)) c ge ce from own_kt HE9.out (by decide) (KT.set (T := 27) HQy9.out.g))
      generalize y9.setCell ⟨g3, 2, none⟩ (.slice (some ⟨ge, 0, none⟩) c.effs.length ce) = yz at *
      clear e5 f5
      go_wp2
      go_meet
      case rel => exact ⟨ge, ce, HQz.out, HEz.out⟩
    case rest =>
      obtain ⟨ge, ce, hQ2, hE2⟩ := hcut
      have hb3 := cell_of wc W.heap.size 3 _ 27 _ hQ2.b1 rfl
      have H2 := hid (And.intro hQ2 hE2)
      clear hQ2 hE2 HQ HM2
      go_wp2
      clear hb3
      go_loopw [27] (fun i wr => ∃ (k : Nat) (bo : Value) (prs : List (Bk × Value)), k ≤ c.banks.length ∧ i = .int .i64 (k : Int) ∧ QO W wr c [.slice kp c.code.length kc, .int .u16 (c.entry : Int), .slice ep c.effs.length ec, .slice bp c.banks.length bc] kv' (.slice (some ⟨ge, 0, none⟩) c.effs.length ce) bo g3 ∧ EO W wr c ge ce ∧ BO W wr (c.banks.take k) bo prs) (fun i _ => c.banks.length - (intOf i).toNat)
      case atStart => exact ⟨0, .slice none 0 0, [], by omega, rfl, H2.out.1, H2.out.2, rfl, World.ownsRow_nil _ _ _ _, fun x hx => by simp at hx⟩
      case round =>
        clear H2
        obtain ⟨k, bo, prs, hk, rfl, hQ, hE, hBO⟩ := hrel
        have hpl : prs.length = k := by have := congrArg List.length hBO.1; rw [List.length_map, List.length_take] at this; omega
        obtain ⟨po, co, hbo⟩ := own_form hBO.2.1
        rw [hpl] at hbo
        subst hbo
        by_cases hlt : k < c.banks.length
        · have i1 : (k : Int) < c.banks.length := by omega
          have ea := List.getElem?_eq_getElem hlt
          have hdl := HD.out c.banks[k] (List.getElem_mem _)
          generalize c.banks[k] = t at *
          obtain ⟨bq, oq, dv, rfl, hc0, hc1', hS, _⟩ := (HC.out.banks.below hQ.bel) k t ea
          obtain ⟨qd, cd, rfl, _⟩ := hS.ex
          obtain ⟨W2, hW2⟩ : ∃ W2, wr.alloc (.cells #[.int .i64 t.1, .slice qd t.2.length cd] 82) = W2 := ⟨_, rfl⟩
          have zz : Below wr.heap.size wr W2 := by rw [← hW2]; exact (Below.refl _ _).alloc (Nat.le_refl _) _
          obtain ⟨bx, hbx⟩ : ∃ bx, bx = wr.heap.size := ⟨_, rfl⟩
          have vx : W2.heap[bx]? = some (.cells [.int .i64 t.1, .slice qd t.2.length cd].toArray 82 (0, 0)) := by rw [hbx, ← hW2]; exact heap_alloc_new wr _
          have hQ2 := hQ.next zz
          have hmk : ∀ X : World, X.heap[g3]? = W2.heap[g3]? → X.heap[bx]? = W2.heap[bx]? → (fun wz : World => wz.cell? ⟨g3, 3, none⟩ = some (.slice po k co) ∧ wz.cell? ⟨bx, 0, none⟩ = some (.int .i64 t.1) ∧ wz.cell? ⟨bx, 1, none⟩ = some (.slice qd t.2.length cd)) X := fun X h1 h2 => ⟨cell_of X _ 3 _ 27 _ (h1.trans hQ2.g) rfl, cell_of X _ 0 _ 82 _ (h2.trans vx) rfl, cell_of X _ 1 _ 82 _ (h2.trans vx) rfl⟩
          have HMK := hid hmk
          have HK := hid (And.intro hQ2 (And.intro (show EO W W2 c ge ce from own_kt hE (T := 27) (by decide) (KT.below zz)) (And.intro (hBO.step (T := 27) (KT.below zz) (by decide) (by decide)) (And.intro vx (And.intro (hS.below zz) (And.intro ea hpl))))))
          have HX := hid hbx
          have HW2 := hid hW2
          have HNB : Hid (∀ g, Value.ownBlock (.slice po k co) = some g → g < bx) := hid fun g hg => by
            have := (World.ownsRow.lt hBO.2.1 g hg).2
            omega
          have hg3b : g3 < W2.heap.size ∧ bx < W2.heap.size := ⟨lt_of hQ2.g, lt_of vx⟩
          clear hmk hQ hE hBO zz vx hbx hW2 ea hS hQ2 hpl
          go_upto_region 6 with fail
          rw [HW2.out, ← HX.out]
          clear hc0 hc1'
          have HBy0 := hid (Below.refl W2.heap.size W2).drew
          refine wp_region_drop [11] (S := (fun wz : World => wz.cell? ⟨g3, 3, none⟩ = some (.slice po k co) ∧ wz.cell? ⟨bx, 0, none⟩ = some (.int .i64 t.1) ∧ wz.cell? ⟨bx, 1, none⟩ = some (.slice qd t.2.length cd))) (by kernel_rfl) (HMK.out _ rfl rfl) (fun hHeld => ?_)
          generalize W2.drew = y0 at *
          refine wpD_take (i := 0) (v := ?_) rfl (by kernel_rfl) (by kernel_rfl) (by kernel_rfl) (by kernel_rfl) (by kernel_rfl) (fun c a w h => h) (Or.inl ⟨by rfl, ?_⟩) hHeld ?_
          rotate_left
          · (intro w hSw; (try dsimp only at hSw); go_simp; try with_reducible rfl)
          simp only [Act.put, List.getElem_toArray, List.getElem_cons_zero, List.getElem_cons_succ, List.setIfInBounds_toArray, List.set_cons_zero, List.set_cons_succ]
          refine wpD_take (i := 1) (v := ?_) rfl (by kernel_rfl) (by kernel_rfl) (by kernel_rfl) (by kernel_rfl) (by kernel_rfl) (fun c a w h => h) (Or.inl ⟨by rfl, ?_⟩) hHeld ?_
          rotate_left
          · (intro w hSw; (try dsimp only at hSw); go_simp; try with_reducible rfl)
          simp only [Act.put, List.getElem_toArray, List.getElem_cons_zero, List.getElem_cons_succ, List.setIfInBounds_toArray, List.set_cons_zero, List.set_cons_succ]
          refine wpD_take (i := 2) (v := ?_) rfl (by kernel_rfl) (by kernel_rfl) (by kernel_rfl) (by kernel_rfl) (by kernel_rfl) (fun c a w h => h) (Or.inl ⟨by rfl, ?_⟩) hHeld ?_
          rotate_left
          · (intro w hSw; (try dsimp only at hSw); go_simp; try with_reducible rfl)
          simp only [Act.put, List.getElem_toArray, List.getElem_cons_zero, List.getElem_cons_succ, List.setIfInBounds_toArray, List.set_cons_zero, List.set_cons_succ]
          refine wpD_take (i := 3) (v := ?_) rfl (by kernel_rfl) (by kernel_rfl) (by kernel_rfl) (by kernel_rfl) (by kernel_rfl) (fun c a w h => h) (Or.inl ⟨by rfl, ?_⟩) hHeld ?_
          rotate_left
          · (intro w hSw; (try dsimp only at hSw); go_simp; try with_reducible rfl)
          simp only [Act.put, List.getElem_toArray, List.getElem_cons_zero, List.getElem_cons_succ, List.setIfInBounds_toArray, List.set_cons_zero, List.set_cons_succ]
          refine wpD_take (i := 4) (v := ?_) rfl (by kernel_rfl) (by kernel_rfl) (by kernel_rfl) (by kernel_rfl) (by kernel_rfl) (fun c a w h => h) (Or.inl ⟨by rfl, ?_⟩) hHeld ?_
          rotate_left
          · (intro w hSw; (try dsimp only at hSw); go_simp; try with_reducible rfl)
          simp only [Act.put, List.getElem_toArray, List.getElem_cons_zero, List.getElem_cons_succ, List.setIfInBounds_toArray, List.set_cons_zero, List.set_cons_succ]
          refine wpD_take (i := 5) (v := ?_) rfl (by kernel_rfl) (by kernel_rfl) (by kernel_rfl) (by kernel_rfl) (by kernel_rfl) (fun c a w h => h) (Or.inl ⟨by rfl, ?_⟩) hHeld ?_
          rotate_left
          · (intro w hSw; (try dsimp only at hSw); go_simp; try with_reducible rfl)
          simp only [Act.put, List.getElem_toArray, List.getElem_cons_zero, List.getElem_cons_succ, List.setIfInBounds_toArray, List.set_cons_zero, List.set_cons_succ]
          refine wpD_ready (rs := [6]) (by kernel_rfl) (by simp) ?_
          refine AllD.cons rfl (fun K hK => ?_) AllD.nil
          go_simp
          refine (roomy_any _ t.2 (by omega) y0 (HK.out.2.2.2.2.1.below HBy0.out)).mono ?_
          rintro e y1 ⟨u, rfl, hru, kk⟩
          obtain ⟨gk, ck, rfl, _⟩ := id hru
          have HBy1 := hid (HBy0.out.trans (kk.mono HBy0.out.size))
          have hsW : W.heap.size + 2 ≤ y0.heap.size := by have := lt_of HK.out.1.b2; have := HBy0.out.size; omega
          have HRy1 := hid (roomed_lo hru hsW)
          refine hK.out _ _ (HMK.out _ (HBy1.out.block _ hg3b.1) (HBy1.out.block _ hg3b.2)) (fun hHeld => ?_)
          clear hK K kk hru
          try simp only [Act.put, List.getElem_toArray, List.getElem_cons_zero, List.getElem_cons_succ, List.setIfInBounds_toArray, List.set_cons_zero, List.set_cons_succ]
          refine wpD_take (i := 7) (v := ?_) rfl (by kernel_rfl) (by kernel_rfl) (by kernel_rfl) (by kernel_rfl) (by kernel_rfl) (fun c a w h => h) (Or.inl ⟨by rfl, ?_⟩) hHeld ?_
          rotate_left
          · (intro w hSw; (try dsimp only at hSw); go_simp; try with_reducible rfl)
          simp only [Act.put, List.getElem_toArray, List.getElem_cons_zero, List.getElem_cons_succ, List.setIfInBounds_toArray, List.set_cons_zero, List.set_cons_succ]
          refine wpD_ready (rs := [8]) (by kernel_rfl) (by simp) ?_
          refine AllD.cons rfl (fun K hK => ?_) AllD.nil
          go_simp
          have kk : Below y1.heap.size y1 (y1.alloc (.cells #[.int .i64 t.1, .slice (some ⟨gk, 0, none⟩) t.2.length ck] 82)) := (Below.refl _ _).alloc (Nat.le_refl _) _
          have hz : (y1.alloc (.cells #[.int .i64 t.1, .slice (some ⟨gk, 0, none⟩) t.2.length ck] 82)).heap[y1.heap.size]? = some (.cells [.int .i64 t.1, .slice (some ⟨gk, 0, none⟩) t.2.length ck].toArray 82 (0, 0)) := heap_alloc_new y1 _
          generalize y1.alloc (.cells #[.int .i64 t.1, .slice (some ⟨gk, 0, none⟩) t.2.length ck] 82) = y2 at *
          obtain ⟨gn, hbn⟩ : ∃ bn, y1.heap.size = bn := ⟨_, rfl⟩
          have HBy2 := hid (HBy1.out.trans (kk.mono HBy1.out.size))
          have HRy2 := hid (roomed_kt HRy1.out (T := 27) (by decide) (KT.below kk))
          have hcs : Cs y2 (.slice (some ⟨gn, 0, none⟩) 1 1) 2 1 [.int .i64 t.1, .slice (some ⟨gk, 0, none⟩) t.2.length ck] := .inr ⟨_, _, rfl, rfl, fun j u hj => by rw [Addr.add_lit, Nat.zero_add, ← hbn]; exact cell_of y2 _ j _ _ u hz hj, by intro u hu; simp at hu; rcases hu with rfl | rfl <;> rfl⟩
          rw [hbn]
          refine hK.out _ _ (HMK.out _ (HBy2.out.block _ hg3b.1) (HBy2.out.block _ hg3b.2)) (fun hHeld => ?_)
          clear hK K kk hz hbn
          try simp only [Act.put, List.getElem_toArray, List.getElem_cons_zero, List.getElem_cons_succ, List.setIfInBounds_toArray, List.set_cons_zero, List.set_cons_succ]
          have HQ2 := hid (HK.out.1.next HBy2.out)
          have oR := (HK.out.2.2.1.step (T := 27) (KT.below HBy2.out) (by decide) (by decide)).2.1
          rw [HK.out.2.2.2.2.2.2] at oR
          have hsz : W.heap.size + 2 ≤ y2.heap.size := by have := HBy2.out.size; have := HBy0.out.size; have := lt_of HK.out.1.b2; omega
          refine wpD_ready (rs := [9]) (by kernel_rfl) (by simp) ?_
          refine AllD.cons rfl (fun K hK => ?_) AllD.nil
          rw [if_pos (by rfl)]
          refine wp_append_row y2 (.tmp 32) (.tmp 39) 25 82 _ 2 32 Tryd.underlying25 info82 rfl (by decide) rfl (W.heap.size + 2) _ k (bcs prs) (by simp [Act.eval]) oR _ 1 _ (by simp [Act.eval]) hcs (by omega) (by unfold maxLen; unfold room at hb1; omega) hsz (fun v5 w5 hr1 hg1 => ?_)
          obtain ⟨p5, c5, hv5⟩ := own_form hr1
          subst hv5
          have hbe : Below (W.heap.size + 2) y2 w5 := hg1.below (fun g hg => (World.ownsRow.lt oR g hg).1) hsz
          have hkt : KT 82 y2 w5 := KT.grown oR hg1
          have h5x : w5.heap[bx]? = W2.heap[bx]? := (hg1.block bx (by have := HBy2.out.size; omega) (fun e => by have := HNB.out bx e.symm; omega)).trans (HBy2.out.block _ hg3b.2)
          have HQ5 := hid (HQ2.out.step hkt (by decide) (by decide) (hbe.mono (by omega)))
          have HG := hid (And.intro hr1 (And.intro hkt hbe))
          refine hK.out _ _ (HMK.out _ (HQ5.out.g.trans HK.out.1.g.symm) h5x) (fun hHeld => ?_)
          clear hK K hr1 hg1 hbe hkt h5x hcs oR
          try simp only [Act.put, List.getElem_toArray, List.getElem_cons_zero, List.getElem_cons_succ, List.setIfInBounds_toArray, List.set_cons_zero, List.set_cons_succ]
          refine wpD_take (i := 10) (v := ?_) rfl (by kernel_rfl) (by kernel_rfl) (by kernel_rfl) (by kernel_rfl) (by kernel_rfl) (fun c a w h => h) (Or.inl ⟨by rfl, ?_⟩) hHeld ?_
          rotate_left
          · (intro w hSw; (try dsimp only at hSw); go_simp; try with_reducible rfl)
          simp only [Act.put, List.getElem_toArray, List.getElem_cons_zero, List.getElem_cons_succ, List.setIfInBounds_toArray, List.set_cons_zero, List.set_cons_succ]
          have e5 := cell_of w5 g3 3 _ 27 _ HQ5.out.g rfl
          have f5 := frozen_of w5 g3 3 _ 27 HQ5.out.g
          refine wpD_ready (rs := [11]) (by kernel_rfl) (by simp) ?_
          refine AllD.late rfl (by kernel_rfl) (fun K hK => ?_)
          go_simp
          refine hK.out _ _ ?_
          clear hK K
          try simp only [Act.put, List.getElem_toArray, List.getElem_cons_zero, List.getElem_cons_succ, List.setIfInBounds_toArray, List.set_cons_zero, List.set_cons_succ]
          refine wpD_done (by kernel_rfl) ?_ _
          have ks : KT 27 w5 (w5.setCell ⟨g3, 3, none⟩ (.slice p5 (k + 1) c5)) := KT.set HQ5.out.g
          have HQz := hid (HQ5.out.set (eo' := (.slice (some ⟨ge, 0, none⟩) c.effs.length ce)) (bo' := .slice p5 (k + 1) c5) 3 (.slice p5 (k + 1) c5) rfl)
          have HEz := hid (show EO W (w5.setCell ⟨g3, 3, none⟩ (.slice p5 (k + 1) c5)) c ge ce from own_kt (own_kt (own_kt HK.out.2.1 (T := 27) (by decide) (KT.below HBy2.out)) (by decide) HG.out.2.1) (by decide) ks)
          have HBz : Hid (BO W (w5.setCell ⟨g3, 3, none⟩ (.slice p5 (k + 1) c5)) (c.banks.take (k + 1)) (.slice p5 (k + 1) c5) (prs ++ [(t, .slice (some ⟨gk, 0, none⟩) t.2.length ck)])) := hid (by
            refine ⟨?_, ?_, fun x hx => ?_⟩
            · rw [List.map_append, HK.out.2.2.1.1, List.take_add_one, HK.out.2.2.2.2.2.1]; rfl
            · rw [List.length_append, HK.out.2.2.2.2.2.2, bcs_append]
              exact own_kt HG.out.1 (by decide) ks
            · rcases List.mem_append.1 hx with hx | hx
              · exact roomed_kt (roomed_kt (roomed_kt (HK.out.2.2.1.2.2 x hx) (T := 27) (by decide) (KT.below HBy2.out)) (by decide) HG.out.2.1) (by decide) ks
              · simp at hx
                subst hx
                exact roomed_kt (roomed_kt HRy2.out (by decide) HG.out.2.1) (by decide) ks)
          generalize w5.setCell ⟨g3, 3, none⟩ (.slice p5 (k + 1) c5) = yz at *
          clear e5 f5 ks
          go_wp2
          go_roundw
          case rel => exact ⟨k + 1, _, _, by omega, by go_num, HQz.out, HEz.out, HBz.out⟩
          case measure => simp [intOf]; omega
        · obtain rfl : k = c.banks.length := by omega
          have i1 : ¬ (c.banks.length : Int) < c.banks.length := by omega
          rw [List.take_length] at hBO
          have HK := hid (And.intro hQ (And.intro hE (And.intro hBO hpl)))
          have hmk : ∀ X : World, X.heap[g3]? = wr.heap[g3]? → X.heap[W.heap.size]? = wr.heap[W.heap.size]? → (fun wz : World => wz.cell? ⟨g3, 3, none⟩ = some (.slice po c.banks.length co) ∧ wz.cell? ⟨W.heap.size, 3, none⟩ = some (.slice bp c.banks.length bc)) X := fun X h1 h2 => ⟨cell_of X _ 3 _ 27 _ (h1.trans hQ.g) rfl, cell_of X _ 3 _ 27 _ (h2.trans hQ.b1) rfl⟩
          have HMK := hid hmk
          have hg3b : g3 < wr.heap.size ∧ W.heap.size + 1 < wr.heap.size := ⟨lt_of hQ.g, lt_of hQ.b2⟩
          clear hmk hQ hE hBO hpl
          go_upto_region 8 with fail
          have HBy0 := hid (Below.refl wr.heap.size wr).drew
          refine wp_region_drop [10] (S := (fun wz : World => wz.cell? ⟨g3, 3, none⟩ = some (.slice po c.banks.length co) ∧ wz.cell? ⟨W.heap.size, 3, none⟩ = some (.slice bp c.banks.length bc))) (by kernel_rfl) (HMK.out _ rfl rfl) (fun hHeld => ?_)
          generalize wr.drew = y0 at *
          refine wpD_take (i := 0) (v := ?_) rfl (by kernel_rfl) (by kernel_rfl) (by kernel_rfl) (by kernel_rfl) (by kernel_rfl) (fun c a w h => h) (Or.inl ⟨by rfl, ?_⟩) hHeld ?_
          rotate_left
          · (intro w hSw; (try dsimp only at hSw); go_simp; try with_reducible rfl)
          simp only [Act.put, List.getElem_toArray, List.getElem_cons_zero, List.getElem_cons_succ, List.setIfInBounds_toArray, List.set_cons_zero, List.set_cons_succ]
          refine wpD_take (i := 1) (v := ?_) rfl (by kernel_rfl) (by kernel_rfl) (by kernel_rfl) (by kernel_rfl) (by kernel_rfl) (fun c a w h => h) (Or.inl ⟨by rfl, ?_⟩) hHeld ?_
          rotate_left
          · (intro w hSw; (try dsimp only at hSw); go_simp; try with_reducible rfl)
          simp only [Act.put, List.getElem_toArray, List.getElem_cons_zero, List.getElem_cons_succ, List.setIfInBounds_toArray, List.set_cons_zero, List.set_cons_succ]
          refine wpD_take (i := 2) (v := ?_) rfl (by kernel_rfl) (by kernel_rfl) (by kernel_rfl) (by kernel_rfl) (by kernel_rfl) (fun c a w h => h) (Or.inl ⟨by rfl, ?_⟩) hHeld ?_
          rotate_left
          · (intro w hSw; (try dsimp only at hSw); go_simp; try with_reducible rfl)
          simp only [Act.put, List.getElem_toArray, List.getElem_cons_zero, List.getElem_cons_succ, List.setIfInBounds_toArray, List.set_cons_zero, List.set_cons_succ]
          refine wpD_take (i := 5) (v := ?_) rfl (by kernel_rfl) (by kernel_rfl) (by kernel_rfl) (by kernel_rfl) (by kernel_rfl) (fun c a w h => h) (Or.inl ⟨by rfl, ?_⟩) hHeld ?_
          rotate_left
          · (intro w hSw; (try dsimp only at hSw); go_simp; try with_reducible rfl)
          simp only [Act.put, List.getElem_toArray, List.getElem_cons_zero, List.getElem_cons_succ, List.setIfInBounds_toArray, List.set_cons_zero, List.set_cons_succ]
          refine wpD_take (i := 6) (v := ?_) rfl (by kernel_rfl) (by kernel_rfl) (by kernel_rfl) (by kernel_rfl) (by kernel_rfl) (fun c a w h => h) (Or.inl ⟨by rfl, ?_⟩) hHeld ?_
          rotate_left
          · (intro w hSw; (try dsimp only at hSw); go_simp; try with_reducible rfl)
          simp only [Act.put, List.getElem_toArray, List.getElem_cons_zero, List.getElem_cons_succ, List.setIfInBounds_toArray, List.set_cons_zero, List.set_cons_succ]
          refine wpD_take (i := 7) (v := ?_) rfl (by kernel_rfl) (by kernel_rfl) (by kernel_rfl) (by kernel_rfl) (by kernel_rfl) (fun c a w h => h) (Or.inl ⟨by rfl, ?_⟩) hHeld ?_
          rotate_left
          · (intro w hSw; (try dsimp only at hSw); go_simp; try with_reducible rfl)
          simp only [Act.put, List.getElem_toArray, List.getElem_cons_zero, List.getElem_cons_succ, List.setIfInBounds_toArray, List.set_cons_zero, List.set_cons_succ]
          refine wpD_ready (rs := [3]) (by kernel_rfl) (by simp) ?_
          refine AllD.cons rfl (fun K hK => ?_) AllD.nil
          go_simp
          have kk : Below y0.heap.size y0 (y0.alloc (.cells #[.int .i64 77, .slice none 0 0] 82)) := (Below.refl _ _).alloc (Nat.le_refl _) _
          have hz : (y0.alloc (.cells #[.int .i64 77, .slice none 0 0] 82)).heap[y0.heap.size]? = some (.cells [.int .i64 77, .slice none 0 0].toArray 82 (0, 0)) := heap_alloc_new y0 _
          generalize y0.alloc (.cells #[.int .i64 77, .slice none 0 0] 82) = y2 at *
          obtain ⟨gn, hbn⟩ : ∃ bn, y0.heap.size = bn := ⟨_, rfl⟩
          have HBy2 := hid (HBy0.out.trans (kk.mono HBy0.out.size))
          have hcs : Cs y2 (.slice (some ⟨gn, 0, none⟩) 1 1) 2 1 [.int .i64 77, .slice none 0 0] := .inr ⟨_, _, rfl, rfl, fun j u hj => by rw [Addr.add_lit, Nat.zero_add, ← hbn]; exact cell_of y2 _ j _ _ u hz hj, by intro u hu; simp at hu; rcases hu with rfl | rfl <;> rfl⟩
          rw [hbn]
          refine hK.out _ _ (HMK.out _ (HBy2.out.block _ hg3b.1) (HBy2.out.block _ (by omega))) (fun hHeld => ?_)
          clear hK K kk hz hbn
          try simp only [Act.put, List.getElem_toArray, List.getElem_cons_zero, List.getElem_cons_succ, List.setIfInBounds_toArray, List.set_cons_zero, List.set_cons_succ]
          have HQ2 := hid (HK.out.1.next HBy2.out)
          have oR := (HK.out.2.2.1.step (T := 27) (KT.below HBy2.out) (by decide) (by decide)).2.1
          rw [HK.out.2.2.2] at oR
          have hsz : W.heap.size + 2 ≤ y2.heap.size := by have := HBy2.out.size; omega
          refine wpD_ready (rs := [4]) (by kernel_rfl) (by simp) ?_
          refine AllD.cons rfl (fun K hK => ?_) AllD.nil
          rw [if_pos (by rfl)]
          refine wp_append_row y2 (.tmp 44) (.tmp 46) 25 82 _ 2 32 Tryd.underlying25 info82 rfl (by decide) rfl (W.heap.size + 2) _ c.banks.length (bcs prs) (by simp [Act.eval]) oR _ 1 _ (by simp [Act.eval]) hcs (by omega) (by unfold maxLen; unfold room at hb1; omega) hsz (fun v5 w5 hr1 hg1 => ?_)
          obtain ⟨gb, cb, hv5⟩ := own_pos hr1 (by omega)
          subst hv5
          have hc5 := own_cap hr1
          have hc6 : (c.banks.length : Int) ≤ (cb : Int) := by omega
          have hc7 : c.banks.length ≤ cb := by omega
          have hbe : Below (W.heap.size + 2) y2 w5 := hg1.below (fun g hg => (World.ownsRow.lt oR g hg).1) hsz
          have hkt : KT 82 y2 w5 := KT.grown oR hg1
          have HQ5 := hid (HQ2.out.step hkt (by decide) (by decide) (hbe.mono (by omega)))
          have HG := hid (And.intro hr1 (And.intro hkt hbe))
          refine hK.out _ _ (HMK.out _ (HQ5.out.g.trans HK.out.1.g.symm) (HQ5.out.b1.trans HK.out.1.b1.symm)) (fun hHeld => ?_)
          clear hK K hr1 hg1 hbe hkt hcs oR
          try simp only [Act.put, List.getElem_toArray, List.getElem_cons_zero, List.getElem_cons_succ, List.setIfInBounds_toArray, List.set_cons_zero, List.set_cons_succ]
          refine wpD_take (i := 8) (v := ?_) rfl (by kernel_rfl) (by kernel_rfl) (by kernel_rfl) (by kernel_rfl) (by kernel_rfl) (fun c a w h => h) (Or.inl ⟨by rfl, ?_⟩) hHeld ?_
          rotate_left
          · (intro w hSw; (try dsimp only at hSw); go_simp; try with_reducible rfl)
          simp only [Act.put, List.getElem_toArray, List.getElem_cons_zero, List.getElem_cons_succ, List.setIfInBounds_toArray, List.set_cons_zero, List.set_cons_succ]
          refine wpD_take (i := 9) (v := ?_) rfl (by kernel_rfl) (by kernel_rfl) (by kernel_rfl) (by kernel_rfl) (by kernel_rfl) (fun c a w h => h) (Or.inl ⟨by rfl, ?_⟩) hHeld ?_
          rotate_left
          · (intro w hSw; (try dsimp only at hSw); go_simp; try with_reducible rfl)
          simp only [Act.put, List.getElem_toArray, List.getElem_cons_zero, List.getElem_cons_succ, List.setIfInBounds_toArray, List.set_cons_zero, List.set_cons_succ]
          have e5 := cell_of w5 g3 3 _ 27 _ HQ5.out.g rfl
          have f5 := frozen_of w5 g3 3 _ 27 HQ5.out.g
          refine wpD_ready (rs := [10]) (by kernel_rfl) (by simp) ?_
          refine AllD.late rfl (by kernel_rfl) (fun K hK => ?_)
          go_simp
          refine hK.out _ _ ?_
          clear hK K
          try simp only [Act.put, List.getElem_toArray, List.getElem_cons_zero, List.getElem_cons_succ, List.setIfInBounds_toArray, List.set_cons_zero, List.set_cons_succ]
          refine wpD_done (by kernel_rfl) ?_ _
          have ks : KT 27 w5 (w5.setCell ⟨g3, 3, none⟩ (.slice (some ⟨gb, 0, none⟩) c.banks.length cb)) := KT.set HQ5.out.g
          have HQz := hid (HQ5.out.set (eo' := (.slice (some ⟨ge, 0, none⟩) c.effs.length ce)) (bo' := (.slice (some ⟨gb, 0, none⟩) c.banks.length cb)) 3 (.slice (some ⟨gb, 0, none⟩) c.banks.length cb) rfl)
          have HEz := hid (show EO W (w5.setCell ⟨g3, 3, none⟩ (.slice (some ⟨gb, 0, none⟩) c.banks.length cb)) c ge ce from own_kt (own_kt (own_kt HK.out.2.1 (T := 27) (by decide) (KT.below HBy2.out)) (by decide) HG.out.2.1) (by decide) ks)
          have HBz := hid (And.intro (own_kt HG.out.1 (by decide) ks) (show ∀ x ∈ prs, Roomed (w5.setCell ⟨g3, 3, none⟩ (.slice (some ⟨gb, 0, none⟩) c.banks.length cb)) (W.heap.size + 2) x.2 x.1.2 from fun x hx => roomed_kt (roomed_kt (roomed_kt (HK.out.2.2.1.2.2 x hx) (T := 27) (by decide) (KT.below HBy2.out)) (by decide) HG.out.2.1) (by decide) ks))
          generalize w5.setCell ⟨g3, 3, none⟩ (.slice (some ⟨gb, 0, none⟩) c.banks.length cb) = yz at *
          clear e5 f5 ks
          have a0 := cell_of yz g3 0 _ 27 _ HQz.out.g rfl
          have a1 := cell_of yz g3 1 _ 27 _ HQz.out.g rfl
          have a2 := cell_of yz g3 2 _ 27 _ HQz.out.g rfl
          have a3 := cell_of yz g3 3 _ 27 _ HQz.out.g rfl
          have b2 := HQz.out.b2
          obtain ⟨gk, ck, hkv, _⟩ := HQz.out.code
          subst hkv
          go_wp2_with (refine wpList_store_row rfl 27 _ _ rfl (W.heap.size + 1) [.slice (some ⟨gk, 0, none⟩) c.code.length ck, .int .u16 (c.entry : Int), .slice (some ⟨ge, 0, none⟩) c.effs.length ce, .slice (some ⟨gb, 0, none⟩) c.banks.length cb].toArray rfl rfl 27 zCt.toArray b2 (by kernel_rfl) (by rfl) (by simp [Value.oneCell']) ?_)
          have hg := setRow_heap yz (W.heap.size + 1) _ [.slice (some ⟨gk, 0, none⟩) c.code.length ck, .int .u16 (c.entry : Int), .slice (some ⟨ge, 0, none⟩) c.effs.length ce, .slice (some ⟨gb, 0, none⟩) c.banks.length cb].toArray _ _ b2
          have kr : KT 27 yz (yz.setRow (W.heap.size + 1) [.slice (some ⟨gk, 0, none⟩) c.code.length ck, .int .u16 (c.entry : Int), .slice (some ⟨ge, 0, none⟩) c.effs.length ce, .slice (some ⟨gb, 0, none⟩) c.banks.length cb].toArray) := KT.row b2
          have hbf : Below (W.heap.size + 1) yz (yz.setRow (W.heap.size + 1) [.slice (some ⟨gk, 0, none⟩) c.code.length ck, .int .u16 (c.entry : Int), .slice (some ⟨ge, 0, none⟩) c.effs.length ce, .slice (some ⟨gb, 0, none⟩) c.banks.length cb].toArray) := ⟨rfl, rfl, rfl, by rw [size_setRow]; exact Nat.le_refl _, fun i hi => setRow_other _ _ i _ (by omega)⟩
          generalize yz.setRow (W.heap.size + 1) [.slice (some ⟨gk, 0, none⟩) c.code.length ck, .int .u16 (c.entry : Int), .slice (some ⟨ge, 0, none⟩) c.effs.length ce, .slice (some ⟨gb, 0, none⟩) c.banks.length cb].toArray = z6 at *
          have r0 := cell_of z6 (W.heap.size + 1) 0 _ 27 _ hg rfl
          have r1 := cell_of z6 (W.heap.size + 1) 1 _ 27 _ hg rfl
          have r2 := cell_of z6 (W.heap.size + 1) 2 _ 27 _ hg rfl
          have r3 := cell_of z6 (W.heap.size + 1) 3 _ 27 _ hg rfl
          refine bodyPost_ret (v := .agg #[.slice (some ⟨gk, 0, none⟩) c.code.length ck, .int .u16 (c.entry : Int), .slice (some ⟨ge, 0, none⟩) c.effs.length ce, .slice (some ⟨gb, 0, none⟩) c.banks.length cb]) (by simp [results, Tryd.results24, go_sem, r0, r1, r2, r3]) rfl ⟨_, ge, ce, gb, cb, rfl, prs, ⟨HQz.out.bel.trans (hbf.mono (by omega)), roomed_kt HQz.out.code (by decide) kr, own_kt HEz.out (by decide) kr, HK.out.2.2.1.1, own_kt HBz.out.1 (by decide) kr, fun x hx => roomed_kt (HBz.out.2 x hx) (by decide) kr⟩⟩
end Go.Proofs.YtmlpijjjkpnioaaDoor.C
