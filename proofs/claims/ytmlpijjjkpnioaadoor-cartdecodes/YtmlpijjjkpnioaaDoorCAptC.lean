import Derived.Test.YtmlpijjjkpnioaaDoorCApart8
import Derived.Test.YtmlpijjjkpnioaaDoorCRDecB
/-! CartDecodes' apart: all lists of a cartridge are written over and grown. -/
namespace Go.Proofs.YtmlpijjjkpnioaaDoor.C
open Go.RowKit
open Go.Proofs
open Go.Proofs.YtmlpijjjkpnioaaDoor.K
set_option linter.unusedVariables false
set_option linter.unusedSimpArgs false
set_option maxHeartbeats 4000000
set_option maxRecDepth 100000
theorem own_put {W : World} {B : Nat} {e : TypeId} {size n cap g : Nat} {xs : List Value} (h : W.ownsRow B e size (.slice (some ⟨g, 0, none⟩) n cap) n xs) (j : Nat) (hj : j < n * size) (u : Value) (hu : u.oneCell' = true) : (W.setCell ⟨g, j, none⟩ u).ownsRow B e size (.slice (some ⟨g, 0, none⟩) n cap) n (xs.set j u) := by
  refine ⟨by rw [List.length_set]; exact h.1, ?_⟩
  rcases h.2 with ⟨e, _⟩ | ⟨g', cap', cur, e, hB, hg, h1, h2, h3, h4⟩
  · cases e
  · simp only [Value.slice.injEq, Option.some.injEq, Addr.mk.injEq] at e
    obtain ⟨⟨rfl, _⟩, _, rfl⟩ := e
    refine .inr ⟨g, cap, cur.setIfInBounds j u, by simp, hB, heap_setCell_same W g j _ _ _ hg, by simpa using h1, h2, by simpa using h3, ?_⟩
    rw [Array.toList_setIfInBounds, List.take_set, h4]
theorem own_at {W : World} {B : Nat} {e : TypeId} {size n cap g : Nat} {xs : List Value} (h : W.ownsRow B e size (.slice (some ⟨g, 0, none⟩) n cap) n xs) (j : Nat) (hj : j < n * size) : ∃ u, W.cell? ⟨g, j, none⟩ = some u ∧ W.frozen? ⟨g, j, none⟩ = false := by
  have hl : j < xs.length := by rw [h.1]; exact hj
  have hc := World.ownsRow.cells h (g := g) rfl j _ (List.getElem?_eq_getElem hl)
  rw [Addr.add_lit, Nat.zero_add] at hc
  obtain ⟨cur, hg⟩ := own_block h g rfl
  exact ⟨_, hc, by simp [World.frozen?, hg]⟩
/-- While the lists are written over. -/
structure AR (fe fb : Bool) (B C : Nat) (W0 w : World) (c : Ct) (kv ev bv l : Value) (ne nb : Nat) (prs : List (Bk × Value)) (pv : List Value) : Prop where
  bel : Below B W0 w
  kq : ∀ g, C ≤ g → g < W0.heap.size → w.heap[g]? = W0.heap[g]?
  box : w.heap[W0.heap.size]? = some (.cells pv.toArray 27 (0, 0))
  code : Row w B kv c.code
  dat : ∀ x ∈ prs, Row w B x.2 x.1.2
  effs : fe = true → ∃ xs, w.ownsRow B 80 3 ev ne xs
  banks : fb = true → ∃ xs, w.ownsRow B 82 2 bv nb xs
  l : w.ownsRow (W0.heap.size + 1) 22 1 l (nb + 1) (kv :: prs.map Prod.snd)
theorem AR.step {T : TypeId} {fe fb fe' fb' : Bool} {B C : Nat} {W0 w w' : World} {c : Ct} {kv ev bv l : Value} {ne nb : Nat} {prs : List (Bk × Value)} {pv : List Value} (h : AR fe fb B C W0 w c kv ev bv l ne nb prs pv) (k : KT T w w') (h1 : 27 ≠ T) (h5 : 5 ≠ T) (h22 : 22 ≠ T) (b : Below B w w') (hq : ∀ g, C ≤ g → g < W0.heap.size → w'.heap[g]? = w.heap[g]?) (he : fe' = true → ∃ xs, w'.ownsRow B 80 3 ev ne xs) (hb : fb' = true → ∃ xs, w'.ownsRow B 82 2 bv nb xs) : AR fe' fb' B C W0 w' c kv ev bv l ne nb prs pv :=
  ⟨h.bel.trans b, fun g h1 h2 => (hq g h1 h2).trans (h.kq g h1 h2), k _ _ _ _ h1 h.box, row_kt h.code h5 k, fun x hx => row_kt (h.dat x hx) h5 k, he, hb, own_kt h.l h22 k⟩
theorem AR.next {fe fb : Bool} {B C : Nat} {W0 w w' : World} {c : Ct} {kv ev bv l : Value} {ne nb : Nat} {prs : List (Bk × Value)} {pv : List Value} (h : AR fe fb B C W0 w c kv ev bv l ne nb prs pv) (hB : B ≤ W0.heap.size) (b : Below w.heap.size w w') : AR fe fb B C W0 w' c kv ev bv l ne nb prs pv := by
  have hz := lt_of h.box
  refine h.step (T := 24) (KT.below b) (by decide) (by decide) (by decide) (b.mono (by omega)) (fun g _ h2 => b.block g (by omega)) (fun e => ?_) (fun e => ?_)
  · obtain ⟨xs, hx⟩ := h.effs e
    exact ⟨xs, own_kept hx fun g _ hg => b.block g hg⟩
  · obtain ⟨xs, hx⟩ := h.banks e
    exact ⟨xs, own_kept hx fun g _ hg => b.block g hg⟩
theorem AR.eff {fb : Bool} {B C : Nat} {W0 w : World} {c : Ct} {kv bv l : Value} {ne nb ge ec : Nat} {prs : List (Bk × Value)} {pv : List Value} (h : AR true fb B C W0 w c kv (.slice (some ⟨ge, 0, none⟩) ne ec) bv l ne nb prs pv) (hC : ge < C) (j : Nat) (hj : j < ne * 3) (u : Value) (hu : u.oneCell' = true) : AR true fb B C W0 (w.setCell ⟨ge, j, none⟩ u) c kv (.slice (some ⟨ge, 0, none⟩) ne ec) bv l ne nb prs pv := by
  obtain ⟨xs, hx⟩ := h.effs rfl
  obtain ⟨cur, hg⟩ := own_block hx ge rfl
  have hlt := World.ownsRow.lt hx ge rfl
  refine h.step (T := 80) (KT.set hg) (by decide) (by decide) (by decide) ⟨rfl, rfl, rfl, by simp [World.setCell], fun i hi => setCell_other _ _ _ _ _ (by omega)⟩ (fun g h1 _ => setCell_other _ _ _ _ _ (by omega)) (fun _ => ⟨_, own_put hx j hj u hu⟩) (fun e => ?_)
  obtain ⟨ys, hy⟩ := h.banks e
  exact ⟨ys, own_kt hy (by decide) (KT.set hg)⟩
theorem AR.bank {fe : Bool} {B C : Nat} {W0 w : World} {c : Ct} {kv ev l : Value} {ne nb gb bc : Nat} {prs : List (Bk × Value)} {pv : List Value} (h : AR fe true B C W0 w c kv ev (.slice (some ⟨gb, 0, none⟩) nb bc) l ne nb prs pv) (hC : gb < C) (j : Nat) (hj : j < nb * 2) (u : Value) (hu : u.oneCell' = true) : AR fe true B C W0 (w.setCell ⟨gb, j, none⟩ u) c kv ev (.slice (some ⟨gb, 0, none⟩) nb bc) l ne nb prs pv := by
  obtain ⟨xs, hx⟩ := h.banks rfl
  obtain ⟨cur, hg⟩ := own_block hx gb rfl
  have hlt := World.ownsRow.lt hx gb rfl
  refine h.step (T := 82) (KT.set hg) (by decide) (by decide) (by decide) ⟨rfl, rfl, rfl, by simp [World.setCell], fun i hi => setCell_other _ _ _ _ _ (by omega)⟩ (fun g h1 _ => setCell_other _ _ _ _ _ (by omega)) (fun e => ?_) (fun _ => ⟨_, own_put hx j hj u hu⟩)
  obtain ⟨ys, hy⟩ := h.effs e
  exact ⟨ys, own_kt hy (by decide) (KT.set hg)⟩
theorem kq_grew {w w' W0 : World} {v v' : Value} {C : Nat} (hg : Grew w w' v v') (hC : ∀ g, v.ownBlock = some g → g < C) (hs : W0.heap.size ≤ w.heap.size) : ∀ g, C ≤ g → g < W0.heap.size → w'.heap[g]? = w.heap[g]? := fun g h1 h2 => hg.block g (by omega) (fun e => by have := hC g e.symm; omega)
def vlA (kv : Value) (prs : List (Bk × Value)) (i : Nat) : Value := ((kv :: prs.map Prod.snd)[i]?).getD undef
def lsA (cd : List UInt8) (prs : List (Bk × Value)) (i : Nat) : List UInt8 := ((cd :: prs.map (fun x => x.1.2))[i]?).getD []
theorem AR.p8 {fe fb : Bool} {B C : Nat} {W0 w : World} {c : Ct} {kv ev bv : Value} {ne nb bl lc : Nat} {prs : List (Bk × Value)} {pv : List Value} (h : AR fe fb B C W0 w c kv ev bv (.slice (some ⟨bl, 0, none⟩) (nb + 1) lc) ne nb prs pv) (hB : B ≤ W0.heap.size) (hpl : prs.length = nb) (hnd : (kv :: prs.map Prod.snd).Pairwise Apt) (hC : ∀ g, (kv.ownBlock = some g ∨ ∃ x ∈ prs, x.2.ownBlock = some g) → g < C) :
    P8 (fun g => C ≤ g ∧ g < W0.heap.size) B bl (nb + 1) (vlA kv prs) (fun i => (lsA c.code prs i).length) w w (lsA c.code prs) := by
  have hz := lt_of h.box
  have hrow : ∀ i, i < nb + 1 → Row w B (vlA kv prs i) (lsA c.code prs i) := fun i hi => by
    match i, hi with
    | 0, _ => exact h.code
    | i + 1, hi =>
      have hlt : i < prs.length := by omega
      have e1 : vlA kv prs (i + 1) = prs[i].2 := by unfold vlA; rw [List.getElem?_cons_succ, List.getElem?_map, List.getElem?_eq_getElem hlt]; rfl
      have e2 : lsA c.code prs (i + 1) = prs[i].1.2 := by unfold lsA; rw [List.getElem?_cons_succ, List.getElem?_map, List.getElem?_eq_getElem hlt]; rfl
      rw [e1, e2]
      exact h.dat _ (List.getElem_mem hlt)
  have hget : ∀ i, i < nb + 1 → (kv :: prs.map Prod.snd)[i]? = some (vlA kv prs i) := fun i hi => by
    unfold vlA
    rw [List.getElem?_eq_getElem (by simp; omega)]
    rfl
  refine ⟨Below.refl _ _, by omega, fun i hi => ?_, ?_, hrow, fun i hi => rfl, fun i j hi hj hij x e1 e2 => ?_, fun x hx => rfl, fun i hi x hx hq => ?_⟩
  · have := World.ownsRow.cells h.l (g := bl) rfl i _ (hget i hi)
    rw [Addr.add_lit, Nat.zero_add] at this
    exact this
  · obtain ⟨cur, hg⟩ := own_block h.l bl rfl
    exact ⟨cur, hg⟩
  · rw [List.pairwise_iff_getElem] at hnd
    have hl : (kv :: prs.map Prod.snd).length = nb + 1 := by simp [hpl]
    have g1 : (kv :: prs.map Prod.snd)[i]'(by omega) = vlA kv prs i := by have := hget i hi; rw [List.getElem?_eq_getElem (by omega)] at this; exact Option.some.inj this
    have g2 : (kv :: prs.map Prod.snd)[j]'(by omega) = vlA kv prs j := by have := hget j hj; rw [List.getElem?_eq_getElem (by omega)] at this; exact Option.some.inj this
    rcases Nat.lt_or_gt_of_ne hij with hlt | hlt
    · have := hnd i j (by omega) (by omega) hlt
      rw [g1, g2] at this
      exact this x e1 e2
    · have := hnd j i (by omega) (by omega) hlt
      rw [g1, g2] at this
      exact this x e2 e1
  · have hm := List.mem_of_getElem? (hget i hi)
    rcases List.mem_cons.1 hm with e | hm
    · have := hC x (.inl (by rw [← e]; exact hx)); omega
    · obtain ⟨y, hy, e⟩ := List.mem_map.1 hm
      have := hC x (.inr ⟨y, hy, by rw [e]; exact hx⟩)
      omega
theorem apartc_any (v : Value) (c : Ct) (kv ev bv : Value) (prs : List (Bk × Value)) (B C : Nat) (W : World) (h : OwC W B v c kv ev bv prs) (hCW : C ≤ W.heap.size) (hBC : B ≤ W.heap.size) (hc1 : c.code.length ≤ 1048576) (he1 : c.effs.length ≤ 1048576) (hb1 : c.banks.length ≤ 16) (hd1 : ∀ x ∈ c.banks, x.2.length ≤ 1048576)
    (hC : ∀ g, (kv.ownBlock = some g ∨ ev.ownBlock = some g ∨ bv.ownBlock = some g ∨ ∃ x ∈ prs, x.2.ownBlock = some g) → g < C) :
    Calls Tryd.prog 22 #[v] W fun e w' => e = .returned (.bool true) ∧ Below B W w' ∧ ∀ g, C ≤ g → g < W.heap.size → w'.heap[g]? = W.heap[g]? := by
  have hnb : prs.length = c.banks.length := by rw [← h.map, List.length_map]
  obtain ⟨nb, hnb2⟩ : ∃ nb, nb = c.banks.length := ⟨_, rfl⟩
  obtain ⟨ne, hne⟩ : ∃ ne, ne = c.effs.length := ⟨_, rfl⟩
  have hpl : prs.length = nb := by omega
  have ow1 := h.effs
  have ow2 := h.banks
  rw [← hne] at ow1 he1
  rw [hpl] at ow2
  rw [← hnb2] at hb1
  obtain ⟨kp, kc, hkv⟩ := own_form h.code
  obtain ⟨ep, ec, hev⟩ := own_form ow1
  obtain ⟨bp, bc, hbv⟩ := own_form ow2
  obtain ⟨kn, hkn⟩ : ∃ kn, kn = c.code.length := ⟨_, rfl⟩
  rw [← hkn] at hkv
  have hval := h.val
  subst hkv hev hbv
  obtain ⟨W1, hW1⟩ : ∃ W1, W.alloc (.cells #[.slice kp kn kc, .int .u16 (c.entry : Int), .slice ep ne ec, .slice bp nb bc] 27) = W1 := ⟨_, rfl⟩
  have z1 : W1.heap.size = W.heap.size + 1 := by rw [← hW1]; simp
  have k1 : Below W.heap.size W W1 := by rw [← hW1]; exact (Below.refl _ _).alloc (Nat.le_refl _) _
  have v1 : W1.heap[W.heap.size]? = some (.cells [.slice kp kn kc, .int .u16 (c.entry : Int), .slice ep ne ec, .slice bp nb bc].toArray 27 (0, 0)) := by rw [← hW1]; exact heap_alloc_new W _
  have x0 := cell_of W1 W.heap.size 0 _ 27 _ v1 rfl
  obtain ⟨W2, hW2⟩ : ∃ W2, W1.alloc (.cells #[.slice kp kn kc] 22) = W2 := ⟨_, rfl⟩
  have k2 : Below (W.heap.size + 1) W1 W2 := by rw [← hW2, ← z1]; exact (Below.refl _ _).alloc (Nat.le_refl _) _
  have o2 : W2.ownsRow (W.heap.size + 1) 22 1 (.slice (some ⟨W.heap.size + 1, 0, none⟩) 1 1) 1 [.slice kp kn kc] :=
    ⟨rfl, .inr ⟨W.heap.size + 1, 1, #[.slice kp kn kc], rfl, Nat.le_refl _, by rw [← hW2, ← z1]; exact heap_alloc_new W1 _, Nat.le_refl _, by decide, rfl, rfl⟩⟩
  have H := hid h
  have HK1 := hid (And.intro k1 (And.intro v1 z1))
  have HK2 := hid k2
  have HO2 := hid o2
  have HW1 := hid hW1
  have HW2 := hid hW2
  have HC := hid hC
  have HD := hid hd1
  have HPL := hid hpl
  have HN := hid (And.intro hnb2 (And.intro hne hkn))
  have x3 := below_cell (k2.mono (show W1.heap.size ≤ W.heap.size + 1 by omega)) _ _ (cell_of W1 W.heap.size 3 _ 27 _ v1 rfl)
  rw [hval]
  clear h hval k1 v1 k2 o2 hW1 hW2 hC hd1 hnb hnb2 hne hpl hkn ow1 ow2 z1
  go_enter Tryd.func22, Tryd.ntmps22
  go_upto_region 1 with fail
  rw [HW1.out]
  go_upto_region 2 with fail
  rw [HW2.out, HK1.out.2.2]
  clear x0
  go_wp2
  clear x3
  go_loopw [3, 14] (fun l i wr => ∃ k : Nat, k ≤ nb ∧ i = .int .i64 (k : Int) ∧ Below (W.heap.size + 1) W1 wr ∧ wr.ownsRow (W.heap.size + 1) 22 1 l (k + 1) (.slice kp kn kc :: (prs.map Prod.snd).take k)) (fun _ i _ => nb - (intOf i).toNat)
  case atStart => exact ⟨0, by omega, rfl, HK2.out, by rw [List.take_zero]; exact HO2.out⟩
  case round =>
    obtain ⟨k, hk, rfl, hB, hL⟩ := hrel
    obtain ⟨lp, lc, hl⟩ := own_form hL
    subst hl
    have kW : Below W.heap.size W wr := HK1.out.1.trans (hB.mono (by omega))
    by_cases hlt : k < nb
    · have i1 : (k : Int) < nb := by omega
      have ow2 := (H.out.below kW).banks
      rw [HPL.out] at ow2
      obtain ⟨gb, cb, hgb⟩ := own_pos ow2 (by omega)
      cases hgb
      have hlp : k < prs.length := by rw [HPL.out]; exact hlt
      have ek := List.getElem?_eq_getElem hlp
      have hmem := List.getElem_mem hlp
      have etk : (prs.map Prod.snd).take (k + 1) = (prs.map Prod.snd).take k ++ [prs[k].2] := by
        rw [List.take_add_one, List.getElem?_map, ek]; rfl
      generalize prs[k] = t at *
      obtain ⟨b1, b2⟩ := bcs_get prs k t ek
      have c0 := World.ownsRow.cells ow2 (g := gb) rfl _ _ b1
      have c1 := World.ownsRow.cells ow2 (g := gb) rfl _ _ b2
      rw [Addr.add_lit, Nat.zero_add] at c0 c1
      obtain ⟨qd, cd, hq⟩ := own_form ((H.out.below kW).dat t hmem)
      rw [hq] at c1 etk
      obtain ⟨W3, hW3⟩ : ∃ W3, wr.alloc (.cells #[.int .i64 t.1.1, .slice qd t.1.2.length cd] 82) = W3 := ⟨_, rfl⟩
      have k3 : Below wr.heap.size wr W3 := by rw [← hW3]; exact (Below.refl _ _).alloc (Nat.le_refl _) _
      have x5 : W3.cell? ⟨wr.heap.size, 1, none⟩ = some (.slice qd t.1.2.length cd) := cell_of W3 _ 1 [.int .i64 t.1.1, .slice qd t.1.2.length cd] 82 _ (by rw [← hW3]; exact heap_alloc_new wr _) rfl
      obtain ⟨W4, hW4⟩ : ∃ W4, W3.alloc (.cells #[.slice qd t.1.2.length cd] 22) = W4 := ⟨_, rfl⟩
      have k4 : Below W3.heap.size W3 W4 := by rw [← hW4]; exact (Below.refl _ _).alloc (Nat.le_refl _) _
      have x6 : W4.cell? ⟨W3.heap.size, 0, none⟩ = some (.slice qd t.1.2.length cd) := cell_of W4 _ 0 [.slice qd t.1.2.length cd] 22 _ (by rw [← hW4]; exact heap_alloc_new W3 _) rfl
      have hz : W.heap.size + 1 ≤ wr.heap.size := by have := hB.size; have := HK1.out.2.2; omega
      have k5 : Below wr.heap.size wr W4 := k3.trans (k4.mono k3.size)
      have hz4 : W.heap.size + 1 ≤ W4.heap.size := Nat.le_trans hz k5.size
      have hL4 := own_kept hL fun g _ hg => k5.block g hg
      have hB4 := hB.trans (k5.mono hz)
      have HW3 := hid hW3
      have HW4 := hid hW4
      have HB4 := hid hB4
      have HET := hid etk
      have HL4 := hid hL4
      clear hB hL kW ow2 ek hmem b1 b2 hq hW3 hW4 k3 k4 k5 hB4 etk hL4
      have x3 := cell_of wr W.heap.size 3
      clear x3
      go_upto_region 5 with fail
      rw [HW3.out]
      clear c0 c1
      go_wp2_with (first | (at_builtin; rw [HW4.out]; refine wpList_append_slice _ rfl _ _ rfl (W.heap.size + 1) _ (k + 1) _ rfl HL4.out W3.heap.size (.slice qd t.1.2.length cd) rfl rfl x6 (by omega) hz4 ?_))
      intro v' w' hr1 hr2 hr3
      have hB5 := grown_below HB4.out hr2 (fun x hx => (World.ownsRow.lt HL4.out x hx).1) hz4
      have HR1 := hid (show w'.ownsRow (W.heap.size + 1) 22 1 v' (k + 1 + 1) (.slice kp kn kc :: (prs.map Prod.snd).take (k + 1)) by rw [HET.out]; exact hr1)
      have HB5 := hid hB5
      clear hr1 hr2 hr3 hB5 x5 x6
      go_wp2
      go_roundw
      case rel =>
        first
          | exact ⟨k + 1, by omega, by go_num, HB5.out, HR1.out⟩
          | exact ⟨k + 1, by omega, by omega, HB5.out, HR1.out⟩
          | ((repeat apply Exists.intro); refine ⟨⟨k + 1, by omega, ?_, HB5.out, HR1.out⟩, rfl⟩; go_num)
      case measure => simp [intOf]; omega
    · obtain rfl : k = nb := by omega
      have hA : AR true true B C W wr c (.slice kp kn kc) (.slice ep ne ec) (.slice bp k bc) (.slice lp (k + 1) lc) ne k prs [.slice kp kn kc, .int .u16 (c.entry : Int), .slice ep ne ec, .slice bp k bc] := by
        have hk := H.out.below kW
        refine ⟨kW.mono hBC, fun g _ h2 => kW.block g h2, (hB.block _ (by omega)).trans HK1.out.2.1, hk.code, hk.dat, (fun _ => by have := hk.effs; rw [← HN.out.2.1] at this; exact ⟨_, this⟩), (fun _ => by have := hk.banks; rw [HPL.out] at this; exact ⟨_, this⟩), ?_⟩
        · rw [List.take_of_length_le (by rw [List.length_map, HPL.out]; exact Nat.le_refl _)] at hL; exact hL
      have HA := hid hA
      have x2 := cell_of wr W.heap.size 2 _ 27 _ hA.box rfl
      clear hA hB hL kW HK1 HK2 HO2 HW1 HW2
      have n1 : ¬ (k : Int) < (k : Int) := by omega
      go_wp2
      clear x2
      go_loopw [27] (fun i wr => ∃ j : Nat, j ≤ ne ∧ i = .int .i64 (j : Int) ∧ AR true true B C W wr c (.slice kp kn kc) (.slice ep ne ec) (.slice bp k bc) (.slice lp (k + 1) lc) ne k prs [.slice kp kn kc, .int .u16 (c.entry : Int), .slice ep ne ec, .slice bp k bc]) (fun i _ => ne - (intOf i).toNat)
      case atStart => exact ⟨0, by omega, rfl, HA.out⟩
      case round =>
        clear HA
        obtain ⟨j, hj, rfl, hA⟩ := hrel
        by_cases hlt : j < ne
        · have i1 : (j : Int) < ne := by omega
          obtain ⟨xs, hx⟩ := hA.effs rfl
          obtain ⟨ge, ce, hge⟩ := own_pos hx (by omega)
          cases hge
          have hgC := HC.out ge (.inr (.inl rfl))
          obtain ⟨u0, c0, f0⟩ := own_at hx (j * 3) (by omega)
          obtain ⟨u1, c1, f1⟩ := own_at hx (j * 3 + 1) (by omega)
          obtain ⟨u2, c2, f2⟩ := own_at hx (j * 3 + 2) (by omega)
          have x2 := cell_of wr W.heap.size 2 _ 27 _ hA.box rfl
          have hA2 := ((hA.eff hgC (j * 3) (by omega) (.int .u16 1) rfl).eff hgC (j * 3 + 1) (by omega) (.int .i64 2) rfl).eff hgC (j * 3 + 2) (by omega) (.int .i64 3) rfl
          have HA := hid hA2
          have HH := hid hA
          clear hA hA2 hx
          go_wp2
          go_roundw
          case rel =>
            first
              | exact ⟨j + 1, by omega, by go_num, HA.out⟩
              | exact ⟨j + 1, by omega, by omega, HA.out⟩
          case measure => simp [intOf]; omega
        · obtain rfl : j = ne := by omega
          have HA := hid hA
          have x3 := cell_of wr W.heap.size 3 _ 27 _ hA.box rfl
          clear hA
          have n2 : ¬ (j : Int) < (j : Int) := by omega
          go_wp2
          clear x3
          go_loopw [39] (fun i wr => ∃ q : Nat, q ≤ k ∧ i = .int .i64 (q : Int) ∧ AR true true B C W wr c (.slice kp kn kc) (.slice ep j ec) (.slice bp k bc) (.slice lp (k + 1) lc) j k prs [.slice kp kn kc, .int .u16 (c.entry : Int), .slice ep j ec, .slice bp k bc]) (fun i _ => k - (intOf i).toNat)
          case atStart => exact ⟨0, by omega, rfl, HA.out⟩
          case round =>
            clear HA
            obtain ⟨q, hq, rfl, hA⟩ := hrel
            by_cases hlt : q < k
            · have i1 : (q : Int) < k := by omega
              obtain ⟨xs, hx⟩ := hA.banks rfl
              obtain ⟨gb, cb, hgb⟩ := own_pos hx (by omega)
              cases hgb
              have hgC := HC.out gb (.inr (.inr (.inl rfl)))
              obtain ⟨u0, c0, f0⟩ := own_at hx (q * 2) (by omega)
              have x3 := cell_of wr W.heap.size 3 _ 27 _ hA.box rfl
              have hA2 := hA.bank hgC (q * 2) (by omega) (.int .i64 78) rfl
              have HA := hid hA2
              have HH := hid hA
              clear hA hA2 hx
              go_wp2
              go_roundw
              case rel =>
                first
                  | exact ⟨q + 1, by omega, by go_num, HA.out⟩
                  | exact ⟨q + 1, by omega, by omega, HA.out⟩
              case measure => simp [intOf]; omega
            · obtain rfl : q = k := by omega
              have HA := hid hA
              have x2 := cell_of wr W.heap.size 2 _ 27 _ hA.box rfl
              obtain ⟨W5, hW5⟩ : ∃ W5, wr.alloc (.cells #[.int .u16 0, .int .i64 0, .int .i64 0, .int .u16 0, .int .i64 0, .int .i64 0] 80) = W5 := ⟨_, rfl⟩
              have k5 : Below wr.heap.size wr W5 := by rw [← hW5]; exact (Below.refl _ _).alloc (Nat.le_refl _) _
              have v5 : W5.heap[wr.heap.size]? = some (.cells [.int .u16 0, .int .i64 0, .int .i64 0, .int .u16 0, .int .i64 0, .int .i64 0].toArray 80 (0, 0)) := by rw [← hW5]; exact heap_alloc_new wr _
              have hA5 := hA.next hBC k5
              have hcs : Cs W5 (.slice (some ⟨wr.heap.size, 0, none⟩) 2 2) 3 2 [.int .u16 0, .int .i64 0, .int .i64 0, .int .u16 0, .int .i64 0, .int .i64 0] := .inr ⟨_, _, rfl, rfl, fun i u hi => by rw [Addr.add_lit, Nat.zero_add]; exact cell_of W5 _ i _ _ u v5 hi, by intro u hu; simp only [List.mem_cons, List.not_mem_nil, or_false] at hu; rcases hu with rfl | rfl | rfl | rfl | rfl | rfl <;> rfl⟩
              obtain ⟨xs, hx⟩ := hA5.effs rfl
              have hs5 : B ≤ W5.heap.size := by have := lt_of hA5.box; omega
              have HA5 := hid hA5
              have HW5 := hid hW5
              have n3 : ¬ (q : Int) < (q : Int) := by omega
              clear hA hA5 k5 v5 hW5 HA
              go_upto_region 17 with fail
              clear n3
              go_wp2_with (first | (at_builtin; rw [HW5.out]; refine wpList_append_row _ rfl _ _ 24 80 _ 3 24 Tryd.underlying24 infoE rfl (by decide) rfl B _ j xs rfl hx _ 2 _ rfl hcs (by unfold room; omega) (by unfold maxLen; omega) hs5 ?_))
              intro v6 w6 hr6 hg6
              have hb6 : Below B W5 w6 := hg6.below (fun g e => (World.ownsRow.lt hx g e).1) hs5
              have hA6 : AR false true B C W w6 c (.slice kp kn kc) (.slice ep j ec) (.slice bp q bc) (.slice lp (q + 1) lc) j q prs [.slice kp kn kc, .int .u16 (c.entry : Int), .slice ep j ec, .slice bp q bc] := by
                have hk := KT.grown hx hg6
                refine HA5.out.step hk (by decide) (by decide) (by decide) hb6 (kq_grew hg6 (fun g e => HC.out g (.inr (.inl e))) (by have := lt_of HA5.out.box; omega)) (fun e => by cases e) (fun e => ?_)
                obtain ⟨ys, hy⟩ := HA5.out.banks rfl
                exact ⟨ys, own_kt hy (by decide) hk⟩
              have HA6 := hid hA6
              clear hA6 hb6 hr6 hg6 hx hcs HA5 x2 hs5
              have x3 := cell_of w6 W.heap.size 3 _ 27 _ HA6.out.box rfl
              obtain ⟨W7, hW7⟩ : ∃ W7, w6.alloc (.cells #[.int .i64 0, .slice none 0 0, .int .i64 0, .slice none 0 0] 82) = W7 := ⟨_, rfl⟩
              have k7 : Below w6.heap.size w6 W7 := by rw [← hW7]; exact (Below.refl _ _).alloc (Nat.le_refl _) _
              have v7 : W7.heap[w6.heap.size]? = some (.cells [.int .i64 0, .slice none 0 0, .int .i64 0, .slice none 0 0].toArray 82 (0, 0)) := by rw [← hW7]; exact heap_alloc_new w6 _
              have hA7 := HA6.out.next hBC k7
              have hcs : Cs W7 (.slice (some ⟨w6.heap.size, 0, none⟩) 2 2) 2 2 [.int .i64 0, .slice none 0 0, .int .i64 0, .slice none 0 0] := .inr ⟨_, _, rfl, rfl, fun i u hi => by rw [Addr.add_lit, Nat.zero_add]; exact cell_of W7 _ i _ _ u v7 hi, by intro u hu; simp only [List.mem_cons, List.not_mem_nil, or_false] at hu; rcases hu with rfl | rfl | rfl | rfl <;> rfl⟩
              obtain ⟨ys, hy⟩ := hA7.banks rfl
              have hs7 : B ≤ W7.heap.size := by have := lt_of hA7.box; omega
              have HA7 := hid hA7
              have HW7 := hid hW7
              clear hA7 k7 v7 hW7 HA6
              go_upto_region 18 with fail
              go_wp2_with (first | (at_builtin; rw [HW7.out]; refine wpList_append_row _ rfl _ _ 25 82 _ 2 32 Tryd.underlying25 info82 rfl (by decide) rfl B _ q ys rfl hy _ 2 _ rfl hcs (by unfold room; omega) (by unfold maxLen; omega) hs7 ?_))
              intro v8 w8 hr8 hg8
              have hb8 : Below B W7 w8 := hg8.below (fun g e => (World.ownsRow.lt hy g e).1) hs7
              have hA8 : AR false false B C W w8 c (.slice kp kn kc) (.slice ep j ec) (.slice bp q bc) (.slice lp (q + 1) lc) j q prs [.slice kp kn kc, .int .u16 (c.entry : Int), .slice ep j ec, .slice bp q bc] :=
                HA7.out.step (KT.grown hy hg8) (by decide) (by decide) (by decide) hb8 (kq_grew hg8 (fun g e => HC.out g (.inr (.inr (.inl e)))) (by have := lt_of HA7.out.box; omega)) (fun e => by cases e) (fun e => by cases e)
              clear hb8 hr8 hg8 hy hcs HA7 x3 hs7
              obtain ⟨bl, lc2, hbl⟩ := own_pos hA8.l (by omega)
              cases hbl
              have hp8 := hA8.p8 hBC HPL.out H.out.nd (fun g e => HC.out g (e.imp id (fun e => .inr (.inr e))))
              have hap := apart_q _ B bl (q + 1) _ (own_cap hA8.l) (by omega) _ _ _ w8 hp8 (fun i hi => ?_) (fun x hx => by have := lt_of hA8.box; omega)
              rotate_left
              · show (lsA c.code prs i).length + 200 ≤ room
                unfold room
                match i, hi with
                | 0, _ => show c.code.length + 200 ≤ _; omega
                | i + 1, hi =>
                  have hlt : i < prs.length := by rw [HPL.out]; omega
                  have e2 : lsA c.code prs (i + 1) = prs[i].1.2 := by unfold lsA; rw [List.getElem?_cons_succ, List.getElem?_map, List.getElem?_eq_getElem hlt]; rfl
                  rw [e2]
                  have := HD.out prs[i].1 (by rw [← H.out.map]; exact List.mem_map_of_mem (List.getElem_mem hlt))
                  omega
              have HA8 := hid hA8
              clear hA8 hp8
              go_wp2_with fail
              refine hap.mono ?_
              rintro e w9 ⟨rfl, k9, q9⟩
              have HR := hid (show Below B W w9 ∧ ∀ g, C ≤ g → g < W.heap.size → w9.heap[g]? = W.heap[g]? from ⟨HA8.out.bel.trans k9, fun g h1 h2 => (q9 g ⟨h1, h2⟩).trans (HA8.out.kq g h1 h2)⟩)
              clear k9 q9 hap
              go_wp2
              go_ret
              exact ⟨rfl, HR.out.1, HR.out.2⟩
end Go.Proofs.YtmlpijjjkpnioaaDoor.C
