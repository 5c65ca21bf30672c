import Derived.Test.YteeanomkbclinaaYNodes
import Derived.Test.YteeanomkbclinaaYDrop
/-! OwnNodes: nodes in lists of their own, with a mark behind each list. -/
namespace Go.Proofs.Yteeanomkbclinaa.Y
open Go.RowKit
open Go.Proofs
set_option linter.unusedVariables false
set_option linter.unusedSimpArgs false
set_option maxHeartbeats 4000000
set_option maxRecDepth 100000
/-- How many nodes there are, all told. -/
def nn : Nd → Nat
  | ⟨_, _, _, _, th, el, _, _⟩ => 1 + (th.map nn).sum + (el.map nn).sum
def nl (l : List Nd) : Nat := (l.map nn).sum
theorem nn_is (n : Nd) : nn n = 1 + nl n.th + nl n.el := by cases n; rw [nn]; rfl
theorem nl_cons (n : Nd) (r : List Nd) : nl (n :: r) = nn n + nl r := by simp [nl]
theorem nl_len : ∀ l : List Nd, l.length ≤ nl l
  | [] => Nat.le_refl _
  | n :: r => by have := nl_len r; rw [nl_cons, nn_is, List.length_cons]; omega
theorem nl_mem : ∀ {l : List Nd} {n : Nd}, n ∈ l → nn n ≤ nl l
  | m :: r, n, h => by
    rw [nl_cons]
    rcases List.mem_cons.1 h with rfl | h
    · omega
    · have := nl_mem h; omega
theorem nl_th {l : List Nd} {n : Nd} (h : n ∈ l) : nl n.th ≤ nl l := by have := nl_mem h; rw [nn_is] at this; omega
theorem nl_el {l : List Nd} {n : Nd} (h : n ∈ l) : nl n.el ≤ nl l := by have := nl_mem h; rw [nn_is] at this; omega
/-- One step: a list of one's own, a mark behind it. -/
def WF (W : World) (O : Nat → Prop) (R : Value → List Nd → Prop) (v : Value) (l : List Nd) : Prop :=
  ∃ b c, v = .slice (some ⟨b, 0, none⟩) l.length c ∧ O b ∧ l.length < c ∧ l.length ≤ 1048576 ∧ W.cell? ⟨b, l.length * 9, none⟩ = some (.int .i64 77) ∧ ∀ (i : Nat) (n : Nd), l[i]? = some n →
    ∃ tv ev : Value, (∀ (j : Nat) (x : Value), (ndc n tv ev)[j]? = some x → W.cell? ⟨b, i * 9 + j, none⟩ = some x) ∧ R tv n.th ∧ R ev n.el
theorem WF.mono {W : World} {O : Nat → Prop} {R R' : Value → List Nd → Prop} {v : Value} {l : List Nd} (h : WF W O R v l) (k : ∀ v l, R v l → R' v l) : WF W O R' v l := by
  obtain ⟨b, c, e1, e2, e3, e4, e5, e6⟩ := h
  refine ⟨b, c, e1, e2, e3, e4, e5, fun i n hi => ?_⟩
  obtain ⟨tv, ev, hc, ht, he⟩ := e6 i n hi
  exact ⟨tv, ev, hc, k _ _ ht, k _ _ he⟩
def WN (W : World) (O : Nat → Prop) (v : Value) (l : List Nd) : Prop := ∀ R : Value → List Nd → Prop, (∀ v l, WF W O R v l → R v l) → R v l
theorem WN.shut {W : World} {O : Nat → Prop} {v : Value} {l : List Nd} (h : WF W O (WN W O) v l) : WN W O v l := fun R hR => hR v l (h.mono fun v l hv => hv R hR)
theorem WN.out {W : World} {O : Nat → Prop} {v : Value} {l : List Nd} (h : WN W O v l) : WF W O (WN W O) v l := h (WF W O (WN W O)) fun v l hv => hv.mono fun v l h => WN.shut h
theorem WN.kept {W W' : World} {O O' : Nat → Prop} {v : Value} {l : List Nd} (h : WN W O v l) (k : ∀ i, O i → W'.heap[i]? = W.heap[i]?) (m : ∀ i, O i → O' i) : WN W' O' v l := by
  refine h (WN W' O') fun v l hv => WN.shut ?_
  obtain ⟨b, c, e1, e2, e3, e4, e5, e6⟩ := hv
  refine ⟨b, c, e1, m _ e2, e3, e4, (World.cell?_of_block (w := W) (a := ⟨b, l.length * 9, none⟩) (k b e2)).trans e5, fun i n hi => ?_⟩
  obtain ⟨tv, ev, hc, ht, he⟩ := e6 i n hi
  exact ⟨tv, ev, fun j x hx => (World.cell?_of_block (w := W) (a := ⟨b, i * 9 + j, none⟩) (k b e2)).trans (hc j x hx), ht, he⟩
theorem WN.nv {W : World} {O : Nat → Prop} {v : Value} {l : List Nd} (h : WN W O v l) : NV W O v l := by
  refine h (NV W O) fun v l hv => NV.shut ?_
  obtain ⟨b, c, e1, e2, e3, e4, e5, e6⟩ := hv
  refine .inr ⟨b, 0, c, e1, e2, by omega, fun i n hi => ?_⟩
  obtain ⟨tv, ev, hc, ht, he⟩ := e6 i n hi
  exact ⟨tv, ev, fun j x hx => by rw [Nat.zero_add]; exact hc j x hx, ht, he⟩
theorem WN.ex {W : World} {O : Nat → Prop} {v : Value} {l : List Nd} (h : WN W O v l) : ∃ b c, v = .slice (some ⟨b, 0, none⟩) l.length c := by
  obtain ⟨b, c, e1, _⟩ := h.out
  exact ⟨b, c, e1⟩
/-- The cells of nodes whose lists are their own. -/
def WC (W : World) (O : Nat → Prop) : List Nd → List Value → Prop
  | [], cs => cs = []
  | n :: r, cs => ∃ tv ev cs', cs = ndc n tv ev ++ cs' ∧ WN W O tv n.th ∧ WN W O ev n.el ∧ WC W O r cs'
theorem WC.kept {W W' : World} {O O' : Nat → Prop} (k : ∀ i, O i → W'.heap[i]? = W.heap[i]?) (m : ∀ i, O i → O' i) : ∀ {l : List Nd} {cs : List Value}, WC W O l cs → WC W' O' l cs
  | [], cs, h => h
  | n :: r, cs, h => by
    obtain ⟨tv, ev, cs', e, h1, h2, h3⟩ := h
    exact ⟨tv, ev, cs', e, h1.kept k m, h2.kept k m, WC.kept k m h3⟩
theorem WC.app {W : World} {O : Nat → Prop} : ∀ {l l' : List Nd} {cs cs' : List Value}, WC W O l cs → WC W O l' cs' → WC W O (l ++ l') (cs ++ cs')
  | [], l', cs, cs', h, h' => by rw [WC] at h; subst h; exact h'
  | n :: r, l', cs, cs', h, h' => by
    obtain ⟨tv, ev, cs1, rfl, h1, h2, h3⟩ := h
    exact ⟨tv, ev, cs1 ++ cs', by rw [List.append_assoc], h1, h2, WC.app h3 h'⟩
theorem WC.get {W : World} {O : Nat → Prop} : ∀ {l : List Nd} {cs : List Value}, WC W O l cs → ∀ (i : Nat) (n : Nd), l[i]? = some n → ∃ tv ev, (∀ (j : Nat) (x : Value), (ndc n tv ev)[j]? = some x → cs[i * 9 + j]? = some x) ∧ WN W O tv n.th ∧ WN W O ev n.el
  | [], cs, h, i, n, hi => by simp at hi
  | m :: r, cs, h, 0, n, hi => by
    obtain ⟨tv, ev, cs1, rfl, h1, h2, h3⟩ := h
    simp at hi; subst hi
    exact ⟨tv, ev, fun j x hx => by rw [Nat.zero_mul, Nat.zero_add, List.getElem?_append_left (List.getElem?_eq_some_iff.1 hx).1]; exact hx, h1, h2⟩
  | m :: r, cs, h, i + 1, n, hi => by
    obtain ⟨tv, ev, cs1, rfl, h1, h2, h3⟩ := h
    obtain ⟨t, e, hc, ht, he⟩ := WC.get h3 i n (by simpa using hi)
    refine ⟨t, e, fun j x hx => ?_, ht, he⟩
    rw [List.getElem?_append_right (by rw [ndc_len]; omega), ndc_len, show (i + 1) * 9 + j - 9 = i * 9 + j by omega]
    exact hc j x hx
/-- While the lists are made. -/
structure OL (W wr : World) (l : List Nd) (k : Nat) (out : Value) : Prop where
  bel : Below W.heap.size W wr
  ex : ∃ (U : Nat → Prop) (cs : List Value), (∀ i, U i → W.heap.size ≤ i ∧ i < wr.heap.size ∧ out.ownBlock ≠ some i) ∧ WC wr U (l.take k) cs ∧ wr.ownsRow W.heap.size 38 9 out k cs
theorem OL.next {W w w' : World} {l : List Nd} {k : Nat} {out : Value} (h : OL W w l k out) (b : Below w.heap.size w w') : OL W w' l k out := by
  obtain ⟨U, cs, h1, h2, h3⟩ := h.ex
  exact ⟨h.bel.trans (b.mono h.bel.size), U, cs, fun i hi => ⟨(h1 i hi).1, Nat.lt_of_lt_of_le (h1 i hi).2.1 b.size, (h1 i hi).2.2⟩, h2.kept (fun i hi => b.block i (h1 i hi).2.1) (fun _ h => h), S.own_kept h3 fun g _ hg => b.block g hg⟩
def ON (l : List Nd) : Prop := ∀ (v : Value) (O : Nat → Prop) (W : World), (∀ i, O i → i < W.heap.size) → NV W O v l → nl l ≤ 1048576 →
    Calls Try.prog 21 #[v] W fun e w' => ∃ v', e = .returned v' ∧ WN w' (fun i => W.heap.size ≤ i ∧ i < w'.heap.size) v' l ∧ Below W.heap.size W w'
theorem ndc_one (n : Nd) (tv ev : Value) (h1 : ∃ p m c, tv = .slice p m c) (h2 : ∃ p m c, ev = .slice p m c) : ∀ u ∈ ndc n tv ev, u.oneCell' = true := by
  obtain ⟨_, _, _, rfl⟩ := h1
  obtain ⟨_, _, _, rfl⟩ := h2
  intro u hu
  simp only [ndc, List.mem_cons, List.not_mem_nil, or_false] at hu
  rcases hu with rfl | rfl | rfl | rfl | rfl | rfl | rfl | rfl | rfl <;> rfl
theorem own_is {W : World} {B : Nat} {e : TypeId} {size : Nat} {v : Value} {n : Nat} {xs : List Value} (h : W.ownsRow B e size v n xs) : ∃ p c, v = .slice p n c := by
  rcases h.2 with ⟨rfl, rfl⟩ | ⟨g', cap, cur, rfl, h2, _⟩
  · exact ⟨_, _, rfl⟩
  · exact ⟨_, _, rfl⟩
theorem own_cap {W : World} {B : Nat} {e : TypeId} {size n c g : Nat} {xs : List Value} (h : W.ownsRow B e size (.slice (some ⟨g, 0, none⟩) n c) n xs) : n ≤ c := by
  rcases h.2 with ⟨h', _⟩ | ⟨g', cap', cur, h', _, _, hnc, _⟩
  · simp at h'
  · cases h'; exact hnc
/-- What stands behind each list. -/
def mark : Nd := ⟨77, 0, 0, ⟨#[]⟩, [], [], false, (0, 0)⟩
theorem below_set2 {B b : Nat} {w0 w : World} (h : Below B w0 w) (hb : B ≤ b) (x y : Value) (i j : Nat) : Below B w0 ((w.setCell ⟨b, i, none⟩ x).setCell ⟨b, j, none⟩ y) :=
  ⟨h.os, h.tape, h.output, by rw [S.setCell_size, S.setCell_size]; exact h.size, fun k hk => (S.setCell_other _ _ _ _ _ (by omega)).trans ((S.setCell_other _ _ _ _ _ (by omega)).trans (h.block k hk))⟩
theorem own_of (l : List Nd) (hn : ∀ m ∈ l, ON m.th ∧ ON m.el) : ON l := by
  intro v O W hO h hsz
  obtain ⟨p, c, rfl, hl, hp⟩ := h.ex
  have hll := nl_len l
  clear h
  go_enter Try.func21, Try.ntmps21
  go_wp2
  go_loopw [3, 4] (fun s i wr => ∃ k : Nat, k ≤ l.length ∧ i = .int .i64 (k : Int) ∧ OL W wr l k s) (fun _ i _ => l.length - (intOf i).toNat)
  case atStart => exact ⟨0, by omega, rfl, Below.refl _ _, fun _ => False, [], fun _ h => h.elim, rfl, World.ownsRow_nil W _ _ _⟩
  case round =>
    obtain ⟨k, hk, rfl, hL⟩ := hrel
    by_cases hlt : k < l.length
    · have i1 : (k : Int) < l.length := by omega
      have ea := List.getElem?_eq_getElem hlt
      have hm := hn l[k] (List.getElem_mem _)
      have hn1 := nl_th (List.getElem_mem hlt)
      have hn2 := nl_el (List.getElem_mem hlt)
      generalize l[k] = n at *
      obtain ⟨b, o, rfl, hOb, hN⟩ := hp k n ea
      obtain ⟨tv, ev, hc, ht, he⟩ := hN.ex
      obtain ⟨q1, d1, rfl, _, _⟩ := ht.ex
      obtain ⟨q2, d2, rfl, _, _⟩ := he.ex
      have hB := hL.bel
      have k1 := hB.block b (hO b hOb)
      obtain ⟨g0, g1, g2, g3, g4, g5, g6, g7, g8⟩ := cells9 fun j x hx => (World.cell?_of_block (w := W) (a := ⟨b, o + k * 9 + j, none⟩) k1).trans (hc j x hx)
      obtain ⟨W1, hW1⟩ : ∃ W1, wr.alloc (.cells #[.int .i64 n.k, .int .i64 n.op, .int .u16 n.v, .string n.nm, .slice q1 n.th.length d1, .slice q2 n.el.length d2, .bool n.has, .int .i64 n.p.1, .int .i64 n.p.2] 38) = W1 := ⟨_, rfl⟩
      have z1 : Below wr.heap.size wr W1 := by rw [← hW1]; exact (Below.refl _ _).alloc (Nat.le_refl _) _
      have v1 : W1.heap[wr.heap.size]? = some (.cells (ndc n (.slice q1 n.th.length d1) (.slice q2 n.el.length d2)).toArray 38 (0, 0)) := by rw [← hW1]; exact heap_alloc_new wr _
      have hB1 : Below W.heap.size W W1 := hB.trans (z1.mono hB.size)
      obtain ⟨bx, hbx⟩ : ∃ bx, bx = wr.heap.size := ⟨_, rfl⟩
      have hbW : W.heap.size ≤ bx := by rw [hbx]; exact hB.size
      have hOw : ∀ i, O i → i < W1.heap.size := fun i hi => Nat.lt_of_lt_of_le (hO i hi) hB1.size
      obtain ⟨U, cs, hU, hC, hR⟩ := hL.ex
      obtain ⟨p3, m3, c3, rfl⟩ := own_slice hR
      have hnb : ∀ g, Value.ownBlock (.slice p3 m3 c3) = some g → g < bx := fun g hg => by rw [hbx]; exact (World.ownsRow.lt hR g hg).2
      rw [← hbx] at v1
      have hmk : ∀ X : World, Below W1.heap.size W1 X → X.cell? ⟨bx, 4, none⟩ = some (.slice q1 n.th.length d1) ∧ X.cell? ⟨bx, 5, none⟩ = some (.slice q2 n.el.length d2) := fun X hX => by
        have vx := (hX.block _ (S.lt_of v1)).trans v1
        exact ⟨S.cell_of X bx 4 _ 38 _ vx rfl, S.cell_of X bx 5 _ 38 _ vx rfl⟩
      have hW1' := hW1
      have HW := hid (show wr.alloc (.cells #[.int .i64 n.k, .int .i64 n.op, .int .u16 n.v, .string n.nm, .slice q1 n.th.length d1, .slice q2 n.el.length d2, .bool n.has, .int .i64 n.p.1, .int .i64 n.p.2] 38) = W1 from hW1')
      have HMK := hid hmk
      have HV := hid (And.intro v1 (And.intro (And.intro hL.bel (And.intro z1 (And.intro hU (And.intro hC hR)))) (And.intro hOw (And.intro hB1 (And.intro (ht.below hB1 hO) (he.below hB1 hO))))))
      have HE := hid ea
      have HN := hid hnb
      have HX := hid hbx
      have HB0 := hid (Below.refl W1.heap.size W1).drew
      clear z1 v1 hL hU hC hR hB hB1 k1 hmk hW1 hW1' hp hN hc ht he hn hO ea hOw hnb hbx hOb
      go_wp2_with fail
      rw [HW.out, ← HX.out]
      refine wp_region_drop [7] (S := fun wz : World => wz.cell? ⟨bx, 4, none⟩ = some (.slice q1 n.th.length d1) ∧ wz.cell? ⟨bx, 5, none⟩ = some (.slice q2 n.el.length d2)) (by kernel_rfl) (HMK.out _ HB0.out) (fun hHeld => ?_)
      generalize W1.drew = y0 at *
      refine wpD_take (i := 0) (v := ?_) rfl (by kernel_rfl) (by kernel_rfl) (by kernel_rfl) (by kernel_rfl) (by kernel_rfl) (fun c a w h => h) (Or.inl ⟨by rfl, ?_⟩) hHeld ?_
      rotate_left
      · (intro w hSw; (try dsimp only at hSw); go_simp; try with_reducible rfl)
      simp only [Act.put, List.getElem_toArray, List.getElem_cons_zero, List.getElem_cons_succ, List.setIfInBounds_toArray, List.set_cons_zero, List.set_cons_succ]
      refine wpD_take (i := 1) (v := ?_) rfl (by kernel_rfl) (by kernel_rfl) (by kernel_rfl) (by kernel_rfl) (by kernel_rfl) (fun c a w h => h) (Or.inl ⟨by rfl, ?_⟩) hHeld ?_
      rotate_left
      · (intro w hSw; (try dsimp only at hSw); go_simp; try with_reducible rfl)
      simp only [Act.put, List.getElem_toArray, List.getElem_cons_zero, List.getElem_cons_succ, List.setIfInBounds_toArray, List.set_cons_zero, List.set_cons_succ]
      refine wpD_take (i := 3) (v := ?_) rfl (by kernel_rfl) (by kernel_rfl) (by kernel_rfl) (by kernel_rfl) (by kernel_rfl) (fun c a w h => h) (Or.inl ⟨by rfl, ?_⟩) hHeld ?_
      rotate_left
      · (intro w hSw; (try dsimp only at hSw); go_simp; try with_reducible rfl)
      simp only [Act.put, List.getElem_toArray, List.getElem_cons_zero, List.getElem_cons_succ, List.setIfInBounds_toArray, List.set_cons_zero, List.set_cons_succ]
      refine wpD_take (i := 4) (v := ?_) rfl (by kernel_rfl) (by kernel_rfl) (by kernel_rfl) (by kernel_rfl) (by kernel_rfl) (fun c a w h => h) (Or.inl ⟨by rfl, ?_⟩) hHeld ?_
      rotate_left
      · (intro w hSw; (try dsimp only at hSw); go_simp; try with_reducible rfl)
      simp only [Act.put, List.getElem_toArray, List.getElem_cons_zero, List.getElem_cons_succ, List.setIfInBounds_toArray, List.set_cons_zero, List.set_cons_succ]
      refine wpD_ready (rs := [2]) (by kernel_rfl) (by simp) ?_
      refine AllD.cons rfl (fun K hK => ?_) AllD.nil
      go_simp
      refine (hm.1 _ O y0 (fun i hi => Nat.lt_of_lt_of_le (HV.out.2.2.1 i hi) HB0.out.size) (HV.out.2.2.2.2.1.below HB0.out HV.out.2.2.1) (by omega)).mono ?_
      rintro e y1 ⟨t1, rfl, hw1, k1⟩
      obtain ⟨bt, ct, rfl⟩ := hw1.ex
      have HB1 := hid (HB0.out.trans (k1.mono HB0.out.size))
      have HT := hid (And.intro hw1 HB0.out.size)
      refine hK.out _ _ (HMK.out _ HB1.out) (fun hHeld => ?_)
      clear hK K hw1 k1 HB0
      try simp only [Act.put, List.getElem_toArray, List.getElem_cons_zero, List.getElem_cons_succ, List.setIfInBounds_toArray, List.set_cons_zero, List.set_cons_succ]
      refine wpD_take (i := 6) (v := ?_) rfl (by kernel_rfl) (by kernel_rfl) (by kernel_rfl) (by kernel_rfl) (by kernel_rfl) (fun c a w h => h) (Or.inl ⟨by rfl, ?_⟩) hHeld ?_
      rotate_left
      · (intro w hSw; (try dsimp only at hSw); go_simp; try with_reducible rfl)
      simp only [Act.put, List.getElem_toArray, List.getElem_cons_zero, List.getElem_cons_succ, List.setIfInBounds_toArray, List.set_cons_zero, List.set_cons_succ]
      refine wpD_ready (rs := [5]) (by kernel_rfl) (by simp) ?_
      refine AllD.cons rfl (fun K hK => ?_) AllD.nil
      go_simp
      refine (hm.2 _ O y1 (fun i hi => Nat.lt_of_lt_of_le (HV.out.2.2.1 i hi) HB1.out.size) (HV.out.2.2.2.2.2.below HB1.out HV.out.2.2.1) (by omega)).mono ?_
      rintro e y2 ⟨t2, rfl, hw2, k2⟩
      obtain ⟨be, ce', rfl⟩ := hw2.ex
      have HB2 := hid (HB1.out.trans (k2.mono HB1.out.size))
      have HT := hid (And.intro (WN.kept (O' := fun i => W1.heap.size ≤ i ∧ i < y2.heap.size) HT.out.1 (fun i hi => k2.block i hi.2) (fun i hi => ⟨Nat.le_trans HT.out.2 hi.1, Nat.lt_of_lt_of_le hi.2 k2.size⟩)) (hw2.kept (O' := fun i => W1.heap.size ≤ i ∧ i < y2.heap.size) (fun _ _ => rfl) (fun i hi => ⟨Nat.le_trans HB1.out.size hi.1, hi.2⟩)))
      refine hK.out _ _ (HMK.out _ HB2.out) (fun hHeld => ?_)
      clear hK K hw2 k2 HB1 hm
      try simp only [Act.put, List.getElem_toArray, List.getElem_cons_zero, List.getElem_cons_succ, List.setIfInBounds_toArray, List.set_cons_zero, List.set_cons_succ]
      obtain ⟨c4, c5⟩ := hHeld
      have vx := (HB2.out.block _ (S.lt_of HV.out.1)).trans HV.out.1
      have f0 := S.frozen_of y2 bx 4 _ 38 vx
      have f1 := S.frozen_of y2 bx 5 _ 38 vx
      refine wpD_ready (rs := [7]) (by kernel_rfl) (by simp) ?_
      refine AllD.late rfl (by kernel_rfl) (fun K hK => ?_)
      go_simp
      refine hK.out _ _ ?_
      clear hK K
      try simp only [Act.put, List.getElem_toArray, List.getElem_cons_zero, List.getElem_cons_succ, List.setIfInBounds_toArray, List.set_cons_zero, List.set_cons_succ]
      refine wpD_ready (rs := [8]) (by kernel_rfl) (by simp) ?_
      refine AllD.late rfl (by kernel_rfl) (fun K hK => ?_)
      go_simp
      refine hK.out _ _ ?_
      clear hK K
      try simp only [Act.put, List.getElem_toArray, List.getElem_cons_zero, List.getElem_cons_succ, List.setIfInBounds_toArray, List.set_cons_zero, List.set_cons_succ]
      refine wpD_ready (rs := [9]) (by kernel_rfl) (by simp) ?_
      refine AllD.late rfl (by kernel_rfl) (fun K hK => ?_)
      have c5' : (y2.setCell ⟨bx, 4, none⟩ (.slice (some ⟨bt, 0, none⟩) n.th.length ct)).cell? ⟨bx, 5, none⟩ = some (.slice q2 n.el.length d2) := S.cell_of _ bx 5 _ 38 _ (S.setCell_heap y2 bx 4 _ 38 _ vx) rfl
      have f1' := S.frozen_of _ bx 5 _ 38 (S.setCell_heap y2 bx 4 _ 38 (.slice (some ⟨bt, 0, none⟩) n.th.length ct) vx)
      go_simp
      refine hK.out _ _ ?_
      clear hK K
      try simp only [Act.put, List.getElem_toArray, List.getElem_cons_zero, List.getElem_cons_succ, List.setIfInBounds_toArray, List.set_cons_zero, List.set_cons_succ]
      refine wpD_done (by kernel_rfl) ?_ _
      have vy := S.setCell_heap _ bx 5 _ 38 (.slice (some ⟨be, 0, none⟩) n.el.length ce') (S.setCell_heap y2 bx 4 _ 38 (.slice (some ⟨bt, 0, none⟩) n.th.length ct) vx)
      have hBy : Below bx W1 ((y2.setCell ⟨bx, 4, none⟩ (.slice (some ⟨bt, 0, none⟩) n.th.length ct)).setCell ⟨bx, 5, none⟩ (.slice (some ⟨be, 0, none⟩) n.el.length ce')) := below_set2 (HB2.out.mono (by have := S.lt_of HV.out.1; omega)) (Nat.le_refl _) _ _ _ _
      have hsy : ((y2.setCell ⟨bx, 4, none⟩ (.slice (some ⟨bt, 0, none⟩) n.th.length ct)).setCell ⟨bx, 5, none⟩ (.slice (some ⟨be, 0, none⟩) n.el.length ce')).heap.size = y2.heap.size := by rw [S.setCell_size, S.setCell_size]
      have hoy : ∀ i, i ≠ bx → ((y2.setCell ⟨bx, 4, none⟩ (.slice (some ⟨bt, 0, none⟩) n.th.length ct)).setCell ⟨bx, 5, none⟩ (.slice (some ⟨be, 0, none⟩) n.el.length ce')).heap[i]? = y2.heap[i]? := fun i hi => (S.setCell_other _ _ _ _ _ hi).trans (S.setCell_other _ _ _ _ _ hi)
      generalize (y2.setCell ⟨bx, 4, none⟩ (.slice (some ⟨bt, 0, none⟩) n.th.length ct)).setCell ⟨bx, 5, none⟩ (.slice (some ⟨be, 0, none⟩) n.el.length ce') = y3 at *
      have vz : y3.heap[bx]? = some (.cells (ndc n (.slice (some ⟨bt, 0, none⟩) n.th.length ct) (.slice (some ⟨be, 0, none⟩) n.el.length ce')).toArray 38 (0, 0)) := vy
      have hsy1 : y3.heap.size ≤ y2.heap.size := Nat.le_of_eq hsy
      have hsy2 : y2.heap.size ≤ y3.heap.size := Nat.le_of_eq hsy.symm
      clear vy vx f0 f1 f1' c4 c5 c5' hsy
      have e25 := S.cell_of y3 bx 4 _ 38 _ vz rfl
      obtain ⟨x0, x1, x2, x3, x4, x5, x6, x7, x8⟩ := cells9 (W := y3) (b := bx) (o := 0) fun j x hx => by rw [Nat.zero_add]; exact S.cell_of y3 _ j _ 38 x vz hx
      simp only [Nat.zero_add] at x1 x2 x3 x4 x5 x6 x7 x8
      obtain ⟨y4, hy4⟩ : ∃ y4, y3.alloc (.cells #[.int .i64 n.k, .int .i64 n.op, .int .u16 n.v, .string n.nm, .slice (some ⟨bt, 0, none⟩) n.th.length ct, .slice (some ⟨be, 0, none⟩) n.el.length ce', .bool n.has, .int .i64 n.p.1, .int .i64 n.p.2] 38) = y4 := ⟨_, rfl⟩
      have k4 : Below y3.heap.size y3 y4 := by rw [← hy4]; exact (Below.refl _ _).alloc (Nat.le_refl _) _
      have v4 : y4.heap[y3.heap.size]? = some (.cells (ndc n (.slice (some ⟨bt, 0, none⟩) n.th.length ct) (.slice (some ⟨be, 0, none⟩) n.el.length ce')).toArray 38 (0, 0)) := by rw [← hy4]; exact heap_alloc_new y3 _
      have hbx1 : bx < W1.heap.size := S.lt_of HV.out.1
      have hs2 := HB2.out.size
      have s34 := k4.size
      have hall : ∀ i, i < bx → y4.heap[i]? = wr.heap[i]? := fun i hi => (k4.block i (by omega)).trans ((hBy.block i hi).trans (HV.out.2.1.2.1.block i (by rw [← HX.out]; exact hi)))
      have hbel : Below bx wr y4 := ⟨k4.os.trans (hBy.os.trans HV.out.2.1.2.1.os), k4.tape.trans (hBy.tape.trans HV.out.2.1.2.1.tape), k4.output.trans (hBy.output.trans HV.out.2.1.2.1.output), by have := HV.out.2.1.2.1.size; omega, hall⟩
      have oR : y4.ownsRow W.heap.size 38 9 (.slice p3 m3 c3) k cs := S.own_kept HV.out.2.1.2.2.2.2 fun g hg _ => hall g (HN.out g hg)
      have hcs : S.Cs y4 (.slice (some ⟨y3.heap.size, 0, none⟩) 1 1) 9 1 (ndc n (.slice (some ⟨bt, 0, none⟩) n.th.length ct) (.slice (some ⟨be, 0, none⟩) n.el.length ce')) := .inr ⟨_, _, rfl, rfl, fun j u hj => by rw [Addr.add_lit, Nat.zero_add]; exact S.cell_of y4 _ j _ _ u v4 hj, ndc_one _ _ _ ⟨_, _, _, rfl⟩ ⟨_, _, _, rfl⟩⟩
      have hsz4 : W.heap.size ≤ y4.heap.size := by omega
      have HC := hid (WC.kept (W' := y4) (O' := fun i => U i ∨ (W1.heap.size ≤ i ∧ i < y2.heap.size)) (fun i hi => hall i (by rw [HX.out]; exact (HV.out.2.1.2.2.1 i hi).2.1)) (fun i hi => .inl hi) HV.out.2.1.2.2.2.1)
      have HT4 := hid (And.intro (WN.kept (W' := y4) (O' := fun i => U i ∨ (W1.heap.size ≤ i ∧ i < y2.heap.size)) HT.out.1 (fun i hi => (k4.block i (by omega)).trans (hoy i (by omega))) (fun i hi => .inr hi)) (WN.kept (W' := y4) (O' := fun i => U i ∨ (W1.heap.size ≤ i ∧ i < y2.heap.size)) HT.out.2 (fun i hi => (k4.block i (by omega)).trans (hoy i (by omega))) (fun i hi => .inr hi)))
      have HY := hid hy4
      have HBL := hid (HV.out.2.1.1.trans (hbel.mono hbW))
      have HU : Hd (∀ i, (U i ∨ (W1.heap.size ≤ i ∧ i < y2.heap.size)) → W.heap.size ≤ i ∧ i < y4.heap.size ∧ Value.ownBlock (.slice p3 m3 c3) ≠ some i) := hid fun i hi => by
        rcases hi with hi | hi
        · have h1 := HV.out.2.1.2.2.1 i hi
          have h2 := h1.2.1
          rw [← HX.out] at h2
          exact ⟨h1.1, by omega, h1.2.2⟩
        · refine ⟨by omega, by omega, fun e => ?_⟩
          have := HN.out i e
          omega
      clear hall hbel v4 k4 hy4 hBy hoy vz HT HMK HW HV HB2
      go_wp2_with (rw [HY.out]; refine S.wpList_append_row y4 rfl _ _ 34 38 _ 9 112 Try.underlying34 infoNd rfl (by decide) rfl W.heap.size _ k cs rfl oR _ 1 _ rfl hcs (by unfold S.room; omega) (by unfold maxLen; omega) hsz4 (fun v5 w5 hr1 hg1 => ?_); have HG := hid (And.intro hr1 hg1); clear hr1 hg1)
      have hgb : ∀ i, (U i ∨ (W1.heap.size ≤ i ∧ i < y2.heap.size)) → w5.heap[i]? = y4.heap[i]? := fun i hi => HG.out.2.block i (HU.out i hi).2.1 (fun e => (HU.out i hi).2.2 e.symm)
      refine ⟨⟨k + 1, by omega, by rw [Int.natCast_add]; rfl, HBL.out.trans (HG.out.2.below (fun g hg => own_ge oR g hg) hsz4), _, _, fun i hi => ⟨(HU.out i hi).1, Nat.lt_of_lt_of_le (HU.out i hi).2.1 HG.out.2.size, fun e => ?_⟩, ?_, HG.out.1⟩, by simp only [intOf]; omega⟩
      · rcases HG.out.2.own with e2 | e2
        · rw [e2] at e; exact (HU.out i hi).2.2 e
        · have := e2 i e
          have := (HU.out i hi).2.1
          omega
      · rw [List.take_add_one, HE.out]
        exact WC.app (HC.out.kept hgb fun _ h => h) ⟨_, _, [], by simp, HT4.out.1.kept hgb fun _ h => h, HT4.out.2.kept hgb fun _ h => h, rfl⟩
    · obtain rfl : k = l.length := by omega
      have i1 : ¬ (l.length : Int) < l.length := by omega
      obtain ⟨U, cs, hU, hC, hR⟩ := hL.ex
      obtain ⟨p3, c3, rfl⟩ := own_is hR
      rw [List.take_length] at hC
      obtain ⟨y4, hy4⟩ : ∃ y4, wr.alloc (.cells #[.int .i64 77, .int .i64 0, .int .u16 0, .string ⟨#[]⟩, .slice none 0 0, .slice none 0 0, .bool false, .int .i64 0, .int .i64 0] 38) = y4 := ⟨_, rfl⟩
      have k4 : Below wr.heap.size wr y4 := by rw [← hy4]; exact (Below.refl _ _).alloc (Nat.le_refl _) _
      have v4 : y4.heap[wr.heap.size]? = some (.cells (ndc mark (.slice none 0 0) (.slice none 0 0)).toArray 38 (0, 0)) := by rw [← hy4]; exact heap_alloc_new wr _
      have oR : y4.ownsRow W.heap.size 38 9 (.slice p3 l.length c3) l.length cs := S.own_kept hR fun g hg hlt => k4.block g hlt
      have hcs : S.Cs y4 (.slice (some ⟨wr.heap.size, 0, none⟩) 1 1) 9 1 (ndc mark (.slice none 0 0) (.slice none 0 0)) := .inr ⟨_, _, rfl, rfl, fun j u hj => by rw [Addr.add_lit, Nat.zero_add]; exact S.cell_of y4 _ j _ _ u v4 hj, ndc_one _ _ _ ⟨_, _, _, rfl⟩ ⟨_, _, _, rfl⟩⟩
      have hsz4 : W.heap.size ≤ y4.heap.size := Nat.le_trans hL.bel.size k4.size
      have HC := hid (WC.kept (W' := y4) (O' := U) (fun i hi => k4.block i (hU i hi).2.1) (fun _ h => h) hC)
      have HU := hid hU
      have HY := hid hy4
      have HBL := hid (And.intro (hL.bel.trans (k4.mono hL.bel.size)) k4.size)
      clear hU hC hR hy4 v4 k4 hL hp hn hO
      go_wp2_with (rw [HY.out]; refine S.wpList_append_row y4 rfl _ _ 34 38 _ 9 112 Try.underlying34 infoNd rfl (by decide) rfl W.heap.size _ l.length cs rfl oR _ 1 _ rfl hcs (by unfold S.room; omega) (by unfold maxLen; omega) hsz4 (fun v5 w5 hr1 hg1 => ?_); obtain ⟨g5, c5, hv5⟩ := S.own_pos hr1 (by omega); subst hv5; have hc5 := own_cap hr1; have hc6 : (l.length : Int) ≤ (c5 : Int) := (by omega); have hc7 : l.length ≤ c5 := (by omega); have HG := hid (And.intro hr1 hg1); clear hr1 hg1)
      go_ret
      have hgb : ∀ i, U i → w5.heap[i]? = y4.heap[i]? := fun i hi => HG.out.2.block i (Nat.lt_of_lt_of_le (HU.out i hi).2.1 HBL.out.2) (fun e => (HU.out i hi).2.2 e.symm)
      have hlt5 := World.ownsRow.lt HG.out.1 g5 rfl
      have hCl : ∀ (j : Nat) (u : Value), (cs ++ ndc mark (.slice none 0 0) (.slice none 0 0))[j]? = some u → w5.cell? ⟨g5, j, none⟩ = some u := fun j u hj => by
        have := World.ownsRow.cells HG.out.1 (g := g5) rfl j u hj
        rw [Addr.add_lit, Nat.zero_add] at this
        exact this
      have hcl : cs.length = l.length * 9 := oR.1
      refine ⟨_, rfl, WN.shut ⟨g5, c5, rfl, hlt5, by omega, by omega, hCl _ _ (by rw [List.getElem?_append_right (by omega), hcl, Nat.sub_self]; rfl), fun i n hi => ?_⟩, HBL.out.1.trans (HG.out.2.below (fun g hg => own_ge oR g hg) hsz4)⟩
      obtain ⟨tv, ev, hc, ht, he⟩ := WC.get HC.out i n hi
      exact ⟨tv, ev, fun j x hx => hCl _ _ (by rw [List.getElem?_append_left (List.getElem?_eq_some_iff.1 (hc j x hx)).1]; exact hc j x hx), ht.kept hgb fun i hi => ⟨(HU.out i hi).1, Nat.lt_of_lt_of_le (Nat.lt_of_lt_of_le (HU.out i hi).2.1 HBL.out.2) HG.out.2.size⟩, he.kept hgb fun i hi => ⟨(HU.out i hi).1, Nat.lt_of_lt_of_le (Nat.lt_of_lt_of_le (HU.out i hi).2.1 HBL.out.2) HG.out.2.size⟩⟩
theorem own_all (n : Nd) : ON n.th ∧ ON n.el := Nd.ind (P := fun n => ON n.th ∧ ON n.el) (fun n h1 h2 => ⟨own_of n.th h1, own_of n.el h2⟩) n
theorem own_nodes (l : List Nd) : ON l := own_of l fun m _ => own_all m
end Go.Proofs.Yteeanomkbclinaa.Y
