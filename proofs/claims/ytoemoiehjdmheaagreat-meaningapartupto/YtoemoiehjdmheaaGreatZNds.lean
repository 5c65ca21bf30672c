import Derived.Test.YtoemoiehjdmheaaGreatDDrop
import Derived.Test.YtoemoiehjdmheaaGreatZNmp
import Derived.Test.YtoemoiehjdmheaaGreatYMath
namespace Go.Proofs.YtoemoiehjdmheaaGreat.Z
open Go.RowKit
open Go.Proofs
open Go.Proofs.YtoemoiehjdmheaaGreat.Y (Nd Df Ps Pl hid ZV ndc NV N1 nl nl_len nl_th nl_el)
set_option linter.unusedVariables false
set_option linter.unusedSimpArgs false
set_option maxHeartbeats 4000000
set_option maxRecDepth 100000
def nw (O : Nat -> Prop) (W W' : World) : Nat -> Prop := fun i => O i \/ (W.heap.size <= i /\ i < W'.heap.size)
def MC (W : World) (O : Nat -> Prop) : List Mn -> List Value -> Prop
  | [], cs => cs = []
  | m :: r, cs => ∃ (wq : Option Addr) (tv ov : Value) (cs' : List Value), cs = mnc m (.pointer wq) tv ov ++ cs' /\ WP W O (.pointer wq) m.w m.wp /\ MNV W O tv m.th /\ MNV W O ov m.ot /\ MC W O r cs'
theorem mnc_len (m : Mn) (a b c : Value) : (mnc m a b c).length = 9 := rfl
theorem MC.kept {W W' : World} {O O' : Nat -> Prop} (k : ∀ i, O i -> W'.heap[i]? = W.heap[i]?) (m : ∀ i, O i -> O' i) : ∀ {l : List Mn} {cs : List Value}, MC W O l cs -> MC W' O' l cs
  | [], cs, h => h
  | n :: r, cs, h => by
    obtain ⟨wq, tv, ov, cs', e, h0, h1, h2, h3⟩ := h
    exact ⟨wq, tv, ov, cs', e, WP.keep h0 k m, h1.kept k m, h2.kept k m, MC.kept k m h3⟩
theorem MC.app {W : World} {O : Nat -> Prop} : ∀ {l l' : List Mn} {cs cs' : List Value}, MC W O l cs -> MC W O l' cs' -> MC W O (l ++ l') (cs ++ cs')
  | [], l', cs, cs', h, h' => by rw [MC] at h; subst h; exact h'
  | n :: r, l', cs, cs', h, h' => by
    obtain ⟨wq, tv, ov, cs1, rfl, h0, h1, h2, h3⟩ := h
    exact ⟨wq, tv, ov, cs1 ++ cs', by rw [List.append_assoc], h0, h1, h2, MC.app h3 h'⟩
theorem MC.get {W : World} {O : Nat -> Prop} : ∀ {l : List Mn} {cs : List Value}, MC W O l cs -> ∀ (i : Nat) (n : Mn), l[i]? = some n -> ∃ wq tv ov, (∀ (j : Nat) (x : Value), (mnc n (.pointer wq) tv ov)[j]? = some x -> cs[i * 9 + j]? = some x) /\ WP W O (.pointer wq) n.w n.wp /\ MNV W O tv n.th /\ MNV W O ov n.ot
  | [], cs, h, i, n, hi => by simp at hi
  | m :: r, cs, h, 0, n, hi => by
    obtain ⟨wq, tv, ov, cs1, rfl, h0, h1, h2, h3⟩ := h
    simp at hi; subst hi
    exact ⟨wq, tv, ov, fun j x hx => by rw [Nat.zero_mul, Nat.zero_add, List.getElem?_append_left (List.getElem?_eq_some_iff.1 hx).1]; exact hx, h0, h1, h2⟩
  | m :: r, cs, h, i + 1, n, hi => by
    obtain ⟨wq, tv, ov, cs1, rfl, h0, h1, h2, h3⟩ := h
    obtain ⟨q, t, e, hc, hq, ht, he⟩ := MC.get h3 i n (by simpa using hi)
    refine ⟨q, t, e, fun j x hx => ?_, hq, ht, he⟩
    rw [List.getElem?_append_right (by rw [mnc_len]; omega), mnc_len, show (i + 1) * 9 + j - 9 = i * 9 + j by omega]
    exact hc j x hx
theorem own_mnv {W : World} {O : Nat -> Prop} {B : Nat} {v : Value} {l : List Mn} {cs : List Value} (h : W.ownsRow B 173 9 v l.length cs) (hc : MC W O l cs) (hl : l.length <= 140737488355328) (hO : ∀ g, v.ownBlock = some g -> O g) : MNV W O v l := by
  rcases h.2 with ⟨rfl, e⟩ | ⟨g, cap, cur, rfl, h2, h3⟩
  · obtain rfl := List.eq_nil_of_length_eq_zero e
    exact MNV.nil (.inl rfl)
  · refine MNV.row (hO g rfl) hl fun i n hi => ?_
    obtain ⟨wq, tv, ov, hx, h1, h2, h3⟩ := hc.get i n hi
    refine ⟨.pointer wq, tv, ov, fun j x hj => ?_, h1, h2, h3⟩
    have := World.ownsRow.cells h (g := g) rfl (i * 9 + j) x (hx j x hj)
    rw [Addr.add_lit, Nat.zero_add] at this
    rw [Nat.zero_add]
    exact this
theorem own_slice {W : World} {B : Nat} {e : TypeId} {size : Nat} {v : Value} {n : Nat} {xs : List Value} (h : W.ownsRow B e size v n xs) : ∃ p c, v = .slice p n c := by
  rcases h.2 with ⟨rfl, rfl⟩ | ⟨g', cap, cur, rfl, h2, _⟩
  · exact ⟨_, _, rfl⟩
  · exact ⟨_, _, rfl⟩
def zM : Value := .agg #[.int .i64 0, .int .u16 0, .pointer none, .int .i64 0, .int .i64 0, .int .i64 0, .slice none 0 0, .slice none 0 0, .bool false]
theorem infoM : (Tryz.prog.info? 173).map (fun i => (i.zero, i.size, i.bytes)) = some (some zM, 9, 104) := by kernel_rfl
theorem EvR.kept' {W W' : World} {O : Nat -> Prop} {E : Ev} {L : Ez} (h : EvR W O E L) (k : Below W.heap.size W W') (hO : ∀ i, O i -> i < W.heap.size) : EvR W' O E L := EvR.kept (fun i hi => k.block i (hO i hi)) (fun _ h => h) E L h
structure ML (W wr : World) (O : Nat -> Prop) (E : Ev) (l : List Nd) (k : Nat) (out : Value) : Prop where
  bel : Below W.heap.size W wr
  ex : ∃ (U : Nat -> Prop) (cs : List Value), (∀ i, U i -> nw O W wr i /\ out.ownBlock ≠ some i) /\ MC wr U ((l.take k).map (rs E)) cs /\ wr.ownsRow W.heap.size 173 9 out k cs
def LC (l : List Nd) : Prop := ∀ (E : Ev) (L : Ez) (mb : Nat) (v : Value) (O1 O : Nat -> Prop) (W : World), (∀ i, O1 i -> i < W.heap.size) -> (∀ i, O i -> i < W.heap.size) -> NV W O1 v l -> MP W mb L -> EvR W O E L -> nl l <= 1048576 ->
    Calls Tryz.prog 52 #[.map (some mb), v] W fun e w' => ∃ v', e = .returned v' /\ MNV w' (nw O W w') v' (l.map (rs E)) /\ Below W.heap.size W w'
theorem one9 (w : World) (c0 c1 c2 c3 c4 c5 c6 c7 c8 : Value) (t : TypeId) (h : ∀ u ∈ [c0, c1, c2, c3, c4, c5, c6, c7, c8], u.oneCell' = true) : S.Cs (w.alloc (.cells #[c0, c1, c2, c3, c4, c5, c6, c7, c8] t)) (.slice (some ⟨w.heap.size, 0, none⟩) 1 1) 9 1 [c0, c1, c2, c3, c4, c5, c6, c7, c8] :=
  .inr ⟨_, _, rfl, rfl, fun j u hj => by rw [Addr.add_lit, Nat.zero_add]; exact S.cell_of _ _ j [c0, c1, c2, c3, c4, c5, c6, c7, c8] t u (heap_alloc_new w _) hj, h⟩
theorem nodes_of (l : List Nd) (hn : ∀ m ∈ l, LC m.th /\ LC m.el) : LC l := by
  intro E L mb v O1 O W hO1 hO hN hM hE hsz
  obtain ⟨p, c, rfl, hl, hp⟩ := hN.ex
  have hll := nl_len l
  have HO := hid (And.intro hO1 (And.intro hO (And.intro hM hE)))
  clear hN hM hE hO1 hO
  go_enter Tryz.func52, Tryz.ntmps52
  go_wp2_with fail
  go_loopw [5, 10] (fun s i wr => ∃ k : Nat, k <= l.length /\ i = .int .i64 (k : Int) /\ ML W wr O E l k s) (fun _ i _ => l.length - (intOf i).toNat)
  case atStart => exact ⟨0, by omega, rfl, Below.refl _ _, fun _ => False, [], fun _ h => h.elim, rfl, World.ownsRow_nil W _ _ _⟩
  case round =>
    obtain ⟨k, hk, rfl, hL⟩ := hrel
    by_cases hlt : k < l.length
    case neg =>
      obtain rfl : k = l.length := by omega
      have i1 : ¬ (l.length : Int) < l.length := by omega
      obtain ⟨U, cs, hU, hC, hR⟩ := hL.ex
      rw [List.take_length] at hC
      obtain ⟨p3, c3, rfl⟩ := own_slice hR
      have HF := hid (show MNV wr (nw O W wr) (.slice p3 l.length c3) (l.map (rs E)) /\ Below W.heap.size W wr from ⟨own_mnv (by rw [List.length_map]; exact hR) (hC.kept (fun _ _ => rfl) fun i hi => (hU i hi).1) (by rw [List.length_map]; exact hl) fun g hg => .inr (World.ownsRow.lt hR g hg), hL.bel⟩)
      clear hU hC hR hL
      go_wp2
      go_ret
      exact ⟨_, rfl, HF.out⟩
    case pos =>
      have i1 : (k : Int) < l.length := by omega
      have ea := List.getElem?_eq_getElem hlt
      have hm := hn l[k] (List.getElem_mem _)
      have hn1 := nl_th (List.getElem_mem hlt)
      have hn2 := nl_el (List.getElem_mem hlt)
      generalize l[k] = n at *
      obtain ⟨b, o, rfl, hOb, hN⟩ := hp k n ea
      obtain ⟨tv, ev, hc, ht, he⟩ := hN.ex
      obtain ⟨q1, d1, rfl, _, _⟩ := ht.ex
      obtain ⟨q2, d2, rfl, _, _⟩ := he.ex
      have hB := hL.bel
      obtain ⟨U, cs, hU, hC, hR⟩ := hL.ex
      obtain ⟨p3, c3, rfl⟩ := own_slice hR
      have k1 := hB.block b (HO.out.1 b hOb)
      obtain ⟨g0, g1, g2, g3, g4, g5, g6, g7, g8⟩ := Y.cells9 fun j x hx => (World.cell?_of_block (w := W) (a := ⟨b, o + k * 9 + j, none⟩) k1).trans (hc j x hx)
      obtain ⟨bx, hbx⟩ : ∃ bx, wr.heap.size = bx := ⟨_, rfl⟩
      have hfn : ∀ g, Value.ownBlock (.slice p3 k c3) = some g -> W.heap.size <= g /\ g < bx := fun g hg => by rw [<- hbx]; exact World.ownsRow.lt hR g hg
      have HX := hid hbx
      have HG := hid hfn
      have HE := hid (show (l.take (k + 1)).map (rs E) = (l.take k).map (rs E) ++ [rs E n] by rw [List.take_add_one, ea, List.map_append]; rfl)
      have HT := hid (rs_is E n)
      have hBx : W.heap.size <= bx := by rw [<- hbx]; exact hB.size
      have HL := hid (And.intro hB (And.intro hU (And.intro hC hR)))
      have HN := hid (And.intro ht (And.intro he (And.intro hm (And.intro (Nat.le_trans hn1 hsz) (Nat.le_trans hn2 hsz)))))
      have HIN := hid (fun tp ep tn tc en ec O W hM hE => instr_any E L mb n tp ep tn tc en ec O W hM hE)
      clear hfn hB hU hC hR ht he hc hN k1 hOb hL ea hp hn hm hn1 hn2
      obtain ⟨nk, nop, nv, nnm, nth, nel, nhas, np⟩ := n
      obtain ⟨np1, np2⟩ := np
      simp only at g0 g1 g2 g3 g4 g5 g6 g7 g8 HN HIN HT
      generalize htn : nth.length = tn at *
      generalize hen : nel.length = en at *
      have HTN := hid (And.intro htn hen)
      generalize ins E nk nop nv nnm = I at *
      clear htn hen
      obtain ⟨W1, hW1⟩ : ∃ W1, wr.alloc (.cells #[.int .i64 nk, .int .i64 nop, .int .u16 nv, .string nnm, .slice q1 tn d1, .slice q2 en d2, .bool nhas, .int .i64 np1, .int .i64 np2] 90) = W1 := ⟨_, rfl⟩
      have u1 : W1.drew.heap[bx]? = some (.cells [.int .i64 nk, .int .i64 nop, .int .u16 nv, .string nnm, .slice q1 tn d1, .slice q2 en d2, .bool nhas, .int .i64 np1, .int .i64 np2].toArray 90 (0, 0)) := by rw [<- hW1, <- hbx]; exact heap_alloc_new wr _
      have hb0 : Below bx wr W1.drew := by rw [<- hW1, <- hbx]; exact ((Below.refl _ _).alloc (Nat.le_refl _) _).drew
      have hs0 : bx < W1.drew.heap.size := S.lt_of u1
      have HW1 := hid hW1
      clear hW1 hbx
      go_upto_region 5 with fail
      rw [HW1.out, HX.out]
      clear g0 g1 g2 g3 g4 g5 g6 g7 g8
      refine wp_region_held_drew (S := fun wz : World => wz.heap[bx]? = some (.cells [.int .i64 nk, .int .i64 nop, .int .u16 nv, .string nnm, .slice q1 tn d1, .slice q2 en d2, .bool nhas, .int .i64 np1, .int .i64 np2].toArray 90 (0, 0))) (by kernel_rfl) u1 (fun hHeld => ?_)
      clear u1
      generalize W1.drew = y0 at *
      have HB0 := hid (And.intro hb0 hs0)
      clear hb0 hs0
      refine D.zH (is := [0, 1, 2, 4, 5, 6, 7, 8, 10, 11, 12, 14, 15]) ?_
      iterate 13
       refine D.yH (v := ?_) rfl (by kernel_rfl) (fun c a w h => h) (by rfl) ?_ hHeld ?_
       rotate_left
       · (intro w hSw; have q0_ := S.cell_of w _ 0 _ 90 _ hSw rfl; have q1_ := S.cell_of w _ 1 _ 90 _ hSw rfl; have q2_ := S.cell_of w _ 2 _ 90 _ hSw rfl; have q3_ := S.cell_of w _ 3 _ 90 _ hSw rfl; have q4_ := S.cell_of w _ 4 _ 90 _ hSw rfl; have q5_ := S.cell_of w _ 5 _ 90 _ hSw rfl; have q6_ := S.cell_of w _ 6 _ 90 _ hSw rfl; have q7_ := S.cell_of w _ 7 _ 90 _ hSw rfl; have q8_ := S.cell_of w _ 8 _ 90 _ hSw rfl; go_simp; try with_reducible rfl)
       simp only [D.pts]
      refine D.eH ?_
      refine wpAnyH_ready (rs := [3]) (by kernel_rfl) (by simp) ?_
      refine AllReadyH.cons rfl (fun K hK => ?_) AllReadyH.nil
      go_simp
      refine (HIN.out q1 q2 tn d1 en d2 O y0 (HO.out.2.2.1.kept ((HL.out.1.trans (HB0.out.1.mono hBx)).block _ HO.out.2.2.1.lt)) (HO.out.2.2.2.kept' (HL.out.1.trans (HB0.out.1.mono hBx)) HO.out.2.1)).mono ?_
      rintro e y1 ⟨wq, rfl, hwq, kk⟩
      have hH1 : y1.heap[bx]? = some (.cells [.int .i64 nk, .int .i64 nop, .int .u16 nv, .string nnm, .slice q1 tn d1, .slice q2 en d2, .bool nhas, .int .i64 np1, .int .i64 np2].toArray 90 (0, 0)) := (kk.block _ HB0.out.2).trans hHeld
      have HB1 := hid (And.intro (HB0.out.1.trans (kk.mono (Nat.le_of_lt HB0.out.2))) (And.intro (Nat.lt_of_lt_of_le HB0.out.2 kk.size) (And.intro (WP.keep hwq (fun i hi => kk.block i (Nat.lt_of_lt_of_le (HO.out.2.1 i hi) (Nat.le_trans hBx (Nat.le_of_lt HB0.out.2)))) fun _ h => h) trivial)))
      clear hwq kk
      refine hK.out _ _ hH1 (fun hHeld => ?_)
      clear hK K
      try simp only [D.pts]
      refine wpAnyH_ready (rs := [9]) (by kernel_rfl) (by simp) ?_
      refine AllReadyH.cons rfl (fun K hK => ?_) AllReadyH.nil
      go_simp
      refine (HN.out.2.2.1.1 E L mb (.slice q1 tn d1) O1 O y1 (fun i hi => Nat.lt_of_lt_of_le (HO.out.1 i hi) (Nat.le_trans hBx (Nat.le_of_lt HB1.out.2.1))) (fun i hi => Nat.lt_of_lt_of_le (HO.out.2.1 i hi) (Nat.le_trans hBx (Nat.le_of_lt HB1.out.2.1))) (HN.out.1.below (HL.out.1.trans (HB1.out.1.mono hBx)) HO.out.1) (HO.out.2.2.1.kept ((HL.out.1.trans (HB1.out.1.mono hBx)).block _ HO.out.2.2.1.lt)) (HO.out.2.2.2.kept' (HL.out.1.trans (HB1.out.1.mono hBx)) HO.out.2.1) HN.out.2.2.2.1).mono ?_
      rintro e y2 ⟨v9, rfl, hv9, kk⟩
      have hH1 : y2.heap[bx]? = some (.cells [.int .i64 nk, .int .i64 nop, .int .u16 nv, .string nnm, .slice q1 tn d1, .slice q2 en d2, .bool nhas, .int .i64 np1, .int .i64 np2].toArray 90 (0, 0)) := (kk.block _ HB1.out.2.1).trans hHeld
      obtain ⟨pt, ct, rfl, hct, _⟩ := hv9.ex
      have HB2 := hid (And.intro (HB1.out.1.trans (kk.mono (Nat.le_of_lt HB1.out.2.1))) (And.intro (Nat.lt_of_lt_of_le HB1.out.2.1 kk.size) (And.intro (WP.keep HB1.out.2.2.1 (fun i hi => kk.block i (Nat.lt_of_lt_of_le (HO.out.2.1 i hi) (Nat.le_trans hBx (Nat.le_of_lt HB1.out.2.1)))) fun _ h => h) (MNV.kept (W' := y2) (O' := nw O wr y2) hv9 (fun _ _ => rfl) (fun i hi => hi.elim .inl fun h => .inr ⟨by have := HB1.out.2.1; rw [HX.out]; omega, h.2⟩)))))
      clear hv9 kk
      refine hK.out _ _ hH1 (fun hHeld => ?_)
      clear hK K
      try simp only [D.pts]
      refine wpAnyH_ready (rs := [13]) (by kernel_rfl) (by simp) ?_
      refine AllReadyH.cons rfl (fun K hK => ?_) AllReadyH.nil
      go_simp
      refine (HN.out.2.2.1.2 E L mb (.slice q2 en d2) O1 O y2 (fun i hi => Nat.lt_of_lt_of_le (HO.out.1 i hi) (Nat.le_trans hBx (Nat.le_of_lt HB2.out.2.1))) (fun i hi => Nat.lt_of_lt_of_le (HO.out.2.1 i hi) (Nat.le_trans hBx (Nat.le_of_lt HB2.out.2.1))) (HN.out.2.1.below (HL.out.1.trans (HB2.out.1.mono hBx)) HO.out.1) (HO.out.2.2.1.kept ((HL.out.1.trans (HB2.out.1.mono hBx)).block _ HO.out.2.2.1.lt)) (HO.out.2.2.2.kept' (HL.out.1.trans (HB2.out.1.mono hBx)) HO.out.2.1) HN.out.2.2.2.2).mono ?_
      rintro e y3 ⟨v13, rfl, hv13, kk⟩
      have hH1 : y3.heap[bx]? = some (.cells [.int .i64 nk, .int .i64 nop, .int .u16 nv, .string nnm, .slice q1 tn d1, .slice q2 en d2, .bool nhas, .int .i64 np1, .int .i64 np2].toArray 90 (0, 0)) := (kk.block _ HB2.out.2.1).trans hHeld
      obtain ⟨pe, ce', rfl, hce, _⟩ := hv13.ex
      have hup : ∀ i, nw O wr y2 i -> y3.heap[i]? = y2.heap[i]? := fun i hi => kk.block i (by rcases hi with hi | hi; exact Nat.lt_of_lt_of_le (HO.out.2.1 i hi) (Nat.le_trans hBx (Nat.le_of_lt HB2.out.2.1)); exact hi.2)
      have HB3 := hid (And.intro (HB2.out.1.trans (kk.mono (Nat.le_of_lt HB2.out.2.1))) (And.intro (Nat.lt_of_lt_of_le HB2.out.2.1 kk.size) (And.intro (WP.keep (O' := nw O wr y3) HB2.out.2.2.1 (fun i hi => hup i (.inl hi)) fun _ h => .inl h) (And.intro (MNV.kept (W' := y3) (O' := nw O wr y3) HB2.out.2.2.2 hup (fun i hi => hi.elim .inl fun h => .inr ⟨h.1, Nat.lt_of_lt_of_le h.2 kk.size⟩)) (MNV.kept (W' := y3) (O' := nw O wr y3) hv13 (fun _ _ => rfl) (fun i hi => hi.elim .inl fun h => .inr ⟨by have := HB2.out.2.1; rw [HX.out]; omega, h.2⟩))))))
      clear hup
      clear hv13 kk
      refine hK.out _ _ hH1 (fun hHeld => ?_)
      clear hK K
      try simp only [D.pts]
      try simp only [List.length_map] at *
      try rw [HTN.out.1]
      try rw [HTN.out.2]
      refine D.xH 16 (v := ?_) rfl (by kernel_rfl) (fun c a w h => h) (by rfl) ?_ hHeld ?_
      rotate_left
      · (intro w hSw; have q0_ := S.cell_of w _ 0 _ 90 _ hSw rfl; have q1_ := S.cell_of w _ 1 _ 90 _ hSw rfl; have q2_ := S.cell_of w _ 2 _ 90 _ hSw rfl; have q3_ := S.cell_of w _ 3 _ 90 _ hSw rfl; have q4_ := S.cell_of w _ 4 _ 90 _ hSw rfl; have q5_ := S.cell_of w _ 5 _ 90 _ hSw rfl; have q6_ := S.cell_of w _ 6 _ 90 _ hSw rfl; have q7_ := S.cell_of w _ 7 _ 90 _ hSw rfl; have q8_ := S.cell_of w _ 8 _ 90 _ hSw rfl; go_simp; try with_reducible rfl)
      simp only [D.pts]
      have hcs := one9 y3 (.int .i64 I.op) (.int .u16 I.v) (.pointer wq) (.int .i64 np1) (.int .i64 np2) (.int .i64 nk) (.slice pt tn ct) (.slice pe en ce') (.bool nhas) 173 (by intro u hu; simp only [List.mem_cons, List.not_mem_nil, or_false] at hu; rcases hu with rfl | rfl | rfl | rfl | rfl | rfl | rfl | rfl | rfl <;> rfl)
      have hb4 : Below bx wr (y3.alloc (.cells #[.int .i64 I.op, .int .u16 I.v, .pointer wq, .int .i64 np1, .int .i64 np2, .int .i64 nk, .slice pt tn ct, .slice pe en ce', .bool nhas] 173)) := HB3.out.1.alloc (Nat.le_of_lt HB3.out.2.1) _
      have hrow : (y3.alloc (.cells #[.int .i64 I.op, .int .u16 I.v, .pointer wq, .int .i64 np1, .int .i64 np2, .int .i64 nk, .slice pt tn ct, .slice pe en ce', .bool nhas] 173)).ownsRow W.heap.size 173 9 (.slice p3 k c3) k cs := S.own_kept HL.out.2.2.2 fun g hg _ => hb4.block g (HG.out g hg).2
      have hH4 : (y3.alloc (.cells #[.int .i64 I.op, .int .u16 I.v, .pointer wq, .int .i64 np1, .int .i64 np2, .int .i64 nk, .slice pt tn ct, .slice pe en ce', .bool nhas] 173)).heap[bx]? = some (.cells [.int .i64 nk, .int .i64 nop, .int .u16 nv, .string nnm, .slice q1 tn d1, .slice q2 en d2, .bool nhas, .int .i64 np1, .int .i64 np2].toArray 90 (0, 0)) := (Below.heap_alloc _ _ _ HB3.out.2.1).trans hHeld
      have hs4 : (y3.alloc (.cells #[.int .i64 I.op, .int .u16 I.v, .pointer wq, .int .i64 np1, .int .i64 np2, .int .i64 nk, .slice pt tn ct, .slice pe en ce', .bool nhas] 173)).heap.size = y3.heap.size + 1 := by simp
      have hal : ∀ i, i < y3.heap.size -> (y3.alloc (.cells #[.int .i64 I.op, .int .u16 I.v, .pointer wq, .int .i64 np1, .int .i64 np2, .int .i64 nk, .slice pt tn ct, .slice pe en ce', .bool nhas] 173)).heap[i]? = y3.heap[i]? := fun i hi => Below.heap_alloc _ _ _ hi
      refine wpAnyH_ready (rs := [17]) (by kernel_rfl) (by simp) ?_
      refine AllReadyH.cons rfl (fun K hK => ?_) AllReadyH.nil
      go_simp
      refine hK.out _ _ hH4 (fun hHeld => ?_)
      clear hK K
      try simp only [D.pts]
      generalize y3.alloc (.cells #[.int .i64 I.op, .int .u16 I.v, .pointer wq, .int .i64 np1, .int .i64 np2, .int .i64 nk, .slice pt tn ct, .slice pe en ce', .bool nhas] 173) = y4 at *
      refine wpAnyH_ready (rs := [18]) (by kernel_rfl) (by simp) ?_
      refine AllReadyH.cons rfl (fun K hK => ?_) AllReadyH.nil
      rw [if_pos (by rfl)]
      refine S.wp_append_row _ _ _ 146 173 zM 9 104 Tryz.underlying146 infoM rfl (by decide) rfl W.heap.size _ k cs rfl hrow _ 1 _ rfl hcs (by unfold S.room; omega) (by unfold maxLen; omega) (by have := HB3.out.2.1; omega) (fun v5 w5 hr5 hg5 => ?_)
      have hne : ∀ g, Value.ownBlock (.slice p3 k c3) = some g -> g ≠ bx := fun g hg e => by have := (HG.out g hg).2; omega
      have hH5 : w5.heap[bx]? = some (.cells [.int .i64 nk, .int .i64 nop, .int .u16 nv, .string nnm, .slice q1 tn d1, .slice q2 en d2, .bool nhas, .int .i64 np1, .int .i64 np2].toArray 90 (0, 0)) := (hg5.block bx (S.lt_of hH4) (fun e => hne bx e.symm rfl)).trans hH4
      refine hK.out _ _ hH5 (fun hHeld => ?_)
      clear hK K
      try simp only [D.pts]
      refine D.xH 19 (v := ?_) rfl (by kernel_rfl) (fun c a w h => h) (by rfl) ?_ hHeld ?_
      rotate_left
      · (intro w hSw; have q0_ := S.cell_of w _ 0 _ 90 _ hSw rfl; have q1_ := S.cell_of w _ 1 _ 90 _ hSw rfl; have q2_ := S.cell_of w _ 2 _ 90 _ hSw rfl; have q3_ := S.cell_of w _ 3 _ 90 _ hSw rfl; have q4_ := S.cell_of w _ 4 _ 90 _ hSw rfl; have q5_ := S.cell_of w _ 5 _ 90 _ hSw rfl; have q6_ := S.cell_of w _ 6 _ 90 _ hSw rfl; have q7_ := S.cell_of w _ 7 _ 90 _ hSw rfl; have q8_ := S.cell_of w _ 8 _ 90 _ hSw rfl; go_simp; try with_reducible rfl)
      simp only [D.pts]
      refine wpAnyH_done (by kernel_rfl) ?_ _
      have hfin : ML W w5 O E l (k + 1) v5 := by
        have hb5 : Below W.heap.size W w5 := HL.out.1.trans (Below.trans (hb4.mono hBx) (hg5.below (fun g hg => (HG.out g hg).1) (by have := HB3.out.2.1; omega)))
        refine ⟨hb5, fun i => U i \/ O i \/ (bx <= i /\ i < y3.heap.size), _, fun i hi => ?_, ?_, hr5⟩
        · have hs5 := hg5.size
          have hown := hg5.own
          rcases hi with hi | hi | hi
          · obtain ⟨h1, h2⟩ := HL.out.2.1 i hi
            have hi2 : i < bx := by
              rcases h1 with h1 | h1
              · have := HO.out.2.1 i h1; omega
              · rw [<- HX.out]; exact h1.2
            refine ⟨h1.elim .inl fun h => .inr ⟨h.1, by have := hb4.size; rw [HX.out] at this; omega⟩, fun e => ?_⟩
            rcases hown with hown | hown
            · rw [hown] at e; exact h2 e
            · have := hown i e; have := hb4.size; rw [HX.out] at this; omega
          · refine ⟨.inl hi, fun e => ?_⟩
            have h1 := HO.out.2.1 i hi
            have := (World.ownsRow.lt hr5 i e).1
            omega
          · refine ⟨.inr ⟨by omega, by omega⟩, fun e => ?_⟩
            rcases hown with hown | hown
            · rw [hown] at e; have := (HG.out i e).2; omega
            · have := hown i e; omega
        · have k5 : ∀ i, (U i \/ O i \/ (bx <= i /\ i < y3.heap.size)) -> Value.ownBlock (.slice p3 k c3) ≠ some i -> w5.heap[i]? = y4.heap[i]? := fun i hi hne => hg5.block i (by
            rcases hi with hi | hi | hi
            · rcases (HL.out.2.1 i hi).1 with h | h
              · have := HO.out.2.1 i h; have := hb4.size; rw [HX.out] at this; omega
              · have := h.2; have := hb4.size; omega
            · have := HO.out.2.1 i hi; have := hb4.size; rw [HX.out] at this; omega
            · omega) fun e => hne e.symm
          have kn : ∀ i, nw O wr y3 i -> (w5.heap[i]? = y3.heap[i]?) /\ (U i \/ O i \/ (bx <= i /\ i < y3.heap.size)) := fun i hi => by
            rcases hi with hi | hi
            · have h1 := HO.out.2.1 i hi
              refine ⟨(k5 i (.inr (.inl hi)) fun e => ?_).trans (hal i (by have := HB3.out.2.1; omega)), .inr (.inl hi)⟩
              have := (HG.out i e).1; omega
            · rw [HX.out] at hi
              refine ⟨(k5 i (.inr (.inr hi)) fun e => ?_).trans (hal i hi.2), .inr (.inr hi)⟩
              have := (HG.out i e).2; omega
          rw [HE.out]
          refine MC.app (MC.kept (fun i hi => (k5 i (.inl hi) (HL.out.2.1 i hi).2).trans (hb4.block i ?_)) (fun i hi => .inl hi) HL.out.2.2.1) ⟨wq, .slice pt tn ct, .slice pe en ce', [], ?_, ?_, ?_, ?_, rfl⟩
          · rcases (HL.out.2.1 i hi).1 with h | h
            · have := HO.out.2.1 i h; omega
            · rw [<- HX.out]; exact h.2
          · rw [HT.out]; rfl
          · rw [HT.out]; exact WP.keep HB3.out.2.2.1 (fun i hi => (kn i hi).1) fun i hi => (kn i hi).2
          · rw [HT.out]; have h := HB3.out.2.2.2.1; rw [HTN.out.1] at h; exact h.kept (fun i hi => (kn i hi).1) fun i hi => (kn i hi).2
          · rw [HT.out]; have h := HB3.out.2.2.2.2; rw [HTN.out.2] at h; exact h.kept (fun i hi => (kn i hi).1) fun i hi => (kn i hi).2
      have HFIN := hid hfin
      clear hfin hr5 hg5 hHeld hH5 hH4 hrow hcs hb4 hal hs4 hne
      go_wp2
      go_roundw
      case rel => exact ⟨k + 1, by omega, by go_num, HFIN.out⟩
      case measure => simp only [intOf]; omega
theorem nodes_all (n : Nd) : LC n.th /\ LC n.el := Nd.ind (P := fun n => LC n.th /\ LC n.el) (fun n h1 h2 => ⟨nodes_of n.th h1, nodes_of n.el h2⟩) n
theorem nodes_any (l : List Nd) : LC l := nodes_of l fun m _ => nodes_all m
open Go.ChangeMaps (setBlock)
open Go.Proofs.YtoemoiehjdmheaaGreat.Y (Nd Df Ps Pl hid ZV ndc NV N1 nl DV D1 dfc cells6)
set_option linter.unusedVariables false
set_option linter.unusedSimpArgs false
set_option maxHeartbeats 4000000
set_option maxRecDepth 100000
def zD : Df := ⟨0, ⟨#[]⟩, 0, [], z2⟩
def zQ : Pl := ⟨⟨#[]⟩, 0, 0, 0⟩
def evk (ds : List Df) (qs : List Pl) : Nat -> Ev
  | 0 => []
  | k + 1 => nme (evk ds qs k) ((ds[k]?).getD zD) ((qs[k]?).getD zQ)
theorem evk_succ (ds : List Df) (qs : List Pl) (k : Nat) (d : Df) (q : Pl) (h : ds[k]? = some d) (h2 : qs[k]? = some q) : evk ds qs (k + 1) = nme (evk ds qs k) d q := by rw [evk, h, h2]; rfl
def PLV (W : World) (O : Nat -> Prop) (v : Value) (qs : List Pl) : Prop := ∃ p c, v = .slice p qs.length c /\ ∀ (i : Nat) (q : Pl), qs[i]? = some q -> ∃ b o, p = some ⟨b, o, none⟩ /\ O b /\ W.cell? ⟨b, o + i * 4 + 3, none⟩ = some (.int .u16 q.ram)
structure NL (W wr : World) (ds : List Df) (qs : List Pl) (k : Nat) : Prop where
  bel : Below W.heap.size W wr
  ex : ∃ (U : Nat -> Prop) (L : Ez), (∀ i, U i -> W.heap.size < i /\ i < wr.heap.size) /\ MP wr W.heap.size L /\ EvR wr U (evk ds qs k) L
theorem NL.next {W w' : World} {ds : List Df} {qs : List Pl} {k : Nat} {d : Df} {q : Pl} (hb : Below W.heap.size W w') (hd : ds[k]? = some d) (hq : qs[k]? = some q) (U : Nat -> Prop) (E' : Ev) (L : Ez) (he : nme (evk ds qs k) d q = E') (hU : ∀ i, U i -> W.heap.size < i /\ i < w'.heap.size) (hM : MP w' W.heap.size L) (hE : EvR w' U E' L) : NL W w' ds qs (k + 1) :=
  ⟨hb, U, L, hU, hM, by rw [evk_succ ds qs k d q hd hq, he]; exact hE⟩
theorem boxW (w : World) (a b c : Value) (t : TypeId) : (w.alloc (.cells #[a, b, c] t)).heap[w.heap.size]? = some (.cells [a, b, c].toArray t (0, 0)) := heap_alloc_new w _
theorem run_mk (w : World) : (Instr.makeMap 98 none).run Tryz.prog w = .ok (.map (some w.heap.size)) (w.alloc (.map #[] 0)) := by
  simp [Instr.makeMap, run_underlying Tryz.underlying98]
theorem names_of (ds : List Df) (qs : List Pl) (dv pv : Value) (O1 O2 : Nat -> Prop) (W : World) (hO1 : ∀ i, O1 i -> i < W.heap.size) (hO2 : ∀ i, O2 i -> i < W.heap.size) (hD : DV W O1 dv ds) (hP : PLV W O2 pv qs) (hlen : qs.length = ds.length) (hnl : ∀ d ∈ ds, nl d.body <= 1048576) :
    Calls Tryz.prog 34 #[dv, pv] W fun e w' => ∃ (U : Nat -> Prop) (L : Ez), e = .returned (.map (some W.heap.size)) /\ MP w' W.heap.size L /\ EvR w' U (evk ds qs ds.length) L /\ (∀ i, U i -> W.heap.size < i /\ i < w'.heap.size) /\ Below W.heap.size W w' := by
  obtain ⟨p, c, rfl, hl, hp⟩ := hD
  obtain ⟨p2, c2, rfl, hp2⟩ := hP
  rw [hlen]
  have hmk := run_mk
  have h0 : NL W (W.alloc (.map #[] 0)) ds qs 0 := ⟨(Below.refl _ _).alloc (Nat.le_refl _) _, fun _ => False, [], fun _ h => h.elim, MP.made W, trivial⟩
  have H0 := hid h0
  have HD := hid (And.intro hO1 (And.intro hO2 (And.intro hp (And.intro hp2 (And.intro hlen hnl)))))
  clear h0 hO1 hO2 hp hp2 hlen hnl
  go_enter Tryz.func34, Tryz.ntmps34
  go_wp2_with fail
  clear hmk
  go_loopw [11] (fun i wr => ∃ k : Nat, k <= ds.length /\ i = .int .i64 (k : Int) /\ NL W wr ds qs k) (fun i _ => ds.length - (intOf i).toNat)
  case atStart => exact ⟨0, by omega, rfl, H0.out⟩
  case round =>
    obtain ⟨k, hk, rfl, hL⟩ := hrel
    by_cases hlt : k < ds.length
    case neg =>
      obtain rfl : k = ds.length := by omega
      have i1 : ¬ (ds.length : Int) < ds.length := by omega
      obtain ⟨U, L, hU, hM, hE⟩ := hL.ex
      have HF := hid (show MP wr W.heap.size L /\ EvR wr U (evk ds qs ds.length) L /\ (∀ i, U i -> W.heap.size < i /\ i < wr.heap.size) /\ Below W.heap.size W wr from ⟨hM, hE, hU, hL.bel⟩)
      clear hU hM hE hL H0
      go_wp2
      go_ret
      first | exact ⟨U, L, rfl, HF.out⟩ | exact ⟨rfl, U, L, HF.out⟩
    case pos =>
      have i1 : (k : Int) < ds.length := by omega
      have ea := List.getElem?_eq_getElem hlt
      have hnd := HD.out.2.2.2.2.2 ds[k] (List.getElem_mem _)
      generalize ds[k] = d at *
      obtain ⟨q, hq⟩ : ∃ q, qs[k]? = some q := ⟨_, List.getElem?_eq_getElem (by rw [HD.out.2.2.2.2.1]; exact hlt)⟩
      obtain ⟨b, o, rfl, hOb, hdd⟩ := HD.out.2.2.1 k d ea
      obtain ⟨bv, hc, hN⟩ := hdd
      obtain ⟨q1, d1, rfl, _, _⟩ := hN.ex
      have hB := hL.bel
      have k1 := hB.block b (HD.out.1 b hOb)
      obtain ⟨g0, g1, g2, g3, g4, g5⟩ := cells6 fun j x hx => (World.cell?_of_block (w := W) (a := ⟨b, o + k * 6 + j, none⟩) k1).trans (hc j x hx)
      obtain ⟨bx, hbx⟩ : ∃ bx, wr.heap.size = bx := ⟨_, rfl⟩
      have HX := hid hbx
      have hbmx : W.heap.size < bx := by obtain ⟨U, L, _, hM, _⟩ := hL.ex; rw [<- hbx]; exact hM.lt
      have HL := hid (And.intro hL (And.intro hN (And.intro hnd (And.intro ea hq))))
      clear hL hN hc k1 ea hnd hB hOb H0
      obtain ⟨nk, nnm, nv, nbody, np⟩ := d
      obtain ⟨np1, np2⟩ := np
      simp only at g0 g1 g2 g3 g4 g5 HL
      generalize htn : nbody.length = tn at *
      have HTN := hid htn
      clear htn
      obtain ⟨W1, hW1⟩ : ∃ W1, wr.alloc (.cells #[.int .i64 nk, .string nnm, .int .u16 nv, .slice q1 tn d1, .int .i64 np1, .int .i64 np2] 60) = W1 := ⟨_, rfl⟩
      have u1 : W1.heap[bx]? = some (.cells [.int .i64 nk, .string nnm, .int .u16 nv, .slice q1 tn d1, .int .i64 np1, .int .i64 np2].toArray 60 (0, 0)) := by rw [<- hW1, <- hbx]; exact heap_alloc_new wr _
      have hb0 : Below bx wr W1 := by rw [<- hW1, <- hbx]; exact (Below.refl _ _).alloc (Nat.le_refl _) _
      have hs0 : bx < W1.heap.size := S.lt_of u1
      have x0 := S.cell_of W1 _ 0 _ 60 _ u1 rfl
      have x1 := S.cell_of W1 _ 1 _ 60 _ u1 rfl
      have x2 := S.cell_of W1 _ 2 _ 60 _ u1 rfl
      have HW1 := hid hW1
      have HB0 := hid (And.intro hb0 (And.intro hs0 u1))
      clear hW1 hbx hb0 hs0 u1
      by_cases h1 : nk = 1
      · subst h1
        go_upto_region 7 with fail
        rw [HW1.out, HX.out]
        clear g0 g1 g2 g3 g4 g5 x0 x1 x2
        have hH0 : W1.drew.heap[bx]? = some (.cells [.int .i64 1, .string nnm, .int .u16 nv, .slice q1 tn d1, .int .i64 np1, .int .i64 np2].toArray 60 (0, 0)) := HB0.out.2.2
        refine wp_region_held_drew (S := fun wz : World => wz.heap[bx]? = some (.cells [.int .i64 1, .string nnm, .int .u16 nv, .slice q1 tn d1, .int .i64 np1, .int .i64 np2].toArray 60 (0, 0))) (by kernel_rfl) hH0 (fun hHeld => ?_)
        clear hH0
        have HB1 := hid (show Below bx wr W1.drew /\ bx < W1.drew.heap.size from ⟨HB0.out.1.drew, HB0.out.2.1⟩)
        generalize W1.drew = y0 at *
        refine D.zH (is := [0, 1, 2, 3, 4, 5, 7, 8]) ?_
        iterate 8
         refine D.yH (v := ?_) rfl (by kernel_rfl) (fun c a w h => h) (by rfl) ?_ hHeld ?_
         rotate_left
         · (intro w hSw; have q0_ := S.cell_of w _ 0 _ 60 _ hSw rfl; have q1_ := S.cell_of w _ 1 _ 60 _ hSw rfl; have q2_ := S.cell_of w _ 2 _ 60 _ hSw rfl; have q3_ := S.cell_of w _ 3 _ 60 _ hSw rfl; have q4_ := S.cell_of w _ 4 _ 60 _ hSw rfl; have q5_ := S.cell_of w _ 5 _ 60 _ hSw rfl; go_simp; try with_reducible rfl)
         simp only [D.pts]
        refine D.eH ?_
        refine wpAnyH_ready (rs := [6]) (by kernel_rfl) (by simp) ?_
        refine AllReadyH.cons rfl (fun K hK => ?_) AllReadyH.nil
        go_simp
        obtain ⟨U, L, hU, hM, hE⟩ := HL.out.1.ex
        have hbw : Below W.heap.size W y0 := HL.out.1.bel.trans (HB1.out.1.mono (Nat.le_of_lt hbmx))
        have hkeep : ∀ i, U i -> y0.heap[i]? = wr.heap[i]? := fun i hi => HB1.out.1.block i (by rw [<- HX.out]; exact (hU i hi).2)
        have hM0 : MP y0 W.heap.size L := hM.kept (HB1.out.1.block _ hbmx)
        have hE0 : EvR y0 U (evk ds qs k) L := EvR.kept hkeep (fun _ h => h) _ _ hE
        have hUy : ∀ i, U i -> i < y0.heap.size := fun i hi => by have h2 := (hU i hi).2; rw [HX.out] at h2; have := HB1.out.2; omega
        have hcall := nodes_any nbody (evk ds qs k) L W.heap.size (.slice q1 tn d1) O1 U y0 (fun i hi => Nat.lt_of_lt_of_le (HD.out.1 i hi) hbw.size) hUy (HL.out.2.1.below hbw HD.out.1) hM0 hE0 HL.out.2.2.1
        refine hcall.mono ?_
        rintro e y1 ⟨v6, rfl, hv6, kk⟩
        obtain ⟨pv, cv, rfl, _, _⟩ := hv6.ex
        have hH1 : y1.heap[bx]? = some (.cells [.int .i64 1, .string nnm, .int .u16 nv, .slice q1 tn d1, .int .i64 np1, .int .i64 np2].toArray 60 (0, 0)) := (kk.block _ HB1.out.2).trans hHeld
        have HB2 := hid (show Below W.heap.size W y1 /\ bx < y1.heap.size /\ (∀ i, U i -> W.heap.size < i /\ i < y1.heap.size) /\ MP y1 W.heap.size L /\ EvR y1 U (evk ds qs k) L /\ MNV y1 (nw U y0 y1) (.slice pv (nbody.map (rs (evk ds qs k))).length cv) (nbody.map (rs (evk ds qs k))) /\ W.heap.size < y0.heap.size /\ y0.heap.size <= y1.heap.size from
          ⟨hbw.trans (kk.mono hbw.size), Nat.lt_of_lt_of_le HB1.out.2 kk.size, fun i hi => ⟨(hU i hi).1, Nat.lt_of_lt_of_le (hUy i hi) kk.size⟩, hM0.kept (kk.block _ (by have := HB1.out.2; omega)), EvR.kept (fun i hi => kk.block i (hUy i hi)) (fun _ h => h) _ _ hE0, hv6, by have := HB1.out.2; omega, kk.size⟩)
        clear hcall hv6 kk hU hM hE hbw hkeep hM0 hE0 hUy
        refine hK.out _ _ hH1 (fun hHeld => ?_)
        clear hK K
        try simp only [D.pts]
        try simp only [List.length_map] at *
        refine D.xH 9 (v := ?_) rfl (by kernel_rfl) (fun c a w h => h) (by rfl) ?_ hHeld ?_
        rotate_left
        · (intro w hSw; have q0_ := S.cell_of w _ 0 _ 60 _ hSw rfl; have q1_ := S.cell_of w _ 1 _ 60 _ hSw rfl; have q2_ := S.cell_of w _ 2 _ 60 _ hSw rfl; have q3_ := S.cell_of w _ 3 _ 60 _ hSw rfl; have q4_ := S.cell_of w _ 4 _ 60 _ hSw rfl; have q5_ := S.cell_of w _ 5 _ 60 _ hSw rfl; go_simp; try with_reducible rfl)
        simp only [D.pts]
        have hs1 : (y1.alloc (.cells #[.slice pv nbody.length cv, .int .i64 np1, .int .i64 np2] 149)).heap.size = y1.heap.size + 1 := by simp
        have hal : ∀ i, i < y1.heap.size -> (y1.alloc (.cells #[.slice pv nbody.length cv, .int .i64 np1, .int .i64 np2] 149)).heap[i]? = y1.heap[i]? := fun i hi => Below.heap_alloc _ _ _ hi
        have hwb := boxW y1 (.slice pv nbody.length cv) (.int .i64 np1) (.int .i64 np2) 149
        have hB3 : Below W.heap.size W (y1.alloc (.cells #[.slice pv nbody.length cv, .int .i64 np1, .int .i64 np2] 149)) := HB2.out.1.alloc HB2.out.1.size _
        have hH2 : (y1.alloc (.cells #[.slice pv nbody.length cv, .int .i64 np1, .int .i64 np2] 149)).heap[bx]? = some (.cells [.int .i64 1, .string nnm, .int .u16 nv, .slice q1 tn d1, .int .i64 np1, .int .i64 np2].toArray 60 (0, 0)) := (hal bx HB2.out.2.1).trans hHeld
        refine wpAnyH_ready (rs := [10]) (by kernel_rfl) (by simp) ?_
        refine AllReadyH.cons rfl (fun K hK => ?_) AllReadyH.nil
        go_simp
        refine hK.out _ _ hH2 (fun hHeld => ?_)
        clear hK K
        try simp only [D.pts]
        generalize hy2 : y1.alloc (.cells #[.slice pv nbody.length cv, .int .i64 np1, .int .i64 np2] 149) = y2 at *
        refine D.xH 11 (v := ?_) rfl (by kernel_rfl) (fun c a w h => h) (by rfl) ?_ hHeld ?_
        rotate_left
        · (intro w hSw; have q0_ := S.cell_of w _ 0 _ 60 _ hSw rfl; have q1_ := S.cell_of w _ 1 _ 60 _ hSw rfl; have q2_ := S.cell_of w _ 2 _ 60 _ hSw rfl; have q3_ := S.cell_of w _ 3 _ 60 _ hSw rfl; have q4_ := S.cell_of w _ 4 _ 60 _ hSw rfl; have q5_ := S.cell_of w _ 5 _ 60 _ hSw rfl; go_simp; try with_reducible rfl)
        simp only [D.pts]
        have hM2 : MP y2 W.heap.size L := HB2.out.2.2.2.1.kept (hal _ (by have := HB2.out.2.1; omega))
        have hu := run_up y2 W.heap.size nnm (vI ⟨1, 0, [nbody.map (rs (evk ds qs k))], (np1, np2)⟩ (.pointer (some ⟨y1.heap.size, 0, none⟩))) L hM2
        have hM5 := hM2.up nnm (vI ⟨1, 0, [nbody.map (rs (evk ds qs k))], (np1, np2)⟩ (.pointer (some ⟨y1.heap.size, 0, none⟩)))
        have ho5 : ∀ i, i ≠ W.heap.size -> (setBlock y2 W.heap.size (.map (ents 0 (upz L nnm (vI ⟨1, 0, [nbody.map (rs (evk ds qs k))], (np1, np2)⟩ (.pointer (some ⟨y1.heap.size, 0, none⟩))))).toArray (upz L nnm (vI ⟨1, 0, [nbody.map (rs (evk ds qs k))], (np1, np2)⟩ (.pointer (some ⟨y1.heap.size, 0, none⟩)))).length)).heap[i]? = y2.heap[i]? := fun i hi => R.setBlock_other y2 W.heap.size i _ hi
        have hs5 : (setBlock y2 W.heap.size (.map (ents 0 (upz L nnm (vI ⟨1, 0, [nbody.map (rs (evk ds qs k))], (np1, np2)⟩ (.pointer (some ⟨y1.heap.size, 0, none⟩))))).toArray (upz L nnm (vI ⟨1, 0, [nbody.map (rs (evk ds qs k))], (np1, np2)⟩ (.pointer (some ⟨y1.heap.size, 0, none⟩)))).length)).heap.size = y2.heap.size := R.setBlock_size _ _ _
        have hb5 : Below W.heap.size W (setBlock y2 W.heap.size (.map (ents 0 (upz L nnm (vI ⟨1, 0, [nbody.map (rs (evk ds qs k))], (np1, np2)⟩ (.pointer (some ⟨y1.heap.size, 0, none⟩))))).toArray (upz L nnm (vI ⟨1, 0, [nbody.map (rs (evk ds qs k))], (np1, np2)⟩ (.pointer (some ⟨y1.heap.size, 0, none⟩)))).length)) := R.below_setBlock hB3 _ (Nat.le_refl _) _
        unfold vI at hu
        simp only at hu
        have hV : (vI ⟨1, 0, [nbody.map (rs (evk ds qs k))], (np1, np2)⟩ (.pointer (some ⟨y1.heap.size, 0, none⟩))) = .agg #[.int .i64 1, .int .u16 0, .pointer (some ⟨y1.heap.size, 0, none⟩), .int .i64 0, .int .i64 0] := rfl
        rw [hV] at hM5 ho5 hs5 hb5
        have hH5 := (ho5 bx (by omega)).trans hH2
        refine wpAnyH_ready (rs := [12]) (by kernel_rfl) (by simp) ?_
        refine AllReadyH.cons rfl (fun K hK => ?_) AllReadyH.nil
        go_simp
        refine hK.out _ _ hH5 (fun hHeld => ?_)
        clear hK K
        try simp only [D.pts]
        refine wpAnyH_done (by kernel_rfl) ?_ _
        generalize setBlock y2 W.heap.size (.map (ents 0 (upz L nnm (.agg #[.int .i64 1, .int .u16 0, .pointer (some ⟨y1.heap.size, 0, none⟩), .int .i64 0, .int .i64 0]))).toArray (upz L nnm (.agg #[.int .i64 1, .int .u16 0, .pointer (some ⟨y1.heap.size, 0, none⟩), .int .i64 0, .int .i64 0])).length) = y5 at *
        have hfin : NL W y5 ds qs (k + 1) := by
          refine NL.next hb5 HL.out.2.2.2.1 HL.out.2.2.2.2 (fun i => U i \/ nw U y0 y1 i \/ i = y1.heap.size) (upn (evk ds qs k) nnm ⟨1, 0, [nbody.map (rs (evk ds qs k))], (np1, np2)⟩) _ (by unfold nme; rw [if_pos rfl]) (fun i hi => ?_) hM5 ?_
          · rw [hs5, hs1]
            rcases hi with hi | hi | rfl
            · have := HB2.out.2.2.1 i hi; omega
            · rcases hi with hi | hi
              · have := HB2.out.2.2.1 i hi; omega
              · have := HB2.out.2.2.2.2.2.2.1; omega
            · have := HB2.out.2.1; omega
          · have kk : ∀ i, U i \/ nw U y0 y1 i -> y5.heap[i]? = y1.heap[i]? := fun i hi => by
              have h1 : W.heap.size < i /\ i < y1.heap.size := by
                rcases hi with hi | hi | hi
                · exact HB2.out.2.2.1 i hi
                · exact HB2.out.2.2.1 i hi
                · have := HB2.out.2.2.2.2.2.2.1; omega
              exact (ho5 i (by omega)).trans (hal i h1.2)
            refine EvR.up nnm ⟨1, 0, [nbody.map (rs (evk ds qs k))], (np1, np2)⟩ (some ⟨y1.heap.size, 0, none⟩) (.inr ⟨y1.heap.size, _, .slice pv nbody.length cv, rfl, rfl, .inr (.inr rfl), ?_, ?_⟩) _ _ (EvR.kept (fun i hi => kk i (.inl hi)) (fun i hi => .inl hi) _ _ HB2.out.2.2.2.2.1)
            · exact (ho5 _ (by have := HB2.out.2.1; omega)).trans hwb
            · have h := HB2.out.2.2.2.2.2.1
              try rw [List.length_map] at h
              exact h.kept (fun i hi => kk i (.inr hi)) fun i hi => .inr (.inl hi)
        have HFIN := hid hfin
        clear hfin hHeld hM5 ho5 hs5 hb5 hu hM2 hal hwb hB3 hH2 hs1 hy2 hH5
        go_wp2
        go_roundw
        case rel => exact ⟨k + 1, by omega, by go_num, HFIN.out⟩
        case measure => simp only [intOf]; omega
      have e1 : (nk == 1) = false := by simp [h1]
      obtain ⟨U, L, hU, hM, hE⟩ := HL.out.1.ex
      have hbw : Below W.heap.size W W1 := HL.out.1.bel.trans (HB0.out.1.mono (Nat.le_of_lt hbmx))
      have hM0 : MP W1 W.heap.size L := hM.kept (HB0.out.1.block _ hbmx)
      have hE0 : EvR W1 U (evk ds qs k) L := EvR.kept (fun i hi => HB0.out.1.block i (by rw [<- HX.out]; exact (hU i hi).2)) (fun _ h => h) _ _ hE
      have hU0 : ∀ i, U i -> W.heap.size < i /\ i < W1.heap.size := fun i hi => by have h2 := hU i hi; rw [HX.out] at h2; have := HB0.out.2.1; omega
      have HU := hid (And.intro hU0 (And.intro hM0 (And.intro hE0 hbw)))
      clear hU hM hE hM0 hE0 hU0 hbw
      by_cases h2 : nk = 2
      · subst h2
        have hfin : NL W (setBlock W1 W.heap.size (.map (ents 0 (upz L nnm (vI ⟨2, nv, [], z2⟩ (.pointer none)))).toArray (upz L nnm (vI ⟨2, nv, [], z2⟩ (.pointer none))).length)) ds qs (k + 1) := by
          refine NL.next (R.below_setBlock HU.out.2.2.2 _ (Nat.le_refl _) _) HL.out.2.2.2.1 HL.out.2.2.2.2 U (upn (evk ds qs k) nnm ⟨2, nv, [], z2⟩) _ (by unfold nme; rw [if_neg (show ¬ (2 : Int) = 1 by decide), if_pos rfl]) (fun i hi => by rw [R.setBlock_size]; exact HU.out.1 i hi) (HU.out.2.1.up nnm _) (EvR.up nnm ⟨2, nv, [], z2⟩ none (.inl ⟨rfl, rfl⟩) _ _ (EvR.kept (fun i hi => R.setBlock_other _ _ i _ (by have := (HU.out.1 i hi).1; omega)) (fun _ h => h) _ _ HU.out.2.2.1))
        have hu := run_up W1 W.heap.size nnm (vI ⟨2, nv, [], z2⟩ (.pointer none)) L HU.out.2.1
        have hV : vI ⟨2, nv, [], z2⟩ (.pointer none) = .agg #[.int .i64 2, .int .u16 nv, .pointer none, .int .i64 0, .int .i64 0] := rfl
        rw [hV] at hfin hu
        have HFIN := hid hfin
        clear hfin h1
        go_upto_region 9 with fail
        rw [HW1.out, HX.out]
        clear g0 g1 g2 g3 g4 g5
        go_wp2_with fail
        go_roundw
        case rel => exact ⟨k + 1, by omega, by go_num, HFIN.out⟩
        case measure => simp only [intOf]; omega
      have e2 : (nk == 2) = false := by simp [h2]
      by_cases h3 : nk = 3
      · subst h3
        obtain ⟨pb, po, rfl, hOp, hcp⟩ := HD.out.2.2.2.1 k q HL.out.2.2.2.2
        have hcp1 : W1.cell? ⟨pb, po + k * 4 + 3, none⟩ = some (.int .u16 q.ram) := (HU.out.2.2.2.cell (World.block_lt_of_cell? W _ hcp)).trans hcp
        have hpb : pb ≠ W.heap.size := by have := HD.out.2.1 pb hOp; omega
        have hfin : NL W (setBlock W1.drew W.heap.size (.map (ents 0 (upz L nnm (vI ⟨2, q.ram, [], z2⟩ (.pointer none)))).toArray (upz L nnm (vI ⟨2, q.ram, [], z2⟩ (.pointer none))).length)) ds qs (k + 1) := by
          refine NL.next (R.below_setBlock HU.out.2.2.2.drew _ (Nat.le_refl _) _) HL.out.2.2.2.1 HL.out.2.2.2.2 U (upn (evk ds qs k) nnm ⟨2, q.ram, [], z2⟩) _ (by unfold nme; rw [if_neg (show ¬ (3 : Int) = 1 by decide), if_neg (show ¬ (3 : Int) = 2 by decide), if_pos rfl]) (fun i hi => by rw [R.setBlock_size]; exact HU.out.1 i hi) (MP.up (W := W1.drew) HU.out.2.1 nnm _) (EvR.up nnm ⟨2, q.ram, [], z2⟩ none (.inl ⟨rfl, rfl⟩) _ _ (EvR.kept (fun i hi => R.setBlock_other _ _ i _ (by have := (HU.out.1 i hi).1; omega)) (fun _ h => h) _ _ (EvR.kept (W := W1) (W' := W1.drew) (fun _ _ => rfl) (fun _ h => h) _ _ HU.out.2.2.1)))
        have hu := run_up W1.drew W.heap.size nnm (vI ⟨2, q.ram, [], z2⟩ (.pointer none)) L HU.out.2.1
        have hV : vI ⟨2, q.ram, [], z2⟩ (.pointer none) = .agg #[.int .i64 2, .int .u16 q.ram, .pointer none, .int .i64 0, .int .i64 0] := rfl
        rw [hV] at hfin hu
        have hS0 : W1.drew.heap[bx]? = some (.cells [.int .i64 3, .string nnm, .int .u16 nv, .slice q1 tn d1, .int .i64 np1, .int .i64 np2].toArray 60 (0, 0)) /\ W1.drew.cell? ⟨pb, po + k * 4 + 3, none⟩ = some (.int .u16 q.ram) := ⟨HB0.out.2.2, hcp1⟩
        have hS5 : (setBlock W1.drew W.heap.size (.map (ents 0 (upz L nnm (.agg #[.int .i64 2, .int .u16 q.ram, .pointer none, .int .i64 0, .int .i64 0]))).toArray (upz L nnm (.agg #[.int .i64 2, .int .u16 q.ram, .pointer none, .int .i64 0, .int .i64 0])).length)).heap[bx]? = some (.cells [.int .i64 3, .string nnm, .int .u16 nv, .slice q1 tn d1, .int .i64 np1, .int .i64 np2].toArray 60 (0, 0)) /\ (setBlock W1.drew W.heap.size (.map (ents 0 (upz L nnm (.agg #[.int .i64 2, .int .u16 q.ram, .pointer none, .int .i64 0, .int .i64 0]))).toArray (upz L nnm (.agg #[.int .i64 2, .int .u16 q.ram, .pointer none, .int .i64 0, .int .i64 0])).length)).cell? ⟨pb, po + k * 4 + 3, none⟩ = some (.int .u16 q.ram) :=
          ⟨(R.setBlock_other _ _ bx _ (by omega)).trans hS0.1, (World.cell?_of_block (w := W1.drew) (R.setBlock_other _ _ pb _ hpb)).trans hS0.2⟩
        have HFIN := hid hfin
        have HDR := hid (And.intro hS0 hS5)
        have HUU := hid hu
        clear hfin h1 h2 hcp hcp1 hS0 hS5 hu
        go_upto_region 11 with fail
        rw [HW1.out, HX.out]
        clear g0 g1 g2 g3 g4 g5 x0 x1 x2
        refine wp_region_held_drew (S := fun wz : World => wz.heap[bx]? = some (.cells [.int .i64 3, .string nnm, .int .u16 nv, .slice q1 tn d1, .int .i64 np1, .int .i64 np2].toArray 60 (0, 0)) /\ wz.cell? ⟨pb, po + k * 4 + 3, none⟩ = some (.int .u16 q.ram)) (by kernel_rfl) HDR.out.1 (fun hHeld => ?_)
        have hu := HUU.out
        have i2 : (k : Int) < (ds.length : Int) := i1
        refine D.zH (is := [0, 1, 2, 3, 4, 5, 6, 7, 8]) ?_
        iterate 9
         refine D.yH (v := ?_) rfl (by kernel_rfl) (fun c a w h => h) (by rfl) ?_ hHeld ?_
         rotate_left
         · (intro w hSw; have hpc := hSw.2; have q0_ := S.cell_of w _ 0 _ 60 _ hSw.1 rfl; have q1_ := S.cell_of w _ 1 _ 60 _ hSw.1 rfl; have q2_ := S.cell_of w _ 2 _ 60 _ hSw.1 rfl; have q3_ := S.cell_of w _ 3 _ 60 _ hSw.1 rfl; have q4_ := S.cell_of w _ 4 _ 60 _ hSw.1 rfl; have q5_ := S.cell_of w _ 5 _ 60 _ hSw.1 rfl; go_simp; try with_reducible rfl)
         simp only [D.pts]
        refine D.eH ?_
        refine wpAnyH_ready (rs := [9]) (by kernel_rfl) (by simp) ?_
        refine AllReadyH.cons rfl (fun K hK => ?_) AllReadyH.nil
        go_simp
        refine hK.out _ _ HDR.out.2 (fun hHeld => ?_)
        clear hK K
        try simp only [D.pts]
        refine wpAnyH_done (by kernel_rfl) ?_ _
        clear hHeld hu
        go_wp2
        go_roundw
        case rel => exact ⟨k + 1, by omega, by go_num, HFIN.out⟩
        case measure => simp only [intOf]; omega
      have e3 : (nk == 3) = false := by simp [h3]
      have hfin : NL W W1 ds qs (k + 1) := by
        refine NL.next HU.out.2.2.2 HL.out.2.2.2.1 HL.out.2.2.2.2 U (evk ds qs k) L (by unfold nme; simp only; rw [if_neg h1, if_neg h2, if_neg h3]) HU.out.1 HU.out.2.1 HU.out.2.2.1
      have HFIN := hid hfin
      clear hfin h1 h2 h3
      go_upto_region 12 with fail
      rw [HW1.out]
      clear g0 g1 g2 g3 g4 g5 x0 x1 x2
      go_wp2_with fail
      go_roundw
      case rel => exact ⟨k + 1, by omega, by go_num, HFIN.out⟩
      case measure => simp only [intOf]; omega
end Go.Proofs.YtoemoiehjdmheaaGreat.Z
