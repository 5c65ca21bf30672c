import Derived.Test.YtlilefhmohkfkaaGreatDoorEDrop
import Derived.Test.YtlilefhmohkfkaaGreatDoorERfO
import Derived.Test.YtlilefhmohkfkaaGreatDoorEStrchoice
namespace Go.Proofs.YtlilefhmohkfkaaGreatDoor.E
open Go.RowKit
open Go.Proofs
open Go.Proofs.YtlilefhmohkfkaaGreatDoor.Y (Nd Df Ps ndc dfc hid NV cells9)
open R (ck cks cks_cons)
set_option linter.unusedVariables false
set_option linter.unusedSimpArgs false
set_option maxHeartbeats 2000000
set_option maxRecDepth 100000
theorem ck_ok (names : List ByteArray) (n : Nd) (i : Nat × Bool) (h : ck names n i = 0) : NOk n := by
 obtain ⟨hu, hf, _, _⟩ := ck_parts names n i h
 have hk9 : 1 <= n.k /\ n.k <= 9 := by
  unfold R.uses R.usesF at hu
  simp only [Bool.and_eq_true, decide_eq_true_eq] at hu
  exact ⟨hu.1, hu.2.1⟩
 refine ⟨hk9.1, hk9.2, fun h1 => ?_, fun h4 hh => ?_⟩
 ·unfold R.fits at hf
  rw [if_pos h1] at hf
  simpa using hf
 ·unfold R.uses R.usesF at hu
  simp only [Bool.and_eq_true, Bool.or_eq_true, decide_eq_true_eq] at hu
  have := hu.2.2.2.2.2.2.1
  rw [hh, h4] at this
  simpa using this
theorem ck_all (names : List ByteArray) : ∀ n : Nd, ∀ i, ck names n i = 0 -> NAll [n] :=
 Nd.ind (P := fun n => ∀ i, ck names n i = 0 -> NAll [n]) fun n h1 h2 i h => by
  obtain ⟨_, _, a1, a2⟩ := ck_parts names n i h
  have hm : ∀ (l : List Nd) (j : Nat × Bool), cks names l j = 0 -> ∀ m ∈ l, ck names m j = 0 := by
   intro l
   induction l with
   | nil => intro j _ m hm; cases hm
   | cons a r ih =>
    intro j hj m hm
    rw [cks_cons] at hj
    by_cases ha : ck names a j = 0
    ·rw [if_pos ha] at hj
     rcases List.mem_cons.1 hm with rfl | hm
     ·exact ha
     ·exact ih j hj m hm
    ·rw [if_neg ha] at hj; exact absurd hj ha
  intro R hR m hm'
  rw [List.mem_singleton] at hm'
  subst hm'
  exact hR _ (ck_ok names _ i h) (fun k hk => h1 k hk _ (hm _ _ a1 k hk) R hR k (by simp)) (fun k hk => h2 k hk _ (hm _ _ a2 k hk) R hR k (by simp))
theorem cks_all (names : List ByteArray) : ∀ (l : List Nd) (i : Nat × Bool), cks names l i = 0 -> NAll l
 | [], i, _ => fun R hR m hm => by cases hm
 | a :: r, i, h => by
  rw [cks_cons] at h
  by_cases ha : ck names a i = 0
  ·rw [if_pos ha] at h
   intro R hR m hm
   rcases List.mem_cons.1 hm with rfl | hm
   ·exact ck_all names _ i ha R hR _ (by simp)
   ·exact cks_all names r i h R hR m hm
  ·rw [if_neg ha] at h; exact absurd h ha
def NDR (tl : List Ty) (names : List ByteArray) (n : Nd) : Prop := ∀ (tv ev : Value) (O : Nat -> Prop) (i : Nat × Bool) (x : RX) (sv : Value) (g : Nat) (kv : Value) (W : World), (∀ j, O j -> j < W.heap.size) -> ¬ O g -> NV W O tv n.th -> NV W O ev n.el -> ck names n i = 0 -> x.2.own.length <= 128 -> RW W g kv x.1 -> OV W g sv x.2.own -> KV W g kv tl ->
  Calls Tryz.prog 58 #[.pointer (some ⟨g, 0, none⟩), .agg (rsc sv x.2).toArray, .agg (ndc n tv ev).toArray] W (RO W g kv (rnode (find tl) n x))
def BDR (tl : List Ty) (names : List ByteArray) (l : List Nd) : Prop := ∀ (v : Value) (O : Nat -> Prop) (i : Nat × Bool) (x : RX) (sv : Value) (g : Nat) (kv : Value) (W : World), (∀ j, O j -> j < W.heap.size) -> ¬ O g -> NV W O v l -> cks names l i = 0 -> LI x -> RW W g kv x.1 -> OV W g sv x.2.own -> KV W g kv tl ->
  Calls Tryz.prog 48 #[.pointer (some ⟨g, 0, none⟩), .agg (rsc sv x.2).toArray, v] W (RO W g kv (rbody (find tl) l x))
theorem nr_of (tl : List Ty) (htl : tl.length <= 1048576) (names : List ByteArray) (n : Nd) (b1 : BDR tl names n.th) (b2 : BDR tl names n.el) : NDR tl names n := by
 intro tv ev O i x sv g kv W hO hOg ht he hck hx h ho hk
 obtain ⟨_, _, hc1, hc2⟩ := ck_parts names n i hck
 obtain ⟨k1, k9, hop, _⟩ := ck_ok names n i hck
 obtain ⟨q1, d1, rfl, _, _⟩ := id ht.ex
 obtain ⟨q2, d2, rfl, _, _⟩ := id he.ex
 have hth : BH W g kv (.slice q1 n.th.length d1) (rbody (find tl) n.th) := ⟨rbody_li _ _, fun x v V hl hr hv hG => b1 _ O _ x v g kv V (fun j hj => Nat.lt_of_lt_of_le (hO j hj) hG.size) hOg (nv_gw ht hG hO hOg) hc1 hl hr hv (hk.gw hG)⟩
 have hel : BH W g kv (.slice q2 n.el.length d2) (rbody (find tl) n.el) := ⟨rbody_li _ _, fun x v V hl hr hv hG => b2 _ O _ x v g kv V (fun j hj => Nat.lt_of_lt_of_le (hO j hj) hG.size) hOg (nv_gw he hG hO hOg) hc2 hl hr hv (hk.gw hG)⟩
 rw [rnode_is]
 obtain ⟨w, s⟩ := x
 obtain ⟨k, op, v, nm, th, el, has, p⟩ := n
 unfold ndc rnodeB
 simp only at *
 by_cases c1 : k = 1
 ·subst c1
  rw [if_pos rfl]
  exact nr_1 op v nm th el has p q1 q2 d1 d2 w s sv hx g kv W h ho (hop rfl)
 rw [if_neg c1]
 by_cases c2 : k = 2
 ·subst c2
  rw [if_pos rfl]
  exact nr_2 op v nm th el has p q1 q2 d1 d2 w s sv hx g kv W h ho
 rw [if_neg c2]
 by_cases c3 : k = 3
 ·subst c3
  rw [if_pos rfl]
  exact nr_3 op v nm th el has p q1 q2 d1 d2 w s sv hx g kv W h ho tl htl hk
 rw [if_neg c3]
 by_cases c9 : k = 9
 ·subst c9
  rw [if_pos rfl]
  exact nr_9 op v nm th el has p q1 q2 d1 d2 w s sv hx g kv W h ho
 rw [if_neg c9]
 by_cases c4 : k = 4
 ·subst c4
  rw [if_pos rfl]
  cases has
  ·exact nr_4f op v nm th el p q1 q2 d1 d2 w s sv hx g kv W h ho _ hth
  ·exact nr_4t op v nm th el p q1 q2 d1 d2 w s sv hx g kv W h ho _ hth _ hel
 rw [if_neg c4]
 by_cases c5 : k = 5
 ·subst c5
  rw [if_pos rfl]
  exact nr_5 op v nm th el has p q1 q2 d1 d2 w s sv hx g kv W h ho _ hth
 rw [if_neg c5]
 by_cases c6 : k = 6
 ·subst c6
  rw [if_pos rfl]
  exact nr_6 op v nm th el has p q1 q2 d1 d2 w s sv hx g kv W h ho _ hth _ hel
 rw [if_neg c6]
 by_cases c7 : k = 7
 ·subst c7
  rw [if_pos rfl]
  exact nr_7 op v nm th el has p q1 q2 d1 d2 w s sv hx g kv W h ho _ hth
 rw [if_neg c7]
 obtain rfl : k = 8 := by omega
 exact nr_8 op v nm th el has p q1 q2 d1 d2 w s sv hx g kv W h ho _ hth
structure BW (W wr : World) (g : Nat) (kv : Value) (b d : Nat) (x : RX) (v : Value) : Prop where
 sb : RB wr b v x.2
 ov : OV wr g v x.2.own
 rb : RB wr d (.slice none 0 0) z0
 rw : RW wr g kv x.1
 gw : Gw g W wr
theorem br_of (tl : List Ty) (names : List ByteArray) (l : List Nd) (hn : ∀ m ∈ l, NDR tl names m) : BDR tl names l := by
 intro v O i x sv g kv W hO hOg hV hck hx h ho hk
 obtain ⟨p, c, rfl, hl, hp⟩ := hV.ex
 clear hV
 obtain ⟨q0, c0', hsv, _, _⟩ := id ho.ex
 subst hsv
 obtain ⟨W0, hW0, hB0, hs0, k0⟩ := box_r x.2 (.slice q0 x.2.own.length c0') W
 obtain ⟨W1, hW1, hB1, hs1, k1⟩ := box_r z0 (.slice none 0 0) W0
 unfold z0 at hW1
 simp only at hW1
 have hB : Below W.heap.size W W1 := hB0.trans (hB1.mono (by omega))
 have HI : Y.Hd (BW W W1 g kv W.heap.size W0.heap.size x (.slice q0 x.2.own.length c0')) := ⟨k0.below hB1, ho.below hB, k1, h.below hB, Gw.of hB⟩
 have HN : Y.Hd (g < W.heap.size /\ W0.heap.size = W.heap.size + 1) := ⟨h.lt, hs0⟩
 have HX := hid hx
 have HCK := hid hck
 have HR : Y.Hd (rbody (find tl) l x = rbody (find tl) (l.drop 0) x) := ⟨rfl⟩
 generalize hR : rbody (find tl) l x = R at *
 clear hR k0 k1 hB0 hB1 hB hs0 hs1 h hx hck ho
 unfold rsc
 go_enter Tryz.func48, Tryz.ntmps48
 go_wp2
 clear hW0 hW1
 go_loopw [7] (fun ix wr => ∃ (k : Nat) (x : RX) (sv : Value), k <= l.length /\ ix = .int .i64 (k : Int) /\ LI x /\ BW W wr g kv W.heap.size W0.heap.size x sv /\ R = rbody (find tl) (l.drop k) x /\ cks names (l.drop k) i = 0) (fun ix _ => l.length - (intOf ix).toNat)
 case atStart => exact ⟨0, x, _, by omega, rfl, HX.out, HI.out, HR.out, HCK.out⟩
 case round =>
  clear HI HX HCK HR
  obtain ⟨k, x, sv, hkl, rfl, hx, hBW, hR, hc⟩ := hrel
  obtain ⟨w1, h1, o1, dd1⟩ := x
  obtain ⟨qv, qc, hsv, _, _⟩ := id hBW.ov.ex
  (try simp only at hsv)
  subst hsv
  have HB := hid hBW
  obtain ⟨x0, x1, x2⟩ := hBW.sb.cells
  have c6 := hBW.rw.cells.2.2.2.2.2.2.1
  (try simp only at x0 x1 x2 c6)
  clear hBW
  by_cases hlt : k < l.length
  ·have i1 : (k : Int) < l.length := by omega
   have hd : l.drop k = l[k] :: l.drop (k + 1) := List.drop_eq_getElem_cons hlt
   rw [hd, rbody_cons] at hR
   cases dd1
   ·by_cases he : w1.e = 0
    ·have ea := List.getElem?_eq_getElem hlt
     have hm := hn l[k] (List.getElem_mem _)
     rw [if_neg (by rintro (c | c); (cases c); exact c he)] at hR
     rw [hd, cks_cons] at hc
     have d6 : (w1.e == 0) = true := by simpa using he
     generalize l[k] = n at *
     obtain ⟨b, o, rfl, hOb, hN⟩ := hp k n ea
     obtain ⟨tv, ev, hcl, ht, hev⟩ := hN.ex
     obtain ⟨q1, d1, rfl, _, _⟩ := id ht.ex
     obtain ⟨q2, d2, rfl, _, _⟩ := id hev.ex
     have hbne : b ≠ g := fun e => hOg (e ▸ hOb)
     have kb := HB.out.gw.block b (hO b hOb) hbne
     have hc1 : ck names n i = 0 := by
      by_cases e : ck names n i = 0
      ·exact e
      ·rw [if_neg e] at hc; exact absurd hc e
     rw [if_pos hc1] at hc
     have HRR := hid hR
     have HCC := hid hc
     have HLI := hid (rnode_li (find tl) n (w1, ⟨h1, o1, false⟩) (hx.2 he))
     have hx128 : o1.length <= 128 := hx.2 he
     have HMK : Y.Hd (∀ wz, Below wr.heap.size wr wz -> (fun wz : World => wz.cell? ⟨W.heap.size, 0, none⟩ = some (.int .i64 h1) /\ wz.cell? ⟨W.heap.size, 1, none⟩ = some (.slice qv o1.length qc) /\ wz.cell? ⟨W.heap.size, 2, none⟩ = some (.bool false) /\ wz.cell? ⟨b, o + k * 9, none⟩ = some (.int .i64 n.k) /\ wz.cell? ⟨b, o + k * 9 + 1, none⟩ = some (.int .i64 n.op) /\ wz.cell? ⟨b, o + k * 9 + 2, none⟩ = some (.int .u16 n.v) /\ wz.cell? ⟨b, o + k * 9 + 3, none⟩ = some (.string n.nm) /\ wz.cell? ⟨b, o + k * 9 + 4, none⟩ = some (.slice q1 n.th.length d1) /\ wz.cell? ⟨b, o + k * 9 + 5, none⟩ = some (.slice q2 n.el.length d2) /\ wz.cell? ⟨b, o + k * 9 + 6, none⟩ = some (.bool n.has) /\ wz.cell? ⟨b, o + k * 9 + 7, none⟩ = some (.int .i64 n.p.1) /\ wz.cell? ⟨b, o + k * 9 + 8, none⟩ = some (.int .i64 n.p.2)) wz) := ⟨fun wz hz => by
      obtain ⟨x0, x1, x2⟩ := (HB.out.sb.below hz).cells
      obtain ⟨g0, g1, g2, g3, g4, g5, g6, g7, g8⟩ := cells9 fun j x hx => (World.cell?_of_block (w := wr) (a := ⟨b, o + k * 9 + j, none⟩) (hz.block b (Nat.lt_of_lt_of_le (hO b hOb) HB.out.gw.size))).trans ((World.cell?_of_block (w := W) (a := ⟨b, o + k * 9 + j, none⟩) kb).trans (hcl j x hx))
      exact ⟨x0, x1, x2, g0, g1, g2, g3, g4, g5, g6, g7, g8⟩⟩
     have HB0 := hid (Below.refl wr.heap.size wr).drew
     have HLT := hid ht
     have HLE := hid hev
     have HO := hid hO
     have HK := hid hk
     clear hR hc kb hcl hN ea hd hp hO hk ht hev
     go_upto_region 4 with fail
     clear x0 x1 x2 c6
     refine wp_region_drop [7] (S := (fun wz : World => wz.cell? ⟨W.heap.size, 0, none⟩ = some (.int .i64 h1) /\ wz.cell? ⟨W.heap.size, 1, none⟩ = some (.slice qv o1.length qc) /\ wz.cell? ⟨W.heap.size, 2, none⟩ = some (.bool false) /\ wz.cell? ⟨b, o + k * 9, none⟩ = some (.int .i64 n.k) /\ wz.cell? ⟨b, o + k * 9 + 1, none⟩ = some (.int .i64 n.op) /\ wz.cell? ⟨b, o + k * 9 + 2, none⟩ = some (.int .u16 n.v) /\ wz.cell? ⟨b, o + k * 9 + 3, none⟩ = some (.string n.nm) /\ wz.cell? ⟨b, o + k * 9 + 4, none⟩ = some (.slice q1 n.th.length d1) /\ wz.cell? ⟨b, o + k * 9 + 5, none⟩ = some (.slice q2 n.el.length d2) /\ wz.cell? ⟨b, o + k * 9 + 6, none⟩ = some (.bool n.has) /\ wz.cell? ⟨b, o + k * 9 + 7, none⟩ = some (.int .i64 n.p.1) /\ wz.cell? ⟨b, o + k * 9 + 8, none⟩ = some (.int .i64 n.p.2))) (by kernel_rfl) (HMK.out _ HB0.out) (fun hHeld => ?_)
     generalize hwd : wr.drew = y0 at *
     have hGy : Gw g W y0 := HB.out.gw.trans (Gw.of HB0.out)
     have hcall := hm _ _ O i (w1, ⟨h1, o1, false⟩) (.slice qv o1.length qc) g kv y0 (fun j hj => Nat.lt_of_lt_of_le (HO.out j hj) hGy.size) hOg (nv_gw HLT.out hGy HO.out hOg) (nv_gw HLE.out hGy HO.out hOg) hc1 hx128 (HB.out.rw.below HB0.out) (HB.out.ov.below HB0.out) (HK.out.gw hGy)
     have HGy := hid hGy
     have Hhe := hid he
     generalize rnode (find tl) n (w1, ⟨h1, o1, false⟩) = Y at *
     obtain ⟨w2, h2, o2, dd2⟩ := Y
     unfold rsc ndc at hcall
     simp only at hcall
     clear hm hGy hwd he hx
     refine E.zD (is := [0, 1, 2, 3, 4, 5]) ?_
     iterate 6
      refine E.yD (v := ?_) rfl (by kernel_rfl) (fun c a w h => h) (by rfl) ?_ hHeld ?_
      rotate_left
      ·(intro w hSw; (try dsimp only at hSw); go_simp; try with_reducible rfl)
      simp only [E.pts]
     refine E.eD ?_
     refine wpD_ready (rs := [6]) (by kernel_rfl) (by simp) ?_
     refine AllD.cons rfl (fun K hK => ?_) AllD.nil
     go_simp
     refine hcall.mono ?_
     rintro e y1 ⟨v', rfl, hov, hrw, hgw⟩
     obtain ⟨q3, c3, hv3, _, _⟩ := id hov.ex
     (try simp only at hv3)
     subst hv3
     clear hcall
     have hgg : Gw g W y1 := HGy.out.trans hgw
     have hsb : RB y1 W.heap.size (.slice qv o1.length qc) ⟨h1, o1, false⟩ := hgw.keep (HB.out.sb.below HB0.out) (by have := HN.out; omega)
     have hrb : RB y1 W0.heap.size (.slice none 0 0) z0 := hgw.keep (HB.out.rb.below HB0.out) (by have := HN.out; omega)
     obtain ⟨x0, x1, x2⟩ := hsb.cells
     (try simp only at x0 x1 x2)
     have kb : y1.heap[b]? = wr.heap[b]? := (hgw.block b (Nat.lt_of_lt_of_le (HO.out b hOb) HGy.out.size) hbne).trans (HB0.out.block b (Nat.lt_of_lt_of_le (HO.out b hOb) HB.out.gw.size))
     have hss := HMK.out wr (Below.refl _ _)
     obtain ⟨_, _, _, g0, g1, g2, g3, g4, g5, g6, g7, g8⟩ := hss
     have t := fun (j : Nat) => World.cell?_of_block (w := wr) (w' := y1) (a := ⟨b, o + k * 9 + j, none⟩) kb
     refine hK.out _ _ ⟨x0, x1, x2, (t 0).trans g0, (t 1).trans g1, (t 2).trans g2, (t 3).trans g3, (t 4).trans g4, (t 5).trans g5, (t 6).trans g6, (t 7).trans g7, (t 8).trans g8⟩ (fun hHeld => ?_)
     clear hK K hHeld x0 x1 x2 kb g0 g1 g2 g3 g4 g5 g6 g7 g8 t
     try simp only [E.pts]
     have HT : Y.Hd (BW W (y1.setRow W.heap.size (rsc (.slice q3 o2.length c3) ⟨h2, o2, dd2⟩).toArray) g kv W.heap.size W0.heap.size (w2, ⟨h2, o2, dd2⟩) (.slice q3 o2.length c3)) := ⟨setRow_heap y1 W.heap.size _ _ _ _ hsb, hov.row _ hsb (by decide), (setRow_other y1 W.heap.size W0.heap.size _ (by have := HN.out; omega)).trans hrb, (setRow_other y1 W.heap.size g _ (by have := HN.out; omega)).trans hrw, hgg.setR2 _ _ (Nat.le_refl _)⟩
     clear hov hrw hgw hgg hrb
     refine wpD_ready (rs := [7]) (by kernel_rfl) (by simp) ?_
     refine AllD.late rfl (by kernel_rfl) (fun K hK => ?_)
     (try rw [if_pos (by rfl)])
     refine wp_store_row 99 _ _ rfl W.heap.size (rsc (.slice q3 o2.length c3) ⟨h2, o2, dd2⟩).toArray (by simp [Act.eval]) (by simp [Act.eval, rsc]) 99 _ hsb (by exact sizeR) (by rfl) (by simp [Value.oneCell', rsc]) ?_
     refine hK.out _ _ ?_
     clear hK K
     try simp only [E.pts]
     refine wpD_done (by kernel_rfl) ?_ _
     generalize y1.setRow W.heap.size (rsc (.slice q3 o2.length c3) ⟨h2, o2, dd2⟩).toArray = y2 at *
     clear hsb HMK HB HB0 HGy
     go_wp2
     go_roundw
     case rel =>
      first
       | exact ⟨k + 1, (w2, ⟨h2, o2, dd2⟩), _, by omega, by go_num, HLI.out, HT.out, HRR.out, HCC.out⟩
       | ((repeat apply Exists.intro); refine ⟨⟨k + 1, (w2, ⟨h2, o2, dd2⟩), _, by omega, ?_, HLI.out, HT.out, HRR.out, HCC.out⟩, rfl⟩; go_num)
     case measure => simp [intOf]; omega
    ·have d6 : (w1.e == 0) = false := by simpa using he
     have HR : Y.Hd (R = (w1, ⟨h1, o1, false⟩)) := ⟨by rw [hR, if_pos (.inr he)]⟩
     clear hR hc hd he hx hn hp
     have HT : Y.Hd (RB (wr.setRow W0.heap.size (rsc (.slice qv o1.length qc) ⟨h1, o1, false⟩).toArray) W0.heap.size (.slice qv o1.length qc) ⟨h1, o1, false⟩ /\ OV (wr.setRow W0.heap.size (rsc (.slice qv o1.length qc) ⟨h1, o1, false⟩).toArray) g (.slice qv o1.length qc) o1 /\ RW (wr.setRow W0.heap.size (rsc (.slice qv o1.length qc) ⟨h1, o1, false⟩).toArray) g kv w1 /\ Gw g W (wr.setRow W0.heap.size (rsc (.slice qv o1.length qc) ⟨h1, o1, false⟩).toArray)) := ⟨setRow_heap wr W0.heap.size _ _ _ _ HB.out.rb, HB.out.ov.row _ HB.out.rb (by decide), (setRow_other wr W0.heap.size g _ (by have := HN.out; omega)).trans HB.out.rw, HB.out.gw.setR2 _ _ (by have := HN.out; omega)⟩
     have hst := HB.out.rb
     unfold rsc at HT
     (try simp only at HT)
     go_wp2_with (refine wpList_store_row rfl 99 _ _ rfl W0.heap.size _ rfl rfl 99 _ hst (by exact sizeR) (by rfl) (by simp [Value.oneCell', rsc]) ?_)
     refine bodyPost_ret (rs_end 6 rfl rfl ⟨_, _, _, rfl⟩ HT.out.1) rfl ?_
     rw [HR.out]
     exact ⟨_, rfl, HT.out.2.1, HT.out.2.2.1, HT.out.2.2.2⟩
   ·have HR : Y.Hd (R = (w1, ⟨h1, o1, true⟩)) := ⟨by rw [hR, if_pos (.inl rfl)]⟩
    clear hR hc hd hx hn hp
    have HT : Y.Hd (RB (wr.setRow W0.heap.size (rsc (.slice qv o1.length qc) ⟨h1, o1, true⟩).toArray) W0.heap.size (.slice qv o1.length qc) ⟨h1, o1, true⟩ /\ OV (wr.setRow W0.heap.size (rsc (.slice qv o1.length qc) ⟨h1, o1, true⟩).toArray) g (.slice qv o1.length qc) o1 /\ RW (wr.setRow W0.heap.size (rsc (.slice qv o1.length qc) ⟨h1, o1, true⟩).toArray) g kv w1 /\ Gw g W (wr.setRow W0.heap.size (rsc (.slice qv o1.length qc) ⟨h1, o1, true⟩).toArray)) := ⟨setRow_heap wr W0.heap.size _ _ _ _ HB.out.rb, HB.out.ov.row _ HB.out.rb (by decide), (setRow_other wr W0.heap.size g _ (by have := HN.out; omega)).trans HB.out.rw, HB.out.gw.setR2 _ _ (by have := HN.out; omega)⟩
    have hst := HB.out.rb
    unfold rsc at HT
    (try simp only at HT)
    go_wp2_with (refine wpList_store_row rfl 99 _ _ rfl W0.heap.size _ rfl rfl 99 _ hst (by exact sizeR) (by rfl) (by simp [Value.oneCell', rsc]) ?_)
    refine bodyPost_ret (rs_end 6 rfl rfl ⟨_, _, _, rfl⟩ HT.out.1) rfl ?_
    rw [HR.out]
    exact ⟨_, rfl, HT.out.2.1, HT.out.2.2.1, HT.out.2.2.2⟩
  ·have i1 : ¬ (k : Int) < l.length := by omega
   rw [List.drop_of_length_le (by omega), rbody_nil] at hR
   have HR : Y.Hd (R = (w1, ⟨h1, o1, dd1⟩)) := ⟨hR⟩
   clear hR hc hx hn hp
   have HT : Y.Hd (RB (wr.setRow W0.heap.size (rsc (.slice qv o1.length qc) ⟨h1, o1, dd1⟩).toArray) W0.heap.size (.slice qv o1.length qc) ⟨h1, o1, dd1⟩ /\ OV (wr.setRow W0.heap.size (rsc (.slice qv o1.length qc) ⟨h1, o1, dd1⟩).toArray) g (.slice qv o1.length qc) o1 /\ RW (wr.setRow W0.heap.size (rsc (.slice qv o1.length qc) ⟨h1, o1, dd1⟩).toArray) g kv w1 /\ Gw g W (wr.setRow W0.heap.size (rsc (.slice qv o1.length qc) ⟨h1, o1, dd1⟩).toArray)) := ⟨setRow_heap wr W0.heap.size _ _ _ _ HB.out.rb, HB.out.ov.row _ HB.out.rb (by decide), (setRow_other wr W0.heap.size g _ (by have := HN.out; omega)).trans HB.out.rw, HB.out.gw.setR2 _ _ (by have := HN.out; omega)⟩
   have hst := HB.out.rb
   unfold rsc at HT
   (try simp only at HT)
   go_wp2_with (refine wpList_store_row rfl 99 _ _ rfl W0.heap.size _ rfl rfl 99 _ hst (by exact sizeR) (by rfl) (by simp [Value.oneCell', rsc]) ?_)
   refine bodyPost_ret (rs_end 6 rfl rfl ⟨_, _, _, rfl⟩ HT.out.1) rfl ?_
   rw [HR.out]
   exact ⟨_, rfl, HT.out.2.1, HT.out.2.2.1, HT.out.2.2.2⟩
theorem nr_any (tl : List Ty) (htl : tl.length <= 1048576) (names : List ByteArray) (n : Nd) : NDR tl names n :=
 Nd.ind (fun n h1 h2 => nr_of tl htl names n (br_of tl names n.th h1) (br_of tl names n.el h2)) n
theorem br_any (tl : List Ty) (htl : tl.length <= 1048576) (names : List ByteArray) (l : List Nd) : BDR tl names l := br_of tl names l fun m _ => nr_any tl htl names m
end Go.Proofs.YtlilefhmohkfkaaGreatDoor.E
