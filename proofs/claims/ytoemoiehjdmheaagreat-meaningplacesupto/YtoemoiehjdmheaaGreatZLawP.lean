import Derived.Test.YtoemoiehjdmheaaGreatDDrop
import Derived.Test.YtoemoiehjdmheaaGreatZLawF
import Derived.Test.YtoemoiehjdmheaaGreatZMov
import Derived.Test.YtoemoiehjdmheaaGreatZNew
namespace Go.Proofs.YtoemoiehjdmheaaGreat.Z
open Go.RowKit
open Go.Proofs
open Go.Proofs.YtoemoiehjdmheaaGreat.R (chk Bk)
open Go.Proofs.YtoemoiehjdmheaaGreat.Y (Nd Df Ps Pl hid ZV DV BV BS rgN rgN_is rgD DZ NZ OQ dfc nl)
set_option linter.unusedVariables false
set_option linter.unusedSimpArgs false
set_option maxHeartbeats 40000000
set_option maxRecDepth 100000
theorem dz_at {W : World} {U : Nat -> Prop} {gb : Nat} {p : Option Addr} {c : Nat} {ds : List Df} (h : DZ W U gb (.slice p ds.length c) ds) (k : Nat) (hk : k < ds.length) : ∃ cur, p = some ⟨gb, 0, none⟩ /\ W.heap[gb]? = some (.cells cur 60 (0, 0)) /\ ∃ bv : Value, (∀ (j : Nat) (x : Value), (dfc ds[k] bv)[j]? = some x -> W.cell? ⟨gb, k * 6 + j, none⟩ = some x) /\ NZ W U bv ds[k].body := by
 obtain ⟨p', c', e, _, hc, h⟩ := h
 injection e with e1 e2 e3
 subst e1
 obtain ⟨cur, hcur⟩ := hc (by rintro rfl; simp at hk)
 obtain ⟨e, bv, h1, h2⟩ := h k ds[k] (List.getElem?_eq_getElem hk)
 exact ⟨cur, e, hcur, bv, h1, h2⟩
theorem len_erD {l l' : List Df} (h : l.map erD = l'.map erD) : l.length = l'.length := by
 have := congrArg List.length h
 simpa using this
theorem Fresh.tv {n : Nat} {b : MB} (h : Fresh n b.g b.bd b.br b.bs b.F b.O) (i : Nat) (hi : b.tv i) : n <= i := by
 rcases hi with e | e | e | e | e
 ·rw [e]; exact h.g
 ·rw [e]; exact h.d
 ·rw [e]; exact h.r
 ·rw [e]; exact h.s
 ·exact h.f i e
theorem Fresh.bk {n : Nat} {b : MB} (h : Fresh n b.g b.bd b.br b.bs b.F b.O) (i : Nat) (hi : b.bk i) : n <= i := by
 rcases hi with e | e
 ·exact Fresh.tv h i e
 ·exact h.o i e
structure TI (W0 w : World) (a b : MB) (u v : VS) : Prop where
 two : Two w a b u v
 ca : calls u.R = u.o.length
 cb : calls v.R = v.o.length
 bel : Below W0.heap.size W0 w
 la : ∀ i, a.tv i -> W0.heap.size <= i
 lb : ∀ i, b.tv i -> W0.heap.size <= i
theorem TI.idle {W0 w w' : World} {a b : MB} {u v : VS} (h : TI W0 w a b u v) (k : Below w.heap.size w w') : TI W0 w' a b u v := ⟨h.two.below k, h.ca, h.cb, trB h.bel k h.bel.size, h.la, h.lb⟩
theorem TI.swap {W0 w : World} {a b : MB} {u v : VS} (h : TI W0 w a b u v) : TI W0 w b a v u := ⟨h.two.swap, h.cb, h.ca, h.bel, h.lb, h.la⟩
theorem TI.left {W0 w w' : World} {lo : Nat} {a b a' : MB} {u v u' : VS} (h : TI W0 w a b u v) (k : FB w w' lo a a' u') (hc : calls u'.R = u'.o.length) : TI W0 w' a' b u' v :=
 ⟨h.two.left k, hc, h.cb, h.bel.trans (S.Tc.below k.t h.bel.size h.la), fun i hi => by
  rcases k.tv i hi with e | e
  ·exact h.la i e
  ·have := h.bel.size; omega, h.lb⟩
theorem TI.right {W0 w w' : World} {lo : Nat} {a b b' : MB} {u v v' : VS} (h : TI W0 w a b u v) (k : FB w w' lo b b' v') (hc : calls v'.R = v'.o.length) : TI W0 w' a b' u v' := (h.swap.left k hc).swap
theorem TI.first {W0 w5 w6 w7 : World} {a b : MB} {u v : VS} (h5 : Below W0.heap.size W0 w5) (ha : a.mv w6 u) (fa : Fresh w5.heap.size a.g a.bd a.br a.bs a.F a.O) (h6 : Below w5.heap.size w5 w6) (hb : b.mv w7 v) (fb : Fresh w6.heap.size b.g b.bd b.br b.bs b.F b.O) (h7 : Below w6.heap.size w6 w7) (ca : calls u.R = u.o.length) (cb : calls v.R = v.o.length) : TI W0 w7 a b u v :=
 ⟨⟨MB.below ha h7, hb, fun i hi hj => by have := MB.lt ha i hi; have := Fresh.tv fb i hj; omega, fun i hi hj => by have := MB.lt ha i (.inl hj); have := Fresh.bk fb i hi; omega⟩, ca, cb, trB (trB h5 h6 h5.size) h7 (Nat.le_trans h5.size h6.size), fun i hi => Nat.le_trans h5.size (Fresh.tv fa i hi), fun i hi => Nat.le_trans (Nat.le_trans h5.size h6.size) (Fresh.tv fb i hi)⟩
def nco (v : VS) : Int := if v.st = 1 then cost (look v).op else 0
theorem next_is {b : MB} {v : VS} (w : World) (h : b.mv w v) (hk : calls v.R = v.o.length) : ∃ pa pb : Int, Calls Tryz.prog 8 #[.pointer (some ⟨b.g, 0, none⟩)] w fun e w' => e = .returned (.tuple #[.agg #[.int .i64 pa, .int .i64 pb], .int .i64 (nco v), .bool (decide (v.st = 1))]) /\ Below w.heap.size w w' := by
 unfold nco
 by_cases q : v.st = 1
 ·rw [if_pos q, decide_eq_true q]; exact ⟨_, _, next_any w h q hk⟩
 ·rw [if_neg q, decide_eq_false q]; exact ⟨0, 0, next_stop w h q⟩
theorem places_walk (ds : List Df) (bs : List Bk) (hd1 : ds.length <= 1048576) (hdd : ∀ d ∈ ds, Y.nl d.body <= 1048576 /\ d.nm.size <= maxLen /\ rgD d) (hb1 : bs.length <= 1048576) (hb2 : ∀ d ∈ bs, d.2.length <= 1048576) (zs : List Int) (ps : List UInt8) (hps : ps.length <= 1048576) (dv bkv pv : Value) (zp : Option Addr) (zc : Nat) (y : Int) (hy : (Lit.int .i64 y).wf = true) (w : World) (hD : DV w (· < w.heap.size) dv ds) (hK : BV w (· < w.heap.size) bkv bs) (hz : Is w zp zs) (hp : BS w (· < w.heap.size) pv ps) :
  Calls Tryz.prog 5 #[.agg #[dv, bkv], .agg #[.slice zp zs.length zc, pv], .int .i64 y] w fun e w' => e = .returned (.bool true) /\ Below w.heap.size w w' := by
 obtain ⟨q1, d1, rfl, _, _⟩ := id hD
 obtain ⟨q2, d2, rfl, _⟩ := id hK
 obtain ⟨q3, d3, rfl⟩ := hp.ex
 obtain ⟨W0, hW0⟩ : ∃ W0, (w.alloc (.cells #[.slice q1 ds.length d1, .slice q2 bs.length d2] 47)).alloc (.cells #[.slice zp zs.length zc, .slice q3 ps.length d3] 50) = W0 := ⟨_, rfl⟩
 have hB0 : Below w.heap.size w W0 := by rw [<- hW0]; exact ((Below.refl _ w).alloc (Nat.le_refl _) _).alloc (by simp) _
 have hu0 : W0.heap[w.heap.size]? = some (.cells #[.slice q1 ds.length d1, .slice q2 bs.length d2] 47 (0, 0)) := by rw [<- hW0]; exact heap_alloc2_old w _ _
 have hu1 : W0.heap[w.heap.size + 1]? = some (.cells [.slice zp zs.length zc, .slice q3 ps.length d3].toArray 50 (0, 0)) := by rw [<- hW0]; exact heap_alloc2_new w _ _
 have k1 := Y.own_prog2 ds bs _ _ _ W0 (fun i hi => Nat.lt_of_lt_of_le hi hB0.size) (hD.below hB0 fun _ h => h) (hK.below hB0 fun _ h => h) hd1 (fun d hd => (hdd d hd).1) hb1 hb2
 have HL := hid (fun (w' : World) (b : Below W0.heap.size W0 w') => show w'.heap[w.heap.size + 1]? = some (.cells [.slice zp zs.length zc, .slice q3 ps.length d3].toArray 50 (0, 0)) /\ Is w' zp zs /\ BS w' (· < w.heap.size) (.slice q3 ps.length d3) ps /\ w'.heap[w.heap.size]? = some (.cells #[.slice q1 ds.length d1, .slice q2 bs.length d2] 47 (0, 0)) /\ DV w' (· < w.heap.size) (.slice q1 ds.length d1) ds /\ BV w' (· < w.heap.size) (.slice q2 bs.length d2) bs from
  ⟨(b.block _ (S.lt_of hu1)).trans hu1, (hz.below rfl hB0).below rfl b, (hp.below hB0 fun _ h => h).kept (fun i hi => b.block i (Nat.lt_of_lt_of_le hi hB0.size)) fun _ h => h, (b.block _ (S.lt_of hu0)).trans hu0, (hD.below hB0 fun _ h => h).below b fun i hi => Nat.lt_of_lt_of_le hi hB0.size, (hK.below hB0 fun _ h => h).below b fun i hi => Nat.lt_of_lt_of_le hi hB0.size⟩)
 have HW0 := hid hW0
 have HB0 := hid hB0
 have HH := hid (And.intro hdd (And.intro hb1 (And.intro hps (And.intro hd1 hb2))))
 have na := awake_any
 clear hW0 hB0 hu1 hD hK hz hp hdd hd1 hb2 hb1
 go_enter Tryz.func5, Tryz.ntmps5
 go_upto_region 1 with fail
 rw [HW0.out]
 go_wp2_with (refine wpList_load_row rfl 47 _ rfl w.heap.size rfl 47 _ (0, 0) _ hu0 Tryz.underlying47 rfl (by exact sizeG) ?_)
 refine k1.mono ?_
 rintro e w1 ⟨dv', bp, bc, rfl, hOQ, h1⟩
 obtain ⟨gb, U, Q, hDZ, hAP, hQ⟩ := hOQ
 obtain ⟨p1', c1', rfl, _, _⟩ := id hDZ
 have HB1 := hid h1
 have HQ := hid hQ
 have HAP := hid hAP
 obtain ⟨W1, hW1⟩ : ∃ W1, w1.alloc (.cells #[.slice p1' ds.length c1', .slice bp bs.length bc] 47) = W1 := ⟨_, rfl⟩
 have hb1W := P.bel_alloc w1 (.cells #[.slice p1' ds.length c1', .slice bp bs.length bc] 47)
 rw [hW1] at hb1W
 have hu2 : W1.heap[w1.heap.size]? = some (.cells [.slice p1' ds.length c1', .slice bp bs.length bc].toArray 47 (0, 0)) := by rw [<- hW1]; exact heap_alloc_new w1 _
 have HW1 := hid hW1
 have HD1 := hid (hDZ.kept (W' := W1) (fun _ => hb1W.block gb hAP.2.2.2.1) (fun i hi => hb1W.block i (hAP.2.1 i hi).2) fun _ h => h)
 have HU2 := hid hu2
 have HBW := hid (trB h1 hb1W h1.size)
 have hz1 : w1.heap.size < W1.heap.size := S.lt_of hu2
 have HSZ := hid hz1
 have x0 := S.cell_of W1 _ 0 _ 47 _ hu2 rfl
 clear k1 hu0 hDZ hAP hQ h1 hb1W hW1 hu2 hz1
 go_upto_region 2 with fail
 rw [HW1.out]
 go_wp2
 go_loopw [31] (fun i wr => ∃ k : Nat, k <= ds.length /\ i = .int .i64 (k : Int) /\ PD U gb W1 wr) (fun i _ => ds.length - (intOf i).toNat)
 case atStart => exact ⟨0, Nat.zero_le _, rfl, PD.refl U gb W1⟩
 case round =>
  obtain ⟨k, hk, rfl, hP⟩ := hrel
  by_cases hlt : k < ds.length
  ·skip
   have i1 : (k : Int) < ds.length := Int.ofNat_lt.mpr hlt
   have w1' : wrap64 ((k : Int) + 1) = ((k + 1 : Nat) : Int) := by have := HH.out.2.2.2.1; unfold wrap64; omega
   have hnb : ¬ U w1.heap.size /\ w1.heap.size ≠ gb := ⟨fun hu => by have := (HAP.out.2.1 _ hu).2; omega, fun e => by have := HAP.out.2.2.2.1; omega⟩
   have HNB := hid hnb
   have y0 := S.cell_of wr _ 0 _ 47 _ ((hP.out _ hnb.1 hnb.2).trans HU2.out) rfl
   obtain ⟨ds2, hD2, he2⟩ := dz_moved hP HD1.out
   have hl2 := len_erD he2
   rw [<- hl2] at hD2
   have hlt2 : k < ds2.length := by omega
   obtain ⟨cur, rfl, hblk, bv, hc, hn⟩ := dz_at hD2 k hlt2
   generalize ds2[k] = d at *
   obtain ⟨q4, d4, rfl, _⟩ := nz_ex hn
   have hblk' : wr.heap[gb]? = some (.cells cur.toList.toArray 60 (0, 0)) := by simpa using hblk
   have c3 := hc 3 _ rfl
   have c5 := hc 5 _ rfl
   have z4 := S.frozen_of wr gb (k * 6 + 4) _ _ hblk'
   have z5 := S.frozen_of wr gb (k * 6 + 5) _ _ hblk'
   have c4 := hc 4 _ rfl
   have c4s := size_of_cell hblk c5
   have hw1 := S.setCell_heap wr gb (k * 6 + 4) _ _ (.int .i64 (y.tmod 1000)) hblk'
   have c5a : (wr.setCell ⟨gb, k * 6 + 4, none⟩ (.int .i64 (y.tmod 1000))).cell? ⟨gb, k * 6 + 4 + 1, none⟩ = some (.int .i64 d.p.2) := by
    rw [cell_list hw1 (k * 6 + 4 + 1)]
    show (cur.toList.set (k * 6 + 4) _)[k * 6 + 4 + 1]? = _
    rw [List.getElem?_set_ne (by omega), <- cell_list hblk (k * 6 + 4 + 1)]
    exact c5
   have z5a : (wr.setCell ⟨gb, k * 6 + 4, none⟩ (.int .i64 (y.tmod 1000))).frozen? ⟨gb, k * 6 + 4 + 1, none⟩ = false := S.frozen_of _ gb (k * 6 + 4 + 1) _ _ hw1
   have HPUT := hid (show PD U gb wr ((wr.setCell ⟨gb, k * 6 + 4, none⟩ (.int .i64 (y.tmod 1000))).setCell ⟨gb, k * 6 + 4 + 1, none⟩ (.int .i64 (k : Int))) from PD.put (i := k) (y.tmod 1000) (k : Int) HAP.out.1 hblk c4s)
   have HP := hid (And.intro hP (And.intro hblk (And.intro c3 hn)))
   clear hP hblk hblk' hc hn hD2 he2 c3 c5 hnb c4s hw1
   go_upto_region 6 with fail
   generalize hy1 : (wr.setCell ⟨gb, k * 6 + 4, none⟩ (.int .i64 (y.tmod 1000))).setCell ⟨gb, k * 6 + 4 + 1, none⟩ (.int .i64 (k : Int)) = y1 at *
   clear hy1 c5a z5a c4 z4 z5
   have P1 := HP.out.1.trans HPUT.out
   obtain ⟨ds3, hD3, he3⟩ := dz_moved P1 HD1.out
   have hl3 := len_erD he3
   rw [<- hl3] at hD3
   have hlt3 : k < ds3.length := by omega
   obtain ⟨cur3, _, hblk3, bv3, hc3, hn3⟩ := dz_at hD3 k hlt3
   generalize ds3[k] = d' at *
   have c3 : y1.cell? ⟨gb, k * 6 + 3, none⟩ = some (.slice q4 d.body.length d4) := (((HPUT.out.dfn ⟨cur, HP.out.2.1⟩).2 (k * 6 + 3)).1 ⟨by omega, by omega⟩).trans HP.out.2.2.1
   obtain rfl : bv3 = .slice q4 d.body.length d4 := Option.some.inj ((hc3 3 _ rfl).symm.trans c3)
   have y0 := S.cell_of y1 _ 0 _ 47 _ ((P1.out _ HNB.out.1 HNB.out.2).trans HU2.out) rfl
   have HN3 := hid hn3
   have H1 := hid (And.intro P1 hblk3)
   clear P1 hD3 he3 hblk3 hc3 hn3 HPUT
   refine D.wp_region_drop [14] (S := fun wz : World => wz.cell? ⟨w1.heap.size, 0, none⟩ = some (.slice (some ⟨gb, 0, none⟩) ds.length c1') /\ wz.cell? ⟨gb, k * 6 + 3, none⟩ = some (.slice q4 d.body.length d4)) (by kernel_rfl) (show y1.drew.cell? ⟨w1.heap.size, 0, none⟩ = _ /\ y1.drew.cell? ⟨gb, k * 6 + 3, none⟩ = _ from ⟨y0, c3⟩) (fun hHeld => ?_)
   have H2 := hid (And.intro (H1.out.1.trans (PD.same ⟨rfl, rfl, rfl, rfl⟩ fun _ => rfl : PD U gb y1 y1.drew)) (And.intro (show y1.drew.heap[gb]? = _ from H1.out.2) (HN3.out.kept (W' := y1.drew) (fun _ _ => rfl) fun _ h => h)))
   generalize y1.drew = y3 at *
   clear HN3 H1 y0 c3
   have k2 := moved_any d'.body d'.body rfl _ (y.tmod 1000) U y3 (fun i hi => by rw [H2.out.1.size]; exact Nat.lt_of_lt_of_le (HAP.out.2.1 i hi).2 (Nat.le_of_lt HSZ.out)) H2.out.2.2
   refine D.wpD_take (i := 0) (v := ?_) rfl (by kernel_rfl) (by kernel_rfl) (by kernel_rfl) (by kernel_rfl) (by kernel_rfl) (fun c a w h => h) (Or.inl ⟨by rfl, ?_⟩) hHeld ?_
   rotate_left
   ·(intro w hSw; (try dsimp only at hSw); go_simp; try with_reducible rfl)
   simp only [D.pts]
   refine D.wpD_take (i := 1) (v := ?_) rfl (by kernel_rfl) (by kernel_rfl) (by kernel_rfl) (by kernel_rfl) (by kernel_rfl) (fun c a w h => h) (Or.inl ⟨by rfl, ?_⟩) hHeld ?_
   rotate_left
   ·(intro w hSw; (try dsimp only at hSw); go_simp; try with_reducible rfl)
   simp only [D.pts]
   refine D.wpD_take (i := 2) (v := ?_) rfl (by kernel_rfl) (by kernel_rfl) (by kernel_rfl) (by kernel_rfl) (by kernel_rfl) (fun c a w h => h) (Or.inl ⟨by rfl, ?_⟩) hHeld ?_
   rotate_left
   ·(intro w hSw; (try dsimp only at hSw); go_simp; try with_reducible rfl)
   simp only [D.pts]
   refine D.wpD_take (i := 3) (v := ?_) rfl (by kernel_rfl) (by kernel_rfl) (by kernel_rfl) (by kernel_rfl) (by kernel_rfl) (fun c a w h => h) (Or.inl ⟨by rfl, ?_⟩) hHeld ?_
   rotate_left
   ·(intro w hSw; (try dsimp only at hSw); go_simp; try with_reducible rfl)
   simp only [D.pts]
   refine D.wpD_take (i := 4) (v := ?_) rfl (by kernel_rfl) (by kernel_rfl) (by kernel_rfl) (by kernel_rfl) (by kernel_rfl) (fun c a w h => h) (Or.inl ⟨by rfl, ?_⟩) hHeld ?_
   rotate_left
   ·(intro w hSw; (try dsimp only at hSw); go_simp; try with_reducible rfl)
   simp only [D.pts]
   refine D.wpD_take (i := 5) (v := ?_) rfl (by kernel_rfl) (by kernel_rfl) (by kernel_rfl) (by kernel_rfl) (by kernel_rfl) (fun c a w h => h) (Or.inl ⟨by rfl, ?_⟩) hHeld ?_
   rotate_left
   ·(intro w hSw; (try dsimp only at hSw); go_simp; try with_reducible rfl)
   simp only [D.pts]
   refine D.wpD_take (i := 6) (v := ?_) rfl (by kernel_rfl) (by kernel_rfl) (by kernel_rfl) (by kernel_rfl) (by kernel_rfl) (fun c a w h => h) (Or.inl ⟨by rfl, ?_⟩) hHeld ?_
   rotate_left
   ·(intro w hSw; (try dsimp only at hSw); go_simp; try with_reducible rfl)
   simp only [D.pts]
   refine D.wpD_take (i := 7) (v := ?_) rfl (by kernel_rfl) (by kernel_rfl) (by kernel_rfl) (by kernel_rfl) (by kernel_rfl) (fun c a w h => h) (Or.inl ⟨by rfl, ?_⟩) hHeld ?_
   rotate_left
   ·(intro w hSw; (try dsimp only at hSw); go_simp; try with_reducible rfl)
   simp only [D.pts]
   refine D.wpD_take (i := 8) (v := ?_) rfl (by kernel_rfl) (by kernel_rfl) (by kernel_rfl) (by kernel_rfl) (by kernel_rfl) (fun c a w h => h) (Or.inl ⟨by rfl, ?_⟩) hHeld ?_
   rotate_left
   ·(intro w hSw; (try dsimp only at hSw); go_simp; try with_reducible rfl)
   simp only [D.pts]
   refine D.wpD_take (i := 9) (v := ?_) rfl (by kernel_rfl) (by kernel_rfl) (by kernel_rfl) (by kernel_rfl) (by kernel_rfl) (fun c a w h => h) (Or.inl ⟨by rfl, ?_⟩) hHeld ?_
   rotate_left
   ·(intro w hSw; (try dsimp only at hSw); go_simp; try with_reducible rfl)
   simp only [D.pts]
   refine D.wpD_take (i := 10) (v := ?_) rfl (by kernel_rfl) (by kernel_rfl) (by kernel_rfl) (by kernel_rfl) (by kernel_rfl) (fun c a w h => h) (Or.inl ⟨by rfl, ?_⟩) hHeld ?_
   rotate_left
   ·(intro w hSw; (try dsimp only at hSw); go_simp; try with_reducible rfl)
   simp only [D.pts]
   refine D.wpD_ready (rs := [11]) (by kernel_rfl) (by simp) ?_
   refine D.AllD.cons rfl (fun K hK => ?_) D.AllD.nil
   go_simp
   refine k2.mono ?_
   rintro e y4 ⟨rfl, P4⟩
   have P5 := H2.out.1.trans (PD.of P4 HAP.out.1)
   have hq := P4.out gb HAP.out.1
   have hS4 : y4.cell? ⟨w1.heap.size, 0, none⟩ = some (.slice (some ⟨gb, 0, none⟩) ds.length c1') /\ y4.cell? ⟨gb, k * 6 + 3, none⟩ = some (.slice q4 d.body.length d4) := ⟨(World.cell?_of_block (a := ⟨w1.heap.size, 0, none⟩) (P4.out _ HNB.out.1)).trans hHeld.1, (World.cell?_of_block (a := ⟨gb, k * 6 + 3, none⟩) hq).trans hHeld.2⟩
   refine hK.out _ _ hS4 (fun hHeld => ?_)
   clear hK K
   try simp only [D.pts]
   refine D.wpD_takeP (i := 12) (v := ?_) rfl (by kernel_rfl) (by kernel_rfl) (by kernel_rfl) (by kernel_rfl) (fun c a w h => h) (Or.inl ⟨by rfl, ?_⟩) (fun _ => hHeld) ?_
   rotate_left
   ·(intro w hSw; clear hSw; go_simp; try with_reducible rfl)
   simp only [D.pts]
   refine D.wpD_takeP (i := 13) (v := ?_) rfl (by kernel_rfl) (by kernel_rfl) (by kernel_rfl) (by kernel_rfl) (fun c a w h => h) (Or.inl ⟨by rfl, ?_⟩) (fun _ => hHeld) ?_
   rotate_left
   ·(intro w hSw; clear hSw; go_simp; try with_reducible rfl)
   simp only [D.pts]
   have hq3 := hq.trans H2.out.2.1
   have hq3' : y4.heap[gb]? = some (.cells cur3.toList.toArray 60 (0, 0)) := by simpa using hq3
   have c3 := hHeld.2
   have z3 := S.frozen_of y4 gb (k * 6 + 3) _ _ hq3'
   have H6 := hid (P5.trans (PD.again hq3 c3))
   refine D.wpD_ready (rs := [14]) (by kernel_rfl) (by simp) ?_
   refine D.AllD.late rfl (by kernel_rfl) (fun K hK => ?_)
   go_simp
   refine hK.out _ _ ?_
   clear hK K
   try simp only [D.pts]
   refine D.wpD_done (by kernel_rfl) ?_ _
   clear hHeld hS4 P5 P4 hq hq3 hq3' k2 c3 z3 H2
   go_wp2
   go_roundw
   case rel => exact ⟨k + 1, hlt, (by first | rfl | rw [w1']), H6.out⟩
   case measure => exact msr2 ds.length _ _ k (by first | rfl | rw [w1']) rfl hlt
  ·skip
   obtain rfl : k = ds.length := by omega
   have i1 : ¬ (ds.length : Int) < ds.length := by omega
   obtain ⟨ds2, hD2, he2⟩ := dz_moved hP HD1.out
   have hl2 := len_erD he2
   have hnG : ¬ U w1.heap.size /\ w1.heap.size ≠ gb := ⟨fun hu => by have := (HAP.out.2.1 _ hu).2; omega, fun e => by have := HAP.out.2.2.2.1; omega⟩
   have hub := (hP.out _ hnG.1 hnG.2).trans HU2.out
   have hBR : Below W0.heap.size W0 wr := ⟨hP.os.trans HBW.out.os, hP.tape.trans HBW.out.tape, hP.output.trans HBW.out.output, by rw [hP.size]; exact HBW.out.size, fun i hi => (hP.out i (fun hu => by have := (HAP.out.2.1 i hu).1; omega) (fun e => by have := HAP.out.2.2.1; omega)).trans (HBW.out.block i hi)⟩
   have hQr : ∀ W2 : World, Below wr.heap.size wr W2 -> BV W2 Q (.slice bp bs.length bc) bs /\ M.BnS W2 bp bs := fun W2 b => HQ.out W2 fun i hi => by
    obtain ⟨a1, a2, a3, a4⟩ := HAP.out.2.2.2.2 i hi
    have b1 : w1.heap.size <= W1.heap.size := Nat.le_of_lt HSZ.out
    rw [b.block i (by rw [hP.size]; omega), hP.out i a4 a3, <- HW1.out]
    exact (P.bel_alloc w1 _).block i a2
   obtain ⟨l1, l2, l3, l4, l5, l6⟩ := HL.out wr hBR
   have k5 := Y.own_prog2 ds bs _ _ _ wr (fun i hi => Nat.lt_of_lt_of_le hi (Nat.le_trans HB0.out.size hBR.size)) l5 l6 HH.out.2.2.2.1 (fun d hd => (HH.out.1 d hd).1) HH.out.2.1 HH.out.2.2.2.2
   have HR := hid (And.intro hD2 (And.intro he2 (And.intro hub (And.intro hBR (And.intro hQr hP.size)))))
   clear hP hD2 he2 hub hBR hQr l1 l2 l3 l5 l6 hnG x0
   go_upto_region 8 with fail
   go_wp2_with (refine wpList_load_row rfl 47 _ rfl w.heap.size rfl 47 _ (0, 0) _ l4 Tryz.underlying47 rfl (by exact sizeG) ?_)
   refine k5.mono ?_
   rintro e w5 ⟨dv5, bp5, bc5, rfl, hOQ5, h5⟩
   obtain ⟨gb5, U5, Q5, hD5, hA5, hQ5⟩ := hOQ5
   obtain ⟨p5, c5, rfl, _, _⟩ := id hD5
   have HO5 := hid (show (∀ j, ((U5 j \/ j = gb5) \/ Q5 j) -> j < w5.heap.size) /\ DV w5 (fun j => (U5 j \/ j = gb5) \/ Q5 j) (.slice p5 ds.length c5) ds /\ BV w5 (fun j => (U5 j \/ j = gb5) \/ Q5 j) (.slice bp5 bs.length bc5) bs /\ M.BnS w5 bp5 bs from
    ⟨fun j hj => by
     rcases hj with (hj | rfl) | hj
     ·exact (hA5.2.1 j hj).2
     ·exact hA5.2.2.2.1
     ·exact (hA5.2.2.2.2 j hj).2.1,
    hD5.dv.kept (fun _ _ => rfl) fun i hi => .inl hi, (hQ5 w5 fun _ _ => rfl).1.kept (fun _ _ => rfl) fun i hi => .inr hi, (hQ5 w5 fun _ _ => rfl).2⟩)
   have HO2 := hid (fun (W2 : World) (b : Below wr.heap.size wr W2) => show (∀ j, ((U j \/ j = gb) \/ Q j) -> j < W2.heap.size) /\ DV W2 (fun j => (U j \/ j = gb) \/ Q j) (.slice p1' ds.length c1') ds2 /\ BV W2 (fun j => (U j \/ j = gb) \/ Q j) (.slice bp bs.length bc) bs /\ M.BnS W2 bp bs /\ W2.heap[w1.heap.size]? = some (.cells [.slice p1' ds.length c1', .slice bp bs.length bc].toArray 47 (0, 0)) from by
    have hlt : ∀ j, ((U j \/ j = gb) \/ Q j) -> j < wr.heap.size := fun j hj => by
     have := HR.out.2.2.2.2.2
     have := HSZ.out
     rcases hj with (hj | rfl) | hj
     ·have := (HAP.out.2.1 j hj).2; omega
     ·have := HAP.out.2.2.2.1; omega
     ·have := (HAP.out.2.2.2.2 j hj).2.1; omega
    exact ⟨fun j hj => Nat.lt_of_lt_of_le (hlt j hj) b.size, HR.out.1.dv.kept (fun i hi => b.block i (hlt i (.inl hi))) fun i hi => .inl hi, (HR.out.2.2.2.2.1 W2 b).1.kept (fun _ _ => rfl) fun i hi => .inr hi, (HR.out.2.2.2.2.1 W2 b).2, (b.block _ (by have := HR.out.2.2.2.2.2; have := HSZ.out; omega)).trans HR.out.2.2.1⟩)
   have HE := hid (show newE ds2 bs = newE ds bs from same_new HR.out.2.1 bs)
   have HA2 := hid (asks_er HR.out.2.1 HH.out.1)
   have H5 := hid h5
   clear k5 hD5 hA5 hQ5 h5 l4
   by_cases hm : newE ds bs = 0
   case neg =>
    as_aux_lemma =>
     have k6 := new_no ds bs (fun d hd => (HH.out.1 d hd).2.1) HH.out.2.1 _ bp5 bc5 _ w5 HO5.out.1 HO5.out.2.1 HO5.out.2.2.1 hm
     have k7 := fun (w6 : World) (b : Below wr.heap.size wr w6) => new_no ds2 bs (fun d hd => (HA2.out d hd).2.1) HH.out.2.1 _ bp bc _ w6 (HO2.out w6 b).1 (HO2.out w6 b).2.1 (HO2.out w6 b).2.2.1 (by rw [HE.out]; exact hm)
     rw [HE.out] at k7
     have e2 : (newE ds bs != 0) = true := by simpa using hm
     generalize newE ds bs = E at *
     have HK7 := hid k7
     clear k7 HE
     go_wp2_with fail
     refine k6.mono ?_
     rintro e w6 ⟨rfl, h6⟩
     have H6 := hid (trB H5.out h6 H5.out.size)
     have l7 := (HO2.out w6 H6.out).2.2.2.2
     have k7 := HK7.out w6 H6.out
     clear k6 h6 HK7
     go_wp2_with (refine wpList_load_row rfl 47 _ rfl w1.heap.size rfl 47 _ (0, 0) _ l7 Tryz.underlying47 rfl (by exact sizeG) ?_)
     refine k7.mono ?_
     rintro e w7 ⟨rfl, h7⟩
     have H7 := hid (trB H6.out h7 H6.out.size)
     clear k7 h7 l7
     go_wp2_with (first | (go_at_call 13; refine (na _).mono ?_; rintro e we ⟨rfl, he⟩) | (go_at_call 9; refine (num_any _ _).mono ?_; rintro e wn ⟨rfl, hwn⟩; rw [hwn]; clear hwn wn))
     go_ret
     exact ⟨rfl, trB HB0.out (trB HR.out.2.2.2.1 (trB H7.out he H7.out.size) HR.out.2.2.2.1.size) HB0.out.size⟩
   have k6 := new_yes ds bs (fun d hd => (HH.out.1 d hd).2.1) HH.out.2.1 _ bp5 bc5 _ w5 HO5.out.1 HO5.out.2.1 HO5.out.2.2.1 hm (fun d hd => (HH.out.1 d hd).2.2) (fun d hd => (HH.out.1 d hd).1) HO5.out.2.2.2
   have HK7 := hid (fun (w6 : World) (b : Below wr.heap.size wr w6) => new_yes ds2 bs (fun d hd => (HA2.out d hd).2.1) HH.out.2.1 _ bp bc _ w6 (HO2.out w6 b).1 (HO2.out w6 b).2.1 (HO2.out w6 b).2.2.1 (by rw [HE.out]; exact hm) (fun d hd => (HA2.out d hd).2.2) (fun d hd => (HA2.out d hd).1) (HO2.out w6 b).2.2.2.1)
   clear HE
   go_wp2_with fail
   refine k6.mono ?_
   rintro e w6 ⟨g, bd, br, bm, bq, c, F, O, rfl, hM6, hF6, h6⟩
   have H6 := hid (trB H5.out h6 H5.out.size)
   have l7 := (HO2.out w6 H6.out).2.2.2.2
   have k7 := HK7.out w6 H6.out
   have HM6 := hid (And.intro hM6 (And.intro hF6 h6))
   clear k6 h6 HK7 hM6 hF6
   go_wp2_with (refine wpList_load_row rfl 47 _ rfl w1.heap.size rfl 47 _ (0, 0) _ l7 Tryz.underlying47 rfl (by exact sizeG) ?_)
   refine k7.mono ?_
   rintro e w7 ⟨g', bd', br', bm', bq', c', F', O', rfl, hM7, hF7, h7⟩
   have HI7 := hid (TI.first (a := ⟨g, bd, br, bm, bq, c, F, O⟩) (b := ⟨g', bd', br', bm', bq', c', F', O'⟩) (trB HR.out.2.2.2.1 H5.out HR.out.2.2.2.1.size) HM6.out.1 HM6.out.2.1 HM6.out.2.2 hM7 hF7 h7 rfl rfl)
   have HER := hid (same_born HR.out.2.1 bs)
   clear k7 h7 l7 hM7 hF7
   go_wp2_with (first | (go_at_call 13; refine (na _).mono ?_; rintro e we ⟨rfl, he⟩) | (go_at_call 9; refine (num_any _ _).mono ?_; rintro e wn ⟨rfl, hwn⟩; rw [hwn]; clear hwn wn))
   have HI8 := hid (HI7.out.idle he)
   clear HI7 he HM6 H6 H5 HO2 HA2 HO5
   clear HR
   go_loopw [13] (fun i w2 => ∃ (k : Nat) (a b : MB) (u v : VS), k <= ps.length /\ i = .int .i64 (k : Int) /\ a.g = g /\ b.g = g' /\ erV u = erV v /\ TI W0 w2 a b u v) (fun i _ => ps.length - (intOf i).toNat)
   case atStart => exact ⟨0, _, _, _, _, Nat.zero_le _, rfl, rfl, rfl, HER.out.symm, HI8.out⟩
   case round =>
    clear HI8 HER
    rename_i w2 hrel
    obtain ⟨k, a, b, u, v, hk, rfl, hga, hgb, her, I⟩ := hrel
    have w1' : wrap64 ((k : Int) + 1) = ((k + 1 : Nat) : Int) := by have := HH.out.2.2.1; simp [wrap64]; omega
    obtain ⟨hlb, hzs, hpd, _, _, _⟩ := HL.out _ I.bel
    have l1 := S.cell_of _ _ 1 _ _ _ hlb rfl
    by_cases hk1 : k < ps.length
    case neg =>
     as_aux_lemma =>
      have d1 : ¬ (k : Int) < ps.length := fun h => hk1 (Int.ofNat_lt.mp h)
      have hfin := trB HB0.out I.bel HB0.out.size
      clear hzs hpd hlb I
      go_wp2
      go_ret
      exact ⟨rfl, hfin⟩
    have d1 : (k : Int) < ps.length := Int.ofNat_lt.mpr hk1
    have kb := budget_any zs zp q3 zc ps.length d3 k _ hzs
    generalize bud zs k = BB at *
    obtain ⟨B, more⟩ := BB
    simp only at kb
    have HII := hid I
    clear I hzs hpd
    go_wp2_with (refine wpList_load_row rfl 50 _ rfl (w.heap.size + 1) rfl 50 _ (0, 0) _ hlb Tryz.underlying50 rfl (by exact sizeL) ?_)
    refine kb.mono ?_
    rintro e wb ⟨rfl, hbb⟩
    have I := HII.out.idle hbb
    have HII := hid I
    obtain ⟨hlb, hzs, hpd, _, _, _⟩ := HL.out wb I.bel
    have l1 := S.cell_of wb _ 1 _ _ _ hlb rfl
    clear kb
    cases more with
    | false =>
     as_aux_lemma =>
      have hfin := trB HB0.out I.bel HB0.out.size
      clear hzs hpd hlb I
      go_wp2
      go_ret
      exact ⟨rfl, hfin⟩
    | true =>
     have hx := List.getElem?_eq_getElem hk1
     generalize ps[k] = x at *
     rcases hpd with ⟨_, e⟩ | ⟨pb, po, pc', e, hpb, hpc⟩
     ·rw [e] at hk1; exact absurd hk1 (by simp)
     injection e with e5 e6 e7
     subst e5 e7
     have ex0 := hpc k x hx
     have HPX := hid (fun (W' : World) (q : Below W0.heap.size W0 W') => show W'.cell? _ = some _ from (World.cell?_of_block ((q.block pb (Nat.lt_of_lt_of_le hpb HB0.out.size)).trans (I.bel.block pb (Nat.lt_of_lt_of_le hpb HB0.out.size)).symm)).trans ex0)
     by_cases hbs : B < 4 \/ 16384 < B
     ·have k3 := frame_bud g (x.toNat : Int) B hbs wb
      have HK4 := hid (fun w => frame_bud g' (x.toNat : Int) B hbs w)
      obtain ⟨t1, t2, _, _, t5, t6⟩ := same_parts her
      have hnc : nco u = nco v := by unfold nco; rw [t1, t6]
      have HC := hid (And.intro hnc t1)
      clear hx hbs I hzs hlb hpc hnc t1 t2 t5 t6
      go_wp2_with fail
      refine k3.mono ?_
      rintro e w3 ⟨rfl, h3⟩
      obtain ⟨z3, r3, b3⟩ := mkRow w3 #[.int .i64 0, .int .i64 0, .int .i64 0, .int .i64 0, .int .i64 0, .slice none 0 0, .slice none 0 0] #[.int .i64 0, .int .i64 0, .int .i64 0, .int .i64 0, .int .i64 0, .slice none 0 0, .slice none 0 0] 28
      have h34 := trB h3 b3 h3.size
      have I4 := hid (HII.out.idle h34)
      have HO1 := hid r3
      clear k3 h3 b3 r3 h34 ex0 l1 HII
      go_upto_region 20 with (refine wpList_store_row rfl 28 _ _ rfl w3.heap.size _ rfl rfl 28 #[.int .i64 0, .int .i64 0, .int .i64 0, .int .i64 0, .int .i64 0, .slice none 0 0, .slice none 0 0] z3 (by exact sizeO) (by rfl) (by simp [Value.oneCell']) ?_)
      generalize hW4 : (w3.alloc (.cells #[.int .i64 0, .int .i64 0, .int .i64 0, .int .i64 0, .int .i64 0, .slice none 0 0, .slice none 0 0] 28)).setRow w3.heap.size #[.int .i64 0, .int .i64 0, .int .i64 0, .int .i64 0, .int .i64 0, .slice none 0 0, .slice none 0 0] = W4 at *
      clear z3 hW4
      obtain ⟨hlb, _, _, _, _, _⟩ := HL.out W4 I4.out.bel
      have l1 := S.cell_of W4 _ 1 _ _ _ hlb rfl
      have ex0 := HPX.out W4 I4.out.bel
      have k4 := HK4.out W4
      clear HK4 hlb
      go_wp2_with fail
      refine k4.mono ?_
      rintro e w5' ⟨rfl, h5⟩
      obtain ⟨z6, r6, b6⟩ := mkRow w5' #[.int .i64 0, .int .i64 0, .int .i64 0, .int .i64 0, .int .i64 0, .slice none 0 0, .slice none 0 0] #[.int .i64 0, .int .i64 0, .int .i64 0, .int .i64 0, .int .i64 0, .slice none 0 0, .slice none 0 0] 28
      have h46 := trB h5 b6 h5.size
      have I6 := hid (I4.out.idle h46)
      have HX := hid (And.intro ((h46.block _ (S.lt_of HO1.out)).trans HO1.out) r6)
      clear k4 h5 b6 r6 h46 ex0 l1 HO1 HPX
      go_upto_region 21 with (refine wpList_store_row rfl 28 _ _ rfl w5'.heap.size _ rfl rfl 28 #[.int .i64 0, .int .i64 0, .int .i64 0, .int .i64 0, .int .i64 0, .slice none 0 0, .slice none 0 0] z6 (by exact sizeO) (by rfl) (by simp [Value.oneCell']) ?_)
      generalize hW6 : (w5'.alloc (.cells #[.int .i64 0, .int .i64 0, .int .i64 0, .int .i64 0, .int .i64 0, .slice none 0 0, .slice none 0 0] 28)).setRow w5'.heap.size #[.int .i64 0, .int .i64 0, .int .i64 0, .int .i64 0, .int .i64 0, .slice none 0 0, .slice none 0 0] = W6 at *
      clear z6 hW6
      obtain ⟨na1, na2, k7⟩ := next_is W6 I6.out.two.ma I6.out.ca
      rw [hga] at k7
      go_wp2_with fail
      refine k7.mono ?_
      rintro e w7 ⟨rfl, h7⟩
      obtain ⟨W7, hW7⟩ : ∃ W7, w7.alloc (.cells #[.int .i64 na1, .int .i64 na2] 33) = W7 := ⟨_, rfl⟩
      have b7 := P.bel_alloc w7 (.cells #[.int .i64 na1, .int .i64 na2] 33)
      rw [hW7] at b7
      have h67 := trB h7 b7 h7.size
      have HB7 := hid h67
      have I7 := hid (I6.out.idle h67)
      have HW7 := hid hW7
      clear k7 h7 b7 h67 hW7
      go_upto_region 22 with fail
      rw [HW7.out]
      obtain ⟨nb1, nb2, k8⟩ := next_is W7 I7.out.two.mb I7.out.cb
      rw [hgb, <- HC.out.1, <- HC.out.2] at k8
      go_wp2_with fail
      refine k8.mono ?_
      rintro e w8 ⟨rfl, h8⟩
      obtain ⟨W8, hW8⟩ : ∃ W8, w8.alloc (.cells #[.int .i64 nb1, .int .i64 nb2] 33) = W8 := ⟨_, rfl⟩
      have b8 := P.bel_alloc w8 (.cells #[.int .i64 nb1, .int .i64 nb2] 33)
      rw [hW8] at b8
      have h78 := trB h8 b8 h8.size
      have I8 := hid (I7.out.idle h78)
      have HB8 := hid (trB HB7.out h78 HB7.out.size)
      have HW8 := hid hW8
      clear k8 h8 b8 h78 hW8
      go_upto_region 23 with fail
      rw [HW8.out]
      have ho1 := (HB8.out.block _ (S.lt_of HX.out.1)).trans HX.out.1
      have ho2 := (HB8.out.block _ (S.lt_of HX.out.2)).trans HX.out.2
      have k9 : Calls Tryz.prog 18 #[.agg #[.int .i64 0, .int .i64 0, .int .i64 0, .int .i64 0, .int .i64 0, .slice none 0 0, .slice none 0 0], .agg #[.int .i64 0, .int .i64 0, .int .i64 0, .int .i64 0, .int .i64 0, .slice none 0 0, .slice none 0 0]] W8 fun e w' => e = .returned (.bool true) /\ Below W8.heap.size W8 w' := outs_true 0 0 0 0 0 none none none none 0 0 0 0 [] [] 0 (by unfold maxLen; omega) rfl (by simp) W8 (World.ownsRow_nil _ 0 _ _) (World.ownsRow_nil _ 0 _ _) (World.ownsRow_nil _ 0 _ _) (World.ownsRow_nil _ 0 _ _)
      have x0 := S.cell_of W8 _ 0 [.int .i64 0, .int .i64 0, .int .i64 0, .int .i64 0, .int .i64 0, .slice none 0 0, .slice none 0 0] _ _ ho1 rfl
      have y0 := S.cell_of W8 _ 0 [.int .i64 0, .int .i64 0, .int .i64 0, .int .i64 0, .int .i64 0, .slice none 0 0, .slice none 0 0] _ _ ho2 rfl
      have x1 := S.cell_of W8 _ 1 [.int .i64 0, .int .i64 0, .int .i64 0, .int .i64 0, .int .i64 0, .slice none 0 0, .slice none 0 0] _ _ ho1 rfl
      have y1 := S.cell_of W8 _ 1 [.int .i64 0, .int .i64 0, .int .i64 0, .int .i64 0, .int .i64 0, .slice none 0 0, .slice none 0 0] _ _ ho2 rfl
      have x2 := S.cell_of W8 _ 2 [.int .i64 0, .int .i64 0, .int .i64 0, .int .i64 0, .int .i64 0, .slice none 0 0, .slice none 0 0] _ _ ho1 rfl
      have y2 := S.cell_of W8 _ 2 [.int .i64 0, .int .i64 0, .int .i64 0, .int .i64 0, .int .i64 0, .slice none 0 0, .slice none 0 0] _ _ ho2 rfl
      have x3 := S.cell_of W8 _ 3 [.int .i64 0, .int .i64 0, .int .i64 0, .int .i64 0, .int .i64 0, .slice none 0 0, .slice none 0 0] _ _ ho1 rfl
      have y3 := S.cell_of W8 _ 3 [.int .i64 0, .int .i64 0, .int .i64 0, .int .i64 0, .int .i64 0, .slice none 0 0, .slice none 0 0] _ _ ho2 rfl
      have x4 := S.cell_of W8 _ 4 [.int .i64 0, .int .i64 0, .int .i64 0, .int .i64 0, .int .i64 0, .slice none 0 0, .slice none 0 0] _ _ ho1 rfl
      have y4 := S.cell_of W8 _ 4 [.int .i64 0, .int .i64 0, .int .i64 0, .int .i64 0, .int .i64 0, .slice none 0 0, .slice none 0 0] _ _ ho2 rfl
      have x5 := S.cell_of W8 _ 5 [.int .i64 0, .int .i64 0, .int .i64 0, .int .i64 0, .int .i64 0, .slice none 0 0, .slice none 0 0] _ _ ho1 rfl
      have y5 := S.cell_of W8 _ 5 [.int .i64 0, .int .i64 0, .int .i64 0, .int .i64 0, .int .i64 0, .slice none 0 0, .slice none 0 0] _ _ ho2 rfl
      have x6 := S.cell_of W8 _ 6 [.int .i64 0, .int .i64 0, .int .i64 0, .int .i64 0, .int .i64 0, .slice none 0 0, .slice none 0 0] _ _ ho1 rfl
      have y6 := S.cell_of W8 _ 6 [.int .i64 0, .int .i64 0, .int .i64 0, .int .i64 0, .int .i64 0, .slice none 0 0, .slice none 0 0] _ _ ho2 rfl
      generalize nco u = nc at *
      generalize decide (u.st = 1) = ok at *
      clear ho1 ho2
      go_wp2_with (first | (go_at_call 9; refine (num_any _ _).mono ?_; rintro e wn ⟨rfl, hwn⟩; rw [hwn]; clear hwn wn) | (go_at_call 18; refine k9.mono ?_; rintro e w9 ⟨rfl, h9⟩))
      go_roundw
      case rel => exact ⟨k + 1, a, b, u, v, hk1, (by first | rfl | rw [w1']), hga, hgb, her, I8.out.idle h9⟩
      case measure => exact msr2 ps.length _ _ k (by first | rfl | rw [w1']) rfl hk1
     have k3 := frame_b x B (by omega) (by omega) a u wb I.ca I.two.ma
     have hcu := frame_calls u (x.toNat : Int) B I.ca
     have hcv := frame_calls v (x.toNat : Int) B I.cb
     have htn : (frame u (x.toNat : Int) B).v.m.tones.length <= 1000000 := by
      have ht := wk_tones B B.toNat { u with m := M.bg u.m (x.toNat : Int) } 0 0
      simp only [M.bg, List.length_nil] at ht
      unfold frame
      simp only [M.bg]
      omega
     obtain ⟨sf1, sf2, sf3⟩ := same_frame her (x.toNat : Int) B
     have k4 := fun (W3 : World) (hm : b.mv W3 v) => frame_b x B (by omega) (by omega) b v W3 I.cb hm
     rw [hga] at k3
     rw [hgb] at k4
     obtain ⟨r, hfr⟩ : ∃ r, r = frame u (x.toNat : Int) B := ⟨_, rfl⟩
     obtain ⟨r', hfr'⟩ : ∃ r, r = frame v (x.toNat : Int) B := ⟨_, rfl⟩
     rw [<- hfr] at k3 hcu sf1 sf2 sf3 htn
     rw [<- hfr'] at k4 hcv sf1 sf2 sf3
     obtain ⟨uu, n, s⟩ := r
     obtain ⟨vv, n', s'⟩ := r'
     simp only at hcu hcv sf1 sf2 sf3 htn
     subst sf2 sf3
     obtain ⟨t1, t2, _, _, t5, t6⟩ := same_parts sf1
     unfold OutV at k3 k4
     simp only at k3 k4
     rw [<- t1, <- t2, <- t5] at k4
     have hnc : nco uu = nco vv := by unfold nco; rw [t1, t6]
     have HC := hid (And.intro hcu (And.intro hcv (And.intro sf1 (And.intro hnc (And.intro t1 t5)))))
     have HK4 := hid k4
     have HTN := hid htn
     clear hfr hfr' hx hbs I hzs hlb hpc hcu hcv sf1 hnc t1 t2 t5 t6 k4 htn
     go_wp2_with fail
     refine k3.mono ?_
     rintro e w3 ⟨pa1, ca1, pa2, ca2, lo, a', rfl, hr1, hr2, hF⟩
     have I3 := HII.out.left hF HC.out.1
     have HGA := hid (hF.gg.trans hga)
     have hscr : uu.m.scr.length = 3072 := (MV.ps hF.mv).m.wf.scr
     have hbo : ∀ i, b.tv i -> i < wb.heap.size := fun i hi => MB.lt HII.out.two.mb i (.inl hi)
     have hlo := hF.l0
     have hl1 := hF.l1
     rw [hscr] at hr1
     rw [hscr]
     rw [hscr] at HK4
     have HC1 := hid (And.intro hscr (And.intro hbo (And.intro hlo hl1)))
     have HR1 := hid (And.intro hr1 hr2)
     obtain ⟨z3, r3, b3⟩ := mkRow w3 #[.int .i64 0, .int .i64 0, .int .i64 0, .int .i64 0, .int .i64 0, .slice none 0 0, .slice none 0 0] #[.int .i64 uu.st, .int .i64 uu.fa, .int .i64 n, .int .i64 s, .int .i64 (B - s), .slice pa1 3072 ca1, .slice pa2 uu.m.tones.length ca2] 28
     have HB3 := hid b3
     have HO1 := hid r3
     have I4 := hid (I3.idle b3)
     clear k3 hF I3 hscr hbo hlo hl1 hr1 hr2 b3 r3 ex0 l1 HII
     go_upto_region 20 with (refine wpList_store_row rfl 28 _ _ rfl w3.heap.size _ rfl rfl 28 #[.int .i64 0, .int .i64 0, .int .i64 0, .int .i64 0, .int .i64 0, .slice none 0 0, .slice none 0 0] z3 (by exact sizeO) (by rfl) (by simp [Value.oneCell']) ?_)
     generalize hW4 : (w3.alloc (.cells #[.int .i64 0, .int .i64 0, .int .i64 0, .int .i64 0, .int .i64 0, .slice none 0 0, .slice none 0 0] 28)).setRow w3.heap.size #[.int .i64 uu.st, .int .i64 uu.fa, .int .i64 n, .int .i64 s, .int .i64 (B - s), .slice pa1 3072 ca1, .slice pa2 uu.m.tones.length ca2] = W4 at *
     clear z3 hW4
     obtain ⟨hlb, _, _, _, _, _⟩ := HL.out W4 I4.out.bel
     have l1 := S.cell_of W4 _ 1 _ _ _ hlb rfl
     have ex0 := HPX.out W4 I4.out.bel
     have k4 := HK4.out W4 I4.out.two.mb
     clear HK4 hlb
     go_wp2_with fail
     refine k4.mono ?_
     rintro e w5' ⟨pb1, cb1, pb2, cb2, lo', b', rfl, hr3, hr4, hF⟩
     have htt : vv.m.tones.length = uu.m.tones.length := by rw [HC.out.2.2.2.2.2]
     have hss : vv.m.scr = uu.m.scr := by rw [HC.out.2.2.2.2.2]
     clear htt hss
     have I5 := I4.out.right hF HC.out.2.1
     have HGB := hid (hF.gg.trans hgb)
     have hk1r : ∀ i, i < w3.heap.size -> lo <= i -> w5'.heap[i]? = w3.heap[i]? := fun i hi hl => (hF.other i (Nat.lt_of_lt_of_le hi HB3.out.size) (fun ht => by have := HC1.out.2.1 i ht; have := HC1.out.2.2.1; omega)).trans (HB3.out.block i hi)
     have hr1 : M.Row w5' lo (.slice pa1 3072 ca1) uu.m.scr := S.own_kept HR1.out.1 fun i e hi => hk1r i hi (Y.own_ge HR1.out.1 i e)
     have hr2 : M.TRow w5' lo (.slice pa2 uu.m.tones.length ca2) uu.m.tones := S.own_kept HR1.out.2 fun i e hi => hk1r i hi (Y.own_ge HR1.out.2 i e)
     have ho1 : w5'.heap[w3.heap.size]? = some (.cells #[.int .i64 uu.st, .int .i64 uu.fa, .int .i64 n, .int .i64 s, .int .i64 (B - s), .slice pa1 3072 ca1, .slice pa2 uu.m.tones.length ca2] 28 (0, 0)) := (hF.other _ (S.lt_of HO1.out) (fun ht => by have := HC1.out.2.1 _ ht; have := HC1.out.2.2.1; have := HC1.out.2.2.2; omega)).trans HO1.out
     obtain ⟨z6, r6, b6⟩ := mkRow w5' #[.int .i64 0, .int .i64 0, .int .i64 0, .int .i64 0, .int .i64 0, .slice none 0 0, .slice none 0 0] #[.int .i64 uu.st, .int .i64 uu.fa, .int .i64 n, .int .i64 s, .int .i64 (B - s), .slice pb1 3072 cb1, .slice pb2 uu.m.tones.length cb2] 28
     have I6 := hid (I5.idle b6)
     have HX := hid (And.intro b6 (And.intro r6 (And.intro ho1 (And.intro hr1 (And.intro hr2 (And.intro hr3 hr4))))))
     clear k4 hF I5 hk1r hr1 hr2 ho1 hr3 hr4 b6 r6 ex0 l1 HR1 HO1 HB3 HPX
     go_upto_region 21 with (refine wpList_store_row rfl 28 _ _ rfl w5'.heap.size _ rfl rfl 28 #[.int .i64 0, .int .i64 0, .int .i64 0, .int .i64 0, .int .i64 0, .slice none 0 0, .slice none 0 0] z6 (by exact sizeO) (by rfl) (by simp [Value.oneCell']) ?_)
     generalize hW6 : (w5'.alloc (.cells #[.int .i64 0, .int .i64 0, .int .i64 0, .int .i64 0, .int .i64 0, .slice none 0 0, .slice none 0 0] 28)).setRow w5'.heap.size #[.int .i64 uu.st, .int .i64 uu.fa, .int .i64 n, .int .i64 s, .int .i64 (B - s), .slice pb1 3072 cb1, .slice pb2 uu.m.tones.length cb2] = W6 at *
     clear z6 hW6
     have HX6 := hid (fun (W' : World) (q : Below W6.heap.size W6 W') => show W'.heap[w3.heap.size]? = some (.cells #[.int .i64 uu.st, .int .i64 uu.fa, .int .i64 n, .int .i64 s, .int .i64 (B - s), .slice pa1 3072 ca1, .slice pa2 uu.m.tones.length ca2] 28 (0, 0)) /\ W'.heap[w5'.heap.size]? = some (.cells #[.int .i64 uu.st, .int .i64 uu.fa, .int .i64 n, .int .i64 s, .int .i64 (B - s), .slice pb1 3072 cb1, .slice pb2 uu.m.tones.length cb2] 28 (0, 0)) /\ M.Row W' lo (.slice pa1 3072 ca1) uu.m.scr /\ M.TRow W' lo (.slice pa2 uu.m.tones.length ca2) uu.m.tones /\ M.Row W' lo' (.slice pb1 3072 cb1) uu.m.scr /\ M.TRow W' lo' (.slice pb2 uu.m.tones.length cb2) uu.m.tones from by
      obtain ⟨b6, r6, ho1, hr1, hr2, hr3, hr4⟩ := HX.out
      have hh : ∀ i, i < w5'.heap.size -> W'.heap[i]? = w5'.heap[i]? := fun i hi => (q.block i (Nat.lt_of_lt_of_le hi b6.size)).trans (b6.block i hi)
      exact ⟨(hh _ (S.lt_of ho1)).trans ho1, (q.block _ (S.lt_of r6)).trans r6, S.own_kept hr1 fun i _ hi => hh i hi, S.own_kept hr2 fun i _ hi => hh i hi, S.own_kept hr3 fun i _ hi => hh i hi, S.own_kept hr4 fun i _ hi => hh i hi⟩)
     clear HX
     obtain ⟨na1, na2, k7⟩ := next_is W6 I6.out.two.ma I6.out.ca
     rw [HGA.out] at k7
     go_wp2_with fail
     refine k7.mono ?_
     rintro e w7 ⟨rfl, h7⟩
     obtain ⟨W7, hW7⟩ : ∃ W7, w7.alloc (.cells #[.int .i64 na1, .int .i64 na2] 33) = W7 := ⟨_, rfl⟩
     have b7 := P.bel_alloc w7 (.cells #[.int .i64 na1, .int .i64 na2] 33)
     rw [hW7] at b7
     have h67 := trB h7 b7 h7.size
     have HB7 := hid h67
     have I7 := hid (I6.out.idle h67)
     have HW7 := hid hW7
     clear k7 h7 b7 h67 hW7
     go_upto_region 22 with fail
     rw [HW7.out]
     obtain ⟨nb1, nb2, k8⟩ := next_is W7 I7.out.two.mb I7.out.cb
     rw [HGB.out, <- HC.out.2.2.2.1, <- HC.out.2.2.2.2.1] at k8
     go_wp2_with fail
     refine k8.mono ?_
     rintro e w8 ⟨rfl, h8⟩
     obtain ⟨W8, hW8⟩ : ∃ W8, w8.alloc (.cells #[.int .i64 nb1, .int .i64 nb2] 33) = W8 := ⟨_, rfl⟩
     have b8 := P.bel_alloc w8 (.cells #[.int .i64 nb1, .int .i64 nb2] 33)
     rw [hW8] at b8
     have h78 := trB h8 b8 h8.size
     have I8 := hid (I7.out.idle h78)
     have HB8 := hid (trB HB7.out h78 HB7.out.size)
     have HW8 := hid hW8
     clear k8 h8 b8 h78 hW8
     go_upto_region 23 with fail
     rw [HW8.out]
     obtain ⟨ho1, ho2, hr1, hr2, hr3, hr4⟩ := HX6.out W8 HB8.out
     have k9 := outs_true uu.st uu.fa n s (B - s) pa1 pa2 pb1 pb2 ca1 ca2 cb1 cb2 uu.m.scr uu.m.tones 3072 ml3072 HC1.out.1 HTN.out W8 hr1 hr2 hr3 hr4
     have x0 := S.cell_of W8 _ 0 [.int .i64 uu.st, .int .i64 uu.fa, .int .i64 n, .int .i64 s, .int .i64 (B - s), .slice pa1 3072 ca1, .slice pa2 uu.m.tones.length ca2] _ _ ho1 rfl
     have y0 := S.cell_of W8 _ 0 [.int .i64 uu.st, .int .i64 uu.fa, .int .i64 n, .int .i64 s, .int .i64 (B - s), .slice pb1 3072 cb1, .slice pb2 uu.m.tones.length cb2] _ _ ho2 rfl
     have x1 := S.cell_of W8 _ 1 [.int .i64 uu.st, .int .i64 uu.fa, .int .i64 n, .int .i64 s, .int .i64 (B - s), .slice pa1 3072 ca1, .slice pa2 uu.m.tones.length ca2] _ _ ho1 rfl
     have y1 := S.cell_of W8 _ 1 [.int .i64 uu.st, .int .i64 uu.fa, .int .i64 n, .int .i64 s, .int .i64 (B - s), .slice pb1 3072 cb1, .slice pb2 uu.m.tones.length cb2] _ _ ho2 rfl
     have x2 := S.cell_of W8 _ 2 [.int .i64 uu.st, .int .i64 uu.fa, .int .i64 n, .int .i64 s, .int .i64 (B - s), .slice pa1 3072 ca1, .slice pa2 uu.m.tones.length ca2] _ _ ho1 rfl
     have y2 := S.cell_of W8 _ 2 [.int .i64 uu.st, .int .i64 uu.fa, .int .i64 n, .int .i64 s, .int .i64 (B - s), .slice pb1 3072 cb1, .slice pb2 uu.m.tones.length cb2] _ _ ho2 rfl
     have x3 := S.cell_of W8 _ 3 [.int .i64 uu.st, .int .i64 uu.fa, .int .i64 n, .int .i64 s, .int .i64 (B - s), .slice pa1 3072 ca1, .slice pa2 uu.m.tones.length ca2] _ _ ho1 rfl
     have y3 := S.cell_of W8 _ 3 [.int .i64 uu.st, .int .i64 uu.fa, .int .i64 n, .int .i64 s, .int .i64 (B - s), .slice pb1 3072 cb1, .slice pb2 uu.m.tones.length cb2] _ _ ho2 rfl
     have x4 := S.cell_of W8 _ 4 [.int .i64 uu.st, .int .i64 uu.fa, .int .i64 n, .int .i64 s, .int .i64 (B - s), .slice pa1 3072 ca1, .slice pa2 uu.m.tones.length ca2] _ _ ho1 rfl
     have y4 := S.cell_of W8 _ 4 [.int .i64 uu.st, .int .i64 uu.fa, .int .i64 n, .int .i64 s, .int .i64 (B - s), .slice pb1 3072 cb1, .slice pb2 uu.m.tones.length cb2] _ _ ho2 rfl
     have x5 := S.cell_of W8 _ 5 [.int .i64 uu.st, .int .i64 uu.fa, .int .i64 n, .int .i64 s, .int .i64 (B - s), .slice pa1 3072 ca1, .slice pa2 uu.m.tones.length ca2] _ _ ho1 rfl
     have y5 := S.cell_of W8 _ 5 [.int .i64 uu.st, .int .i64 uu.fa, .int .i64 n, .int .i64 s, .int .i64 (B - s), .slice pb1 3072 cb1, .slice pb2 uu.m.tones.length cb2] _ _ ho2 rfl
     have x6 := S.cell_of W8 _ 6 [.int .i64 uu.st, .int .i64 uu.fa, .int .i64 n, .int .i64 s, .int .i64 (B - s), .slice pa1 3072 ca1, .slice pa2 uu.m.tones.length ca2] _ _ ho1 rfl
     have y6 := S.cell_of W8 _ 6 [.int .i64 uu.st, .int .i64 uu.fa, .int .i64 n, .int .i64 s, .int .i64 (B - s), .slice pb1 3072 cb1, .slice pb2 uu.m.tones.length cb2] _ _ ho2 rfl
     generalize nco uu = nc at *
     generalize decide (uu.st = 1) = ok at *
     clear hr1 hr2 hr3 hr4 ho1 ho2
     go_wp2_with (first | (go_at_call 9; refine (num_any _ _).mono ?_; rintro e wn ⟨rfl, hwn⟩; rw [hwn]; clear hwn wn) | (go_at_call 18; refine k9.mono ?_; rintro e w9 ⟨rfl, h9⟩))
     go_roundw
     case rel => exact ⟨k + 1, a', b', uu, vv, hk1, (by first | rfl | rw [w1']), HGA.out, HGB.out, HC.out.2.2.1, I8.out.idle h9⟩
     case measure => exact msr2 ps.length _ _ k (by first | rfl | rw [w1']) rfl hk1
end Go.Proofs.YtoemoiehjdmheaaGreat.Z
