import Derived.Test.YteldjmecomngeaaGreatVRSmS
import Derived.Test.YteldjmecomngeaaGreatMRImage
import Derived.Test.YteldjmecomngeaaGreatVPlP
namespace Go.Proofs.YteldjmecomngeaaGreat.V
open Go.RowKit
open Go.Proofs
set_option linter.unusedVariables false
set_option linter.unusedSimpArgs false
set_option maxHeartbeats 40000000
set_option maxRecDepth 100000
theorem plays_hi (w0 : World) (N : Nat -> Prop) (pp : Nat) (c : T.Ct) (kp : Option Addr) (kc : Nat) (ep : Option Addr) (ec : Nat) (bp : Option Addr) (bc : Nat) (tb : Nat) (h6 : 60000 <= tb) (ht : tb <= 70000) (p : Nat -> PM) (r : Nat -> RM) (W : World) (h : PI w0 W N pp c kp kc ep ec bp bc tb p r) (kd wh bn_ at_ : Int) (pad bx : UInt8) (ha : C.C at_) (hkd : kd = 5 \/ kd = 6 \/ kd = 7 \/ kd = 8 \/ (kd ≠ 1 /\ kd ≠ 2 /\ kd ≠ 3 /\ kd ≠ 4 /\ kd ≠ 5 /\ kd ≠ 6 /\ kd ≠ 7 /\ kd ≠ 8)) :
  Calls Tryz.prog 31 #[.pointer (some ⟨pp, 0, none⟩), .agg #[.int .i64 kd, .int .i64 wh, .int .u8 (M.bt pad), .int .i64 bn_, .int .u16 at_, .int .u8 (M.bt bx)]] W fun e W' => e = .returned (.bool true) /\ ∃ p' r', PI w0 W' N pp c kp kc ep ec bp bc (tb + 3) p' r' := by
 have HKD : Hid _ := hkd
 clear hkd
 obtain ⟨W0, hW0⟩ : ∃ y, W.alloc (.cells #[.int .i64 kd, .int .i64 wh, .int .u8 (M.bt pad), .int .i64 bn_, .int .u16 at_, .int .u8 (M.bt bx)] 90) = y := ⟨_, rfl⟩
 have b0 : Below W.heap.size W W0 := by rw [<- hW0]; exact P.bel_alloc W _
 have n0 : W0.heap[W.heap.size]? = some (.cells [.int .i64 kd, .int .i64 wh, .int .u8 (M.bt pad), .int .i64 bn_, .int .u16 at_, .int .u8 (M.bt bx)].toArray 90 (0, 0)) := by rw [<- hW0]; exact heap_alloc_new W _
 obtain ⟨t1, ht1⟩ : ∃ t, wh.tmod 2 = t := ⟨_, rfl⟩
 have r1 := tm_r wh 2 (by decide)
 rw [ht1] at r1
 obtain ⟨i, hi2, hi⟩ : ∃ i : Nat, (t1 + 2).tmod 2 = (i : Int) /\ i < 2 := by
  have h1 := Int.tmod_nonneg 2 (show 0 <= t1 + 2 by omega); have h2 := Int.tmod_lt_of_pos (t1 + 2) (show (0 : Int) < 2 by decide); exact ⟨((t1 + 2).tmod 2).toNat, by omega, by omega⟩
 have u1 : IntKind.i64.wrap t1 = t1 := IntWalk.i64_in _ (by omega)
 have u2 : IntKind.i64.wrap (t1 + 2) = t1 + 2 := IntWalk.i64_in _ (by omega)
 have u3 : IntKind.i64.wrap (i : Int) = (i : Int) := IntWalk.i64_in _ (by omega)
 have c1 := S.cell_of W0 _ 1 _ _ _ n0 rfl
 have H : Hid _ := h.next b0
 have HN0 : Hid _ := And.intro n0 b0
 have HW0 : Hid _ := hW0
 have HLT : Hid (∀ q, q < 4 -> ∀ k, W.heap.size <= k -> ¬ (mkO p r q).S k) := fun q hq k hk => h.q.not q hq k hk
 have HBX : Hid (∀ i, i < 2 -> (¬ TV (p i).g (p i).bd (p i).br (p i).F W.heap.size) /\ ¬ (r i).F W.heap.size) := fun i hi => ⟨fun e => Nat.lt_irrefl _ ((h.q.pm i hi).tv_lt _ e), fun e => Nat.lt_irrefl _ ((h.q.rm i hi).fb _ e)⟩
 clear h b0 n0 hW0
 go_enter Tryz.func31, Tryz.ntmps31
 go_upto_region 1 with fail
 try rw [HW0.out]
 go_upto_region 2 with fail
 clear u1 u2 u3 c1 ht1 r1 hi2
 have j1 : (i : Int) < 2 := by omega
 have HBd : Hid (Below W0.heap.size W0 W0.drew) := ⟨rfl, rfl, rfl, Nat.le_refl _, fun _ _ => rfl⟩
 have hS : ∀ X : World, Below W0.heap.size W0 X -> (fun wz : World => wz.cell? ⟨pp, 4 + i, none⟩ = some (.pointer (some ⟨(p i).g, 0, none⟩)) /\ wz.cell? ⟨pp, 6 + i, none⟩ = some (.pointer (some ⟨(r i).g, 0, none⟩))) X := fun X hX => ⟨(H.out.next hX).cm i hi, (H.out.next hX).cr i hi⟩
 have HS : Hid _ := hS
 clear hS
 refine V.wrh HS.out HBd.out (by kernel_rfl) (fun hHeld => ?_)
 have Hd : Hid _ := H.out.next HBd.out
 generalize W0.drew = wa at *
 refine wtk0 (is := [0, 1, 2, 3, 4, 5, 6, 7, 8, 9, 10, 11, 12, 13]) ?_
 iterate 14
  refine V.wt (v := ?_) rfl (by kernel_rfl) (fun c a w h => h) (by rfl) ?_ hHeld ?_
  rotate_left
  ·(intro w hSw; (try dsimp only at hSw); go_simp; try with_reducible rfl)
  simp only [V.pts]
 refine wtkE ?_
 refine wpAnyH_done (by kernel_rfl) ?_ _
 clear hHeld HS H
 have na := (HBd.out.block _ (S.lt_of HN0.out.1)).trans HN0.out.1
 have k0 := S.cell_of wa _ 0 _ _ _ na rfl
 have HNA : Hid _ := na
 clear na
 go_upto_region 4 with fail
 clear k0
 rcases HKD.out with hkd | hkd | hkd | hkd | hkd
 ·as_aux_lemma =>
   clear HKD; have HKD : Hid _ := hkd; clear hkd; obtain rfl := HKD.out; have HBe : Hid (Below wa.heap.size wa wa.drew) := ⟨rfl, rfl, rfl, Nat.le_refl _, fun _ _ => rfl⟩
   have hS : ∀ X : World, Below wa.heap.size wa X -> (fun wz : World => wz.cell? ⟨W.heap.size, 4, none⟩ = some (.int .u16 at_) /\ wz.cell? ⟨W.heap.size, 5, none⟩ = some (.int .u8 (M.bt bx))) X := fun X hX => by
    have hn := (hX.block _ (S.lt_of HNA.out)).trans HNA.out; exact ⟨S.cell_of X _ 4 _ _ _ hn rfl, S.cell_of X _ 5 _ _ _ hn rfl⟩
   have HS : Hid _ := hS; clear hS; have He : Hid _ := Hd.out.next HBe.out; have kM := memory_any (p i).g (p i).bd (p i).br (p i).bm (p i).kv (p i).F (p i).v wa.drew (He.out.q.pm i hi); have kS := M.store_any (p i).bm at_ ha.1 ha.2 bx wa.drew (He.out.q.pm i hi).ps.m (by have := (He.out.tn i hi).1; omega); go_upto_region 45 with fail
   refine V.wrh HS.out HBe.out (by kernel_rfl) (fun hHeld => ?_); generalize wa.drew = wd at *
   refine wtk0 (is := [0, 2, 3, 4, 5]) ?_
   iterate 5
    refine V.wt (v := ?_) rfl (by kernel_rfl) (fun c a w h => h) (by rfl) ?_ hHeld ?_
    rotate_left
    ·(intro w hSw; (try dsimp only at hSw); go_simp; try with_reducible rfl)
    simp only [V.pts]
   refine wtkE ?_; refine V.wrd 1 (by kernel_rfl) rfl fun K hK => ?_
   go_simp; refine kM.mono ?_; rintro e wx ⟨rfl, hwx⟩; dsimp only; rw [hwx]; clear hwx wx kM; refine hK.out _ _ (HS.out wd HBe.out) (fun hHeld => ?_); clear hK K; try simp only [V.pts]
   refine V.wrd 6 (by kernel_rfl) rfl fun K hK => ?_
   go_simp; refine kS.mono ?_; rintro e wb ⟨rfl, hD⟩; dsimp only; have hV := (He.out.q.pm i hi).goes ((He.out.q.pm i hi).ps.mem hD) (He.out.q.pm i hi).wf.d (He.out.q.pm i hi).wf.r; have HBf : Hid (Below wb.heap.size wb wb.drew) := ⟨rfl, rfl, rfl, Nat.le_refl _, fun _ _ => rfl⟩
   have nb := (hV.t.block _ (Nat.lt_of_lt_of_le (S.lt_of HNA.out) HBe.out.size) (HBX.out i hi).1).trans ((HBe.out.block _ (S.lt_of HNA.out)).trans HNA.out); have hVd := VD.trans (He.out.q.pm i hi) hV (hV.s.same HBf.out); have HNB : Hid _ := nb; have HVD : Hid _ := hVd; clear kS hD hV nb hVd HS; refine hK.out _ _ ⟨S.cell_of wb _ 4 _ _ _ HNB.out rfl, S.cell_of wb _ 5 _ _ _ HNB.out rfl⟩ (fun hHeld => ?_); clear hK K; try simp only [V.pts]
   refine wpAnyH_done (by kernel_rfl) ?_ _; clear hHeld; have nd := (HBf.out.block _ (S.lt_of HNB.out)).trans HNB.out; have hqb := He.out.q.prog i hi HVD.out; have hxb := hqb.rm i hi; have kR := M.rstore_any (r i).b at_ ha.1 ha.2 bx wb.drew hxb.mem (by have := (He.out.tn i hi).2; omega); have HXB : Hid _ := hxb; have hS2 : (fun wz : World => wz.cell? ⟨W.heap.size, 4, none⟩ = some (.int .u16 at_) /\ wz.cell? ⟨W.heap.size, 5, none⟩ = some (.int .u8 (M.bt bx)) /\ wz.cell? ⟨(r i).g, 6, none⟩ = some (.pointer (some ⟨(r i).b, 0, none⟩))) wb.drew := ⟨S.cell_of _ _ 4 _ _ _ nd rfl, S.cell_of _ _ 5 _ _ _ nd rfl, hxb.c6⟩
   have HND : Hid _ := nd; clear nd hqb hxb; go_upto_region 46 with fail
   refine wp_region_held_drew (S := (fun wz : World => wz.cell? ⟨W.heap.size, 4, none⟩ = some (.int .u16 at_) /\ wz.cell? ⟨W.heap.size, 5, none⟩ = some (.int .u8 (M.bt bx)) /\ wz.cell? ⟨(r i).g, 6, none⟩ = some (.pointer (some ⟨(r i).b, 0, none⟩)))) (by kernel_rfl) hS2 (fun hHeld => ?_); clear hS2; generalize wb.drew = we at *
   refine wtk0 (is := [0, 1, 2, 3, 4, 5, 6, 7]) ?_
   iterate 8
    refine V.wt (v := ?_) rfl (by kernel_rfl) (fun c a w h => h) (by rfl) ?_ hHeld ?_
    rotate_left
    ·(intro w hSw; (try dsimp only at hSw); go_simp; try with_reducible rfl)
    simp only [V.pts]
   refine wtkE ?_; refine V.wrd 8 (by kernel_rfl) rfl fun K hK => ?_
   go_simp; refine kR.mono ?_; rintro e wf ⟨rfl, hD⟩; dsimp only; have HY : Hid _ := HXB.out.rd hD; have h6 := (HXB.out.goes hD).c6; have nf := (hD.2.block _ (S.lt_of HND.out) (HBX.out i hi).2).trans HND.out; clear hD kR; refine hK.out _ _ ⟨S.cell_of wf _ 4 _ _ _ nf rfl, S.cell_of wf _ 5 _ _ _ nf rfl, h6⟩ (fun hHeld => ?_); clear hK K; try simp only [V.pts]
   refine wpAnyH_done (by kernel_rfl) ?_ _; clear hHeld h6 nf
   have HE : Hid (∃ p' r', PI w0 wf N pp c kp kc ep ec bp bc (tb + 3) p' r') := by
    have t0 := He.out.tn i hi; refine He.out.two i hi HVD.out HY.out ((He.out.e i hi).store at_ bx) rfl ((He.out.gd i hi).store at_ bx) (by omega) ?_ ?_
    ·have t1 := st_tones (p i).v.m at_ bx
     show (M.st (p i).v.m at_ bx).tones.length <= tb + 3
     omega
    ·have t1 := st_tones (r i).v.m at_ bx
     show (M.st (r i).v.m at_ bx).tones.length <= tb + 3
     omega
   go_wp2; go_ret; exact ⟨rfl, HE.out⟩
 ·as_aux_lemma =>
   clear HKD; have HKD : Hid _ := hkd; clear hkd; obtain rfl := HKD.out; have HBe : Hid (Below wa.heap.size wa wa.drew) := ⟨rfl, rfl, rfl, Nat.le_refl _, fun _ _ => rfl⟩
   have hS : ∀ X : World, Below wa.heap.size wa X -> (fun wz : World => wz.cell? ⟨W.heap.size, 4, none⟩ = some (.int .u16 at_) /\ wz.cell? ⟨(r i).g, 6, none⟩ = some (.pointer (some ⟨(r i).b, 0, none⟩))) X := fun X hX => by
    have hn := (hX.block _ (S.lt_of HNA.out)).trans HNA.out; exact ⟨S.cell_of X _ 4 _ _ _ hn rfl, ((Hd.out.next hX).q.rm i hi).c6⟩
   have HS : Hid _ := hS; clear hS; have He : Hid _ := Hd.out.next HBe.out; have kM := memory_any (p i).g (p i).bd (p i).br (p i).bm (p i).kv (p i).F (p i).v wa.drew (He.out.q.pm i hi); have kL := M.load_any (p i).bm at_ ha.1 ha.2 wa.drew (He.out.q.pm i hi).ps.m; have HEL : Hid _ := (He.out.e i hi).ld at_; obtain ⟨cv, hcv⟩ : ∃ c, M.ld (p i).v.m at_ = c := ⟨_, rfl⟩
   rw [hcv] at kL; have HCV : Hid _ := hcv; clear hcv; go_upto_region 48 with fail
   refine V.wrh HS.out HBe.out (by kernel_rfl) (fun hHeld => ?_); generalize wa.drew = wd at *
   refine wtk0 (is := [0, 2, 3, 5, 6, 7, 8, 9, 10]) ?_
   iterate 9
    refine V.wt (v := ?_) rfl (by kernel_rfl) (fun c a w h => h) (by rfl) ?_ hHeld ?_
    rotate_left
    ·(intro w hSw; (try dsimp only at hSw); go_simp; try with_reducible rfl)
    simp only [V.pts]
   refine wtkE ?_; refine V.wrd 1 (by kernel_rfl) rfl fun K hK => ?_
   go_simp; refine kM.mono ?_; rintro e wx ⟨rfl, hwx⟩; dsimp only; rw [hwx]; clear hwx wx kM; refine hK.out _ _ (HS.out wd HBe.out) (fun hHeld => ?_); clear hK K; try simp only [V.pts]
   refine V.wrd 4 (by kernel_rfl) rfl fun K hK => ?_
   go_simp; refine kL.mono ?_; rintro e wb ⟨rfl, q, hwb⟩; dsimp only; have HBb : Hid (Below wd.heap.size wd wb) := by rw [hwb]; exact ⟨rfl, rfl, rfl, Nat.le_refl _, fun _ _ => rfl⟩
   have HBc : Hid (Below wa.heap.size wa wb) := HBe.out.trans (HBb.out.mono HBe.out.size); clear hwb kL; refine hK.out _ _ (HS.out wb HBc.out) (fun hHeld => ?_); clear hK K; try simp only [V.pts]
   have kR := M.rload_any (r i).b at_ ha.1 ha.2 wb ((He.out.next HBb.out).q.rm i hi).mem; rw [HEL.out, HCV.out] at kR; refine V.wrd 11 (by kernel_rfl) rfl fun K hK => ?_
   go_simp; refine kR.mono ?_; rintro e wf ⟨rfl, hb⟩; dsimp only; have HBw : Hid _ := hb; have HBf : Hid (Below wa.heap.size wa wf) := HBc.out.trans (hb.mono HBc.out.size); clear hb kR; refine hK.out _ _ (HS.out wf HBf.out) (fun hHeld => ?_); clear hK K; try simp only [V.pts]
   refine wtk0 (is := [12, 13]) ?_
   iterate 2
    refine V.wt (v := ?_) rfl (by kernel_rfl) (fun c a w h => h) (by rfl) ?_ hHeld ?_
    rotate_left
    ·(intro w hSw; (try dsimp only at hSw); go_simp; try with_reducible rfl)
    simp only [V.pts]
   refine wtkE ?_; refine wpAnyH_done (by kernel_rfl) ?_ _; clear hHeld; have HE : Hid (PI w0 wf N pp c kp kc ep ec bp bc (tb + 3) p r) := (Hd.out.next HBf.out).up (by omega); go_wp2; go_ret; exact ⟨by simp, _, _, HE.out⟩
 ·as_aux_lemma =>
   clear HKD; have HKD : Hid _ := hkd; clear hkd; obtain rfl := HKD.out; obtain ⟨k, hki, hk2⟩ : ∃ k, 1 - i = k /\ k < 2 := ⟨_, rfl, by omega⟩
   have u4 : IntKind.i64.wrap (1 - (i : Int)) = (k : Int) := by rw [show (1 : Int) - (i : Int) = (k : Int) by omega]; exact IntWalk.i64_in _ (by omega)
   have j2 : (k : Int) < 2 := by omega
   have HBe : Hid (Below wa.heap.size wa wa.drew) := ⟨rfl, rfl, rfl, Nat.le_refl _, fun _ _ => rfl⟩
   have He : Hid _ := Hd.out.next HBe.out; have kC := copy_any (p i).g (p i).bd (p i).br (p i).bm (p i).kv (p i).F (p i).v ((He.out.gd i hi).may (He.out.q.pm i hi).ps.d.2 (He.out.q.pm i hi).ps.r.2) (by have := (He.out.tn i hi).1; omega) wa.drew (He.out.q.pm i hi); go_upto_region 50 with fail
   refine wp_region_held_drew (S := fun _ => True) (by kernel_rfl) trivial (fun hHeld => ?_); generalize wa.drew = wd at *
   refine wtk0 (is := [0, 1, 2, 3, 5, 6]) ?_
   iterate 6
    refine V.wt (v := ?_) rfl (by kernel_rfl) (fun c a w h => h) (by rfl) ?_ hHeld ?_
    rotate_left
    ·(intro w hSw; (try dsimp only at hSw); go_simp; try with_reducible rfl)
    simp only [V.pts]
   refine wtkE ?_; refine V.wrd 4 (by kernel_rfl) rfl fun K hK => ?_
   go_simp; refine kC.mono ?_; rintro e wb ⟨g, bd, br, bm, F, rfl, hx, hf, hb⟩; dsimp only; have Hx : Hid _ := And.intro hx (And.intro hf hb); have HB : Hid _ := (hb.block _ He.out.lt).trans He.out.blk; clear hx hf hb kC; refine hK.out _ _ trivial (fun hHeld => ?_); clear hK K; try simp only [V.pts]
   have hcu := S.cell_of wb pp (4 + k) _ _ _ HB.out (get_pm p r k hk2); have hcf := S.frozen_of wb pp (4 + k) _ _ HB.out; refine V.wt1 7 (v := ?_) rfl (by kernel_rfl) (fun c a w h => h) (by rfl) ?_ hHeld ?_
   rotate_left
   ·(intro w hSw; (try dsimp only at hSw); go_simp; try with_reducible rfl)
   simp only [V.pts]; refine V.wrd 8 (by kernel_rfl) rfl fun K hK => ?_
   go_simp; refine hK.out _ _ trivial (fun hHeld => ?_); clear hK K; try simp only [V.pts]
   refine wpAnyH_done (by kernel_rfl) ?_ _; clear hHeld hcu hcf
   have hq1 : PQ wb N (mkO (upP p k ⟨g, bd, br, bm, (p i).kv, F, (p i).v⟩) r) := by
    rw [<- upd_p p r k hk2]; refine He.out.q.fresh k (by omega) _ Hx.out.1 Hx.out.2.2 (fun j e => ?_) fun j e => .inr ⟨i, by omega, by unfold mkO; rw [if_pos hi]; exact e⟩
    obtain ⟨f1, f2, f3, f4⟩ := Hx.out.2.1
    rcases e with e | e | e | e
    ·rw [e]; exact f1
    ·rw [e]; exact f2
    ·rw [e]; exact f3
    ·exact f4 j e
   have kn1 : ∀ j, j < 2 -> ∀ m, ((upP p k ⟨g, bd, br, bm, (p i).kv, F, (p i).v⟩ j).kv.ownBlock = some m \/ (r j).kv.ownBlock = some m) -> m ≠ pp := fun j hj m e => by
    rcases e with e | e
    ·unfold upP at e
     by_cases q : j = k
     ·rw [if_pos q] at e; exact He.out.kn i hi m (.inl e)
     ·rw [if_neg q] at e; exact He.out.kn j hj m (.inl e)
    ·exact He.out.kn j hj m (.inr e)
   have hq2 := hq1.pair He.out.pn kn1 (4 + k) (.pointer (some ⟨g, 0, none⟩)); have hb2 := S.setCell_heap wb pp (4 + k) _ _ (.pointer (some ⟨g, 0, none⟩)) HB.out; have hl2 : Below w0.heap.size w0 (wb.setCell ⟨pp, 4 + k, none⟩ (.pointer (some ⟨g, 0, none⟩))) := (He.out.bel.trans (Hx.out.2.2.mono He.out.bel.size)).setCell He.out.n0 _; have H2 : Hid _ := And.intro hq2 (And.intro hb2 (And.intro hl2 kn1)); clear hq1 hq2 hb2 hl2 kn1; generalize wb.setCell ⟨pp, 4 + k, none⟩ (.pointer (some ⟨g, 0, none⟩)) = wc at *
   have HBf : Hid (Below wc.heap.size wc wc.drew) := ⟨rfl, rfl, rfl, Nat.le_refl _, fun _ _ => rfl⟩
   have HQ3 : Hid _ := H2.out.1.next HBf.out; have kR := rcopy8 _ _ _ _ _ _ (r i).v (by have := (He.out.tn i hi).2; omega) wc.drew (HQ3.out.rm i hi); go_upto_region 51 with fail
   refine wp_region_held_drew (S := fun _ => True) (by kernel_rfl) trivial (fun hHeld => ?_); generalize wc.drew = we at *
   refine wtk0 (is := [0, 1, 2, 3, 5, 6]) ?_
   iterate 6
    refine V.wt (v := ?_) rfl (by kernel_rfl) (fun c a w h => h) (by rfl) ?_ hHeld ?_
    rotate_left
    ·(intro w hSw; (try dsimp only at hSw); go_simp; try with_reducible rfl)
    simp only [V.pts]
   refine wtkE ?_; refine V.wrd 4 (by kernel_rfl) rfl fun K hK => ?_
   go_simp; refine kR.mono ?_; rintro e wf ⟨G, B, dv, rv, F2, rfl, hy, hf, hb⟩; dsimp only; have Hy : Hid _ := And.intro hy (And.intro hf hb); have HBB : Hid _ := (hb.block _ (Nat.lt_of_lt_of_le (S.lt_of H2.out.2.1) HBf.out.size)).trans ((HBf.out.block _ (S.lt_of H2.out.2.1)).trans H2.out.2.1); clear hy hf hb kR; refine hK.out _ _ trivial (fun hHeld => ?_); clear hK K; try simp only [V.pts]
   have hcu := S.cell_of wf pp (6 + k) _ _ _ HBB.out (get_rm p r k hk2 _).1; have hcf := S.frozen_of wf pp (6 + k) _ _ HBB.out; refine V.wt1 7 (v := ?_) rfl (by kernel_rfl) (fun c a w h => h) (by rfl) ?_ hHeld ?_
   rotate_left
   ·(intro w hSw; (try dsimp only at hSw); go_simp; try with_reducible rfl)
   simp only [V.pts]; refine V.wrd 8 (by kernel_rfl) rfl fun K hK => ?_
   go_simp; refine hK.out _ _ trivial (fun hHeld => ?_); clear hK K; try simp only [V.pts]
   refine wpAnyH_done (by kernel_rfl) ?_ _; clear hHeld hcu hcf
   have hq3 : PQ wf N (mkO (upP p k ⟨g, bd, br, bm, (p i).kv, F, (p i).v⟩) (upR r k ⟨G, B, (r i).kv, dv, rv, F2, (r i).v⟩)) := by
    rw [<- upd_r _ r k hk2]; refine HQ3.out.fresh (k + 2) (by omega) _ Hy.out.1 Hy.out.2.2 (fun j e => ?_) fun j e => .inr ⟨i + 2, by omega, by unfold mkO; rw [if_neg (by omega), show i + 2 - 2 = i by omega]; exact e⟩
    have f := Hy.out.2.1
    rcases e with e | e | e | e
    ·rw [e]; exact f.g
    ·exact f.f j e
    ·exact f.d j e
    ·exact f.r j e
   have kn3 : ∀ j, j < 2 -> ∀ m, ((upP p k ⟨g, bd, br, bm, (p i).kv, F, (p i).v⟩ j).kv.ownBlock = some m \/ (upR r k ⟨G, B, (r i).kv, dv, rv, F2, (r i).v⟩ j).kv.ownBlock = some m) -> m ≠ pp := fun j hj m e => by
    rcases e with e | e
    ·exact H2.out.2.2.2 j hj m (.inl e)
    ·unfold upR at e
     by_cases q : j = k
     ·rw [if_pos q] at e; exact He.out.kn i hi m (.inr e)
     ·rw [if_neg q] at e; exact He.out.kn j hj m (.inr e)
   have hq4 := hq3.pair He.out.pn kn3 (6 + k) (.pointer (some ⟨G, 0, none⟩)); have hb4 := S.setCell_heap wf pp (6 + k) _ _ (.pointer (some ⟨G, 0, none⟩)) HBB.out; have hl4 : Below w0.heap.size w0 (wf.setCell ⟨pp, 6 + k, none⟩ (.pointer (some ⟨G, 0, none⟩))) := (H2.out.2.2.1.trans ((HBf.out.trans (Hy.out.2.2.mono HBf.out.size)).mono H2.out.2.2.1.size)).setCell He.out.n0 _; have HE : Hid _ := He.out.put k hk2 hq4 hb4 hl4 (fun m e => e.elim (fun e => He.out.kn i hi m (.inl e)) fun e => He.out.kn i hi m (.inr e)) (He.out.e i hi) (He.out.cd i hi) (He.out.gd i hi) (Nat.le_add_right tb 3) (Nat.le_trans (He.out.tn i hi).1 (Nat.le_add_right tb 3)) (Nat.le_trans (He.out.tn i hi).2 (Nat.le_add_right tb 3)); have c4 := S.cell_of _ pp (4 + k) _ _ _ hb4 ((get_rm p r k hk2 _).2 _); clear hq3 kn3 hq4 hb4 hl4; generalize wf.setCell ⟨pp, 6 + k, none⟩ (.pointer (some ⟨G, 0, none⟩)) = wg at *
   go_wp2; go_ret; exact ⟨rfl, _, _, HE.out⟩
 ·as_aux_lemma =>
   clear HKD; have HKD : Hid _ := hkd; clear hkd; obtain rfl := HKD.out; obtain ⟨k, hki, hk2⟩ : ∃ k, 1 - i = k /\ k < 2 := ⟨_, rfl, by omega⟩
   have u4 : IntKind.i64.wrap (1 - (i : Int)) = (k : Int) := by rw [show (1 : Int) - (i : Int) = (k : Int) by omega]; exact IntWalk.i64_in _ (by omega)
   have j2 : (k : Int) < 2 := by omega
   have HU : Hid _ := u4; clear u4; have HBe : Hid (Below wa.heap.size wa wa.drew) := ⟨rfl, rfl, rfl, Nat.le_refl _, fun _ _ => rfl⟩
   have He : Hid _ := Hd.out.next HBe.out; have HX : Hid _ := He.out.q.rm i hi; obtain ⟨dp, dc, hdv, hdc, _⟩ := HX.out.d.ex; obtain ⟨rp, rc, hrv, hrc, _⟩ := HX.out.r.ex; have lsD := HX.out.d; have lsR := HX.out.r; rw [hdv] at lsD; rw [hrv] at lsR; have HLS : Hid _ := And.intro lsD lsR; have HDV : Hid _ := And.intro hdv hrv
   have HOB : Hid (∀ q, (Value.ownBlock (.slice dp (r i).v.D.length dc) = some q \/ Value.ownBlock (.slice rp (r i).v.R.length rc) = some q) -> q < wa.drew.heap.size) := by
    intro q e; rw [<- hdv, <- hrv] at e; exact (HX.out.ck q (.inr e)).1
   obtain ⟨nd, hnd⟩ : ∃ n, (r i).v.D.length = n := ⟨_, rfl⟩
   obtain ⟨nr, hnr⟩ : ∃ n, (r i).v.R.length = n := ⟨_, rfl⟩
   rw [hnd] at hdv; rw [hnr] at hrv; have HN : Hid _ := And.intro hnd hnr
   have hS : ∀ X : World, Below wa.heap.size wa X -> (fun wz : World => wz.cell? ⟨pp, 0, none⟩ = some (.slice kp c.code.length kc) /\ wz.cell? ⟨pp, 1, none⟩ = some (.int .u16 (c.entry : Int)) /\ wz.cell? ⟨pp, 2, none⟩ = some (.slice ep c.effs.length ec) /\ wz.cell? ⟨pp, 3, none⟩ = some (.slice bp c.banks.length bc) /\ wz.cell? ⟨(r i).g, 1, none⟩ = some (.int .u16 (r i).v.pc) /\ wz.cell? ⟨(r i).g, 2, none⟩ = some (.int .i64 (r i).v.st) /\ wz.cell? ⟨(r i).g, 3, none⟩ = some (.int .i64 (r i).v.fa) /\ wz.cell? ⟨(r i).g, 4, none⟩ = some (.slice dp nd dc) /\ wz.cell? ⟨(r i).g, 5, none⟩ = some (.slice rp nr rc) /\ wz.cell? ⟨(r i).g, 6, none⟩ = some (.pointer (some ⟨(r i).b, 0, none⟩))) X := fun X hX => by
    have hp := Hd.out.next hX; have hr := hp.q.rm i hi; have c4 := hr.c4; have c5 := hr.c5; rw [hdv] at c4; rw [hrv] at c5; exact ⟨S.cell_of X pp 0 _ _ _ hp.blk rfl, S.cell_of X pp 1 _ _ _ hp.blk rfl, S.cell_of X pp 2 _ _ _ hp.blk rfl, S.cell_of X pp 3 _ _ _ hp.blk rfl, hr.c1, hr.c2, hr.c3, c4, c5, hr.c6⟩
   have HS : Hid _ := hS; have HG : Hid _ := (He.out.e i hi).gd (He.out.gd i hi); have HCL : Hid _ := may_parts He.out.may; have kO := ownCart_any _ c ep ec bp bc _ wa.drew (He.out.hC.below He.out.bel) He.out.en; clear hS hnd hnr hdv hrv hdc hrc lsD lsR; go_upto_region 54 with fail
   refine V.wrh HS.out HBe.out (by kernel_rfl) (fun hHeld => ?_); generalize wa.drew = wd at *
   refine wtk0 (is := [0, 1, 2, 3, 5, 6, 7, 8, 10, 11, 12, 13]) ?_
   iterate 12
    refine V.wt (v := ?_) rfl (by kernel_rfl) (fun c a w h => h) (by rfl) ?_ hHeld ?_
    rotate_left
    ·(intro w hSw; (try dsimp only at hSw); go_simp; try with_reducible rfl)
    simp only [V.pts]
   refine wtkE ?_; refine V.wrd 4 (by kernel_rfl) rfl fun K hK => ?_
   go_simp; refine kO.mono ?_; rintro e q1 ⟨v', ep', ec', bp', bc', kv', rfl, hC', hq1⟩; dsimp only; have HC : Hid _ := hC'; have HQ1 : Hid (Below wa.heap.size wa q1) := HBe.out.trans (hq1.mono HBe.out.size); have HD1 : Hid _ := hq1; clear hC' hq1 kO; refine hK.out _ _ (HS.out q1 HQ1.out) (fun hHeld => ?_); clear hK K; try simp only [V.pts]
   have kS := lstate_any (r i).v.pc (r i).v.st (r i).v.fa dp rp dc rc (r i).v.D (r i).v.R HX.out.dl HX.out.rl q1 (HLS.out.1.below HD1.out) (HLS.out.2.below HD1.out); rw [HN.out.1, HN.out.2] at kS; refine V.wrd 9 (by kernel_rfl) rfl fun K hK => ?_
   go_simp; refine kS.mono ?_; rintro e q2 ⟨sp1, sc1, sp2, sc2, rfl, ow1, ow2, hq2⟩; dsimp only; have HRW : Hid _ := And.intro ow1 ow2; have HQ2 : Hid (Below wa.heap.size wa q2) := HQ1.out.trans (hq2.mono HQ1.out.size); have HD2 : Hid _ := hq2; clear ow1 ow2 hq2 kS; refine hK.out _ _ (HS.out q2 HQ2.out) (fun hHeld => ?_); clear hK K; try simp only [V.pts]
   have kI := M.rimage_any (r i).b q2 ((Hd.out.next HQ2.out).q.rm i hi).mem (by have := (He.out.tn i hi).2; omega); refine V.wrd 14 (by kernel_rfl) rfl fun K hK => ?_
   go_simp; refine kI.mono ?_; rintro e q3 ⟨pb, cb, gr, gc, rfl, hIm, hq3⟩; dsimp only; have HIm : Hid _ := hIm; have HQ3 : Hid (Below wa.heap.size wa q3) := HQ2.out.trans (hq3.mono HQ2.out.size); have HD3 : Hid _ := hq3; clear hIm hq3 kI; unfold M.imgC; refine hK.out _ _ (HS.out q3 HQ3.out) (fun hHeld => ?_); clear hK K; try simp only [V.pts]
   have kM := limage_any pb (some ⟨gr, 0, none⟩) (some ⟨gc, 0, none⟩) (M.inO (r i).v.m 16).length cb 16384 16384 3072 3072 (r i).v.m q3; refine V.wrd 15 (by kernel_rfl) rfl fun K hK => ?_
   go_simp; refine kM.mono ?_; rintro e q4 ⟨rfl, hq4⟩; dsimp only; have HQ4 : Hid (Below wa.heap.size wa q4) := HQ3.out.trans (hq4.mono HQ3.out.size); have HD4 : Hid _ := hq4; clear hq4 kM; refine hK.out _ _ (HS.out q4 HQ4.out) (fun hHeld => ?_); clear hK K; try simp only [V.pts]
   have hw2 : M.Wf (r i).v.m := HX.out.mem.1; have b24 : Below q2.heap.size q2 q4 := HD3.out.trans (HD4.out.mono HD3.out.size); have b14 : Below q1.heap.size q1 q4 := HD2.out.trans (b24.mono HD2.out.size); obtain ⟨_, _, ee1, _, slD⟩ := ((S.own_sl S.hU (l := (r i).v.D) (by rw [HN.out.1]; exact HRW.out.1)).below b24).ex; rw [HN.out.1] at ee1
   cases ee1
   obtain ⟨_, _, ee2, _, slR⟩ := ((S.own_sl S.hK (l := (r i).v.R) (by rw [HN.out.2]; exact HRW.out.2)).below b24).ex; rw [HN.out.2] at ee2
   cases ee2
   have kV := restore_is v' c ep' ec' bp' bc' kv' (r i).v.pc (r i).v.st (r i).v.fa sp1 sp2 sc1 sc2 (r i).v.D (r i).v.R (r i).v.m pb (some ⟨gr, 0, none⟩) (some ⟨gc, 0, none⟩) cb 16384 3072 q4 (HC.out.below b14) He.out.may ⟨HX.out.wf.pc0, HX.out.wf.pc1⟩ HG.out.s (HG.out.may HX.out.dl HX.out.rl) HX.out.wf.d HX.out.wf.r slD slR (HIm.out.bn.below HD4.out) (by rw [hw2.ram]; exact M.Sl.below HIm.out.ram HD4.out) (by rw [hw2.scr]; exact M.Sl.below HIm.out.scr HD4.out) hw2 (same_nums HCL.out.2 HG.out); rw [hw2.ram, hw2.scr, HN.out.1, HN.out.2] at kV; clear hw2 b24 b14 slD slR; refine V.wrd 16 (by kernel_rfl) rfl fun K hK => ?_
   go_simp; refine kV.mono ?_; rintro e q5 ⟨g, bd, br, bm, ku, F, rfl, hx5, hf5, hq5⟩; dsimp only; have H5 : Hid _ := And.intro hx5 (And.intro hf5 hq5); have HQ5 : Hid (Below wa.heap.size wa q5) := HQ4.out.trans (hq5.mono HQ4.out.size); clear hx5 hf5 hq5 kV; refine hK.out _ _ (HS.out q5 HQ5.out) (fun hHeld => ?_); clear hK K; try simp only [V.pts]
   refine wtk0 (is := [17, 18, 19, 20, 21]) ?_
   iterate 5
    refine V.wt (v := ?_) rfl (by kernel_rfl) (fun c a w h => h) (by rfl) ?_ hHeld ?_
    rotate_left
    ·(intro w hSw; (try dsimp only at hSw); go_simp; try with_reducible rfl)
    simp only [V.pts]
   refine wtkE ?_; refine wpAnyH_done (by kernel_rfl) ?_ _; clear hHeld
   have HPQ : Hid (PQ q5 N (mkO (upP p k ⟨g, bd, br, bm, ku, F, ⟨c.code, (r i).v.pc, (r i).v.st, (r i).v.fa, (r i).v.D, (r i).v.R, M.rs (r i).v.m⟩⟩) r)) := by
    rw [<- upd_p p r k hk2]; have f := H5.out.2.1; refine (Hd.out.next HQ4.out).q.fresh k (by omega) _ H5.out.1 H5.out.2.2 (fun j e => ?_) fun j e => .inl ⟨f.k j e, fun q => H5.out.1.code_no j e q⟩
    rcases e with e | e | e | e
    ·rw [e]; exact f.g
    ·rw [e]; exact f.d
    ·rw [e]; exact f.r
    ·exact f.f j e
   have HBf : Hid (Below q5.heap.size q5 q5.drew) := ⟨rfl, rfl, rfl, Nat.le_refl _, fun _ _ => rfl⟩
   have HQ6 : Hid (Below wa.heap.size wa q5.drew) := HQ5.out.trans (HBf.out.mono HQ5.out.size); have kI := M.rimage_any (r i).b q5.drew ((Hd.out.next HQ6.out).q.rm i hi).mem (by have := (He.out.tn i hi).2; omega); go_upto_region 55 with fail
   refine V.wrh HS.out HQ6.out (by kernel_rfl) (fun hHeld => ?_); generalize q5.drew = q6 at *
   refine wtk0 (is := [0, 1, 2, 3, 4, 5, 6, 7, 8, 9, 10, 11]) ?_
   iterate 12
    refine V.wt (v := ?_) rfl (by kernel_rfl) (fun c a w h => h) (by rfl) ?_ hHeld ?_
    rotate_left
    ·(intro w hSw; (try dsimp only at hSw); go_simp; try with_reducible rfl)
    simp only [V.pts]
   refine wtkE ?_; refine V.wrd 12 (by kernel_rfl) rfl fun K hK => ?_
   go_simp; refine kI.mono ?_; rintro e q7 ⟨pb2, cb2, gr2, gc2, rfl, hIm, hq7⟩; dsimp only; have HIm2 : Hid _ := hIm; have HQ7 : Hid (Below wa.heap.size wa q7) := HQ6.out.trans (hq7.mono HQ6.out.size); have HD7 : Hid _ := hq7; clear hIm hq7 kI; unfold M.imgC; refine hK.out _ _ (HS.out q7 HQ7.out) (fun hHeld => ?_); clear hK K; try simp only [V.pts]
   have hw2 : M.Wf (r i).v.m := HX.out.mem.1; have hx7 := (Hd.out.next HQ7.out).q.rm i hi; have lD := hx7.d; have lR := hx7.r
   have ob : ∀ q, (Value.ownBlock (.slice dp (r i).v.D.length dc) = some q \/ Value.ownBlock (.slice rp (r i).v.R.length rc) = some q) -> q < q7.heap.size := by
    intro q e; rw [<- HDV.out.1, <- HDV.out.2] at e; exact (hx7.ck q (.inr e)).1
   rw [HDV.out.1] at lD; rw [HDV.out.2] at lR; have kW := rrest8 _ c ep ec bp bc _ (r i).v.pc (r i).v.st (r i).v.fa dp rp dc rc (r i).v.D (r i).v.R (r i).v.m pb2 (some ⟨gr2, 0, none⟩) (some ⟨gc2, 0, none⟩) cb2 16384 3072 q7 (Hd.out.hC.below (Hd.out.next HQ7.out).bel) HCL.out.1 ⟨HX.out.wf.pc0, HX.out.wf.pc1⟩ HG.out.s HX.out.dl HX.out.rl HG.out.r HX.out.wf.d HX.out.wf.r lD lR ob HIm2.out.bn (by rw [hw2.ram]; exact HIm2.out.ram) (by rw [hw2.scr]; exact HIm2.out.scr) hw2 (same_nums HCL.out.2 HG.out); rw [hw2.ram, hw2.scr, HN.out.1, HN.out.2] at kW; clear hw2 hx7 lD lR ob; refine V.wrd 13 (by kernel_rfl) rfl fun K hK => ?_
   go_simp; refine kW.mono ?_; rintro e q8 ⟨G, B, ku2, dv2, rv2, F2, rfl, hy8, hf8, hk8, hq8⟩; dsimp only; have H8 : Hid _ := And.intro hy8 (And.intro hf8 (And.intro hk8 hq8)); have HQ8 : Hid (Below wa.heap.size wa q8) := HQ7.out.trans (hq8.mono HQ7.out.size); clear hy8 hf8 hk8 hq8 kW; refine hK.out _ _ (HS.out q8 HQ8.out) (fun hHeld => ?_); clear hK K; try simp only [V.pts]
   refine wtk0 (is := [14, 15, 16, 17, 18]) ?_
   iterate 5
    refine V.wt (v := ?_) rfl (by kernel_rfl) (fun c a w h => h) (by rfl) ?_ hHeld ?_
    rotate_left
    ·(intro w hSw; (try dsimp only at hSw); go_simp; try with_reducible rfl)
    simp only [V.pts]
   refine wtkE ?_; refine wpAnyH_done (by kernel_rfl) ?_ _; clear hHeld HS; have hp8 := (HQ8.out.block _ Hd.out.lt).trans Hd.out.blk
   have hq8 : PQ q8 N (mkO (upP p k ⟨g, bd, br, bm, ku, F, ⟨c.code, (r i).v.pc, (r i).v.st, (r i).v.fa, (r i).v.D, (r i).v.R, M.rs (r i).v.m⟩⟩) (upR r k ⟨G, B, ku2, dv2, rv2, F2, ⟨c.code, (r i).v.pc, (r i).v.st, (r i).v.fa, (r i).v.D, (r i).v.R, M.rs (r i).v.m⟩⟩)) := by
    rw [<- upd_r _ r k hk2]; have f := H8.out.2.1; refine ((HPQ.out.next HBf.out).next HD7.out).fresh (k + 2) (by omega) _ H8.out.1 H8.out.2.2.2 (fun j e => ?_) fun j e => .inl ⟨(H8.out.2.2.1 j e).1, fun q => ?_⟩
    ·rcases e with e | e | e | e
     ·rw [e]; exact f.g
     ·exact f.f j e
     ·exact f.d j e
     ·exact f.r j e
    ·have c1 := H8.out.1.ck j (.inl e)
     have c2 := H8.out.2.2.1 j e
     rcases q with q | q | q | q
     ·exact c1.2.1 q
     ·exact c1.2.2 q
     ·exact c2.2.1 q
     ·exact c2.2.2 q
   have lp4 := Nat.lt_of_lt_of_le Hd.out.lt HQ4.out.size; have lp7 := Nat.lt_of_lt_of_le Hd.out.lt HQ7.out.size; have nx : ∀ m, ku.ownBlock = some m -> m ≠ pp := fun m e => by have := H5.out.2.1.k m e; omega
   have ny : ∀ m, ku2.ownBlock = some m -> m ≠ pp := fun m e => by have := (H8.out.2.2.1 m e).1; omega
   have kn8 : ∀ j, j < 2 -> ∀ m, ((upP p k ⟨g, bd, br, bm, ku, F, ⟨c.code, (r i).v.pc, (r i).v.st, (r i).v.fa, (r i).v.D, (r i).v.R, M.rs (r i).v.m⟩⟩ j).kv.ownBlock = some m \/ (upR r k ⟨G, B, ku2, dv2, rv2, F2, ⟨c.code, (r i).v.pc, (r i).v.st, (r i).v.fa, (r i).v.D, (r i).v.R, M.rs (r i).v.m⟩⟩ j).kv.ownBlock = some m) -> m ≠ pp := fun j hj m e => by
    unfold upP upR at e
    by_cases q : j = k
    ·rw [if_pos q, if_pos q] at e; exact e.elim (nx m) (ny m)
    ·rw [if_neg q, if_neg q] at e; exact He.out.kn j hj m e
   have H9 : Hid _ := And.intro hq8 (And.intro hp8 (And.intro kn8 (And.intro nx ny))); have hcu := S.cell_of q8 pp (4 + k) _ _ _ hp8 (get_pm p r k hk2); have hcf := S.frozen_of q8 pp (4 + k) _ _ hp8; have u4 := HU.out; clear hp8 hq8 lp4 lp7 kn8 nx ny; go_upto_region 57 with fail
   have hb9 := S.setCell_heap q8 pp (4 + k) _ _ (.pointer (some ⟨g, 0, none⟩)) H9.out.2.1; have hq9 := H9.out.1.pair Hd.out.pn H9.out.2.2.1 (4 + k) (.pointer (some ⟨g, 0, none⟩)); have hl9 : Below w0.heap.size w0 (q8.setCell ⟨pp, 4 + k, none⟩ (.pointer (some ⟨g, 0, none⟩))) := (Hd.out.next HQ8.out).bel.setCell Hd.out.n0 _; clear hcu hcf; generalize q8.setCell ⟨pp, 4 + k, none⟩ (.pointer (some ⟨g, 0, none⟩)) = q9 at *
   have hcu := S.cell_of q9 pp (6 + k) _ _ _ hb9 (get_rm p r k hk2 _).1; have hcf := S.frozen_of q9 pp (6 + k) _ _ hb9; have H10 : Hid _ := And.intro hb9 (And.intro hq9 hl9); clear hb9 hq9 hl9; go_upto_region 58 with fail
   have HE : Hid _ := He.out.put k hk2 (H10.out.2.1.pair Hd.out.pn H9.out.2.2.1 (6 + k) (.pointer (some ⟨G, 0, none⟩))) (S.setCell_heap q9 pp (6 + k) _ _ (.pointer (some ⟨G, 0, none⟩)) H10.out.1) (H10.out.2.2.setCell Hd.out.n0 _) (fun m e => e.elim (H9.out.2.2.2.1 m) (H9.out.2.2.2.2 m)) (Em.refl _) rfl ⟨HG.out.r, HG.out.s, HG.out.n⟩ (Nat.le_add_right tb 3) (Nat.zero_le _) (Nat.zero_le _); clear hcu hcf; generalize q9.setCell ⟨pp, 6 + k, none⟩ (.pointer (some ⟨G, 0, none⟩)) = q10 at *
   go_wp2; go_ret; exact ⟨rfl, _, _, HE.out⟩
 ·as_aux_lemma =>
   clear HKD; have HKD : Hid _ := hkd; clear hkd; obtain ⟨a1, a2, a3, a4, a5, a6, a7, a8⟩ := HKD.out; go_wp2; go_ret; exact ⟨rfl, _, _, Hd.out.up (by omega)⟩
end Go.Proofs.YteldjmecomngeaaGreat.V
