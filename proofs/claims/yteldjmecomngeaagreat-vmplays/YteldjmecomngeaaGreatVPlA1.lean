import Derived.Test.YteldjmecomngeaaGreatVRSmS
import Derived.Test.YteldjmecomngeaaGreatMRImage
import Derived.Test.YteldjmecomngeaaGreatVPlP
namespace Go.Proofs.YteldjmecomngeaaGreat.V
open Go.RowKit
open Go.Proofs
set_option linter.unusedVariables false
set_option linter.unusedSimpArgs false
set_option maxHeartbeats 40000000
set_option maxRecDepth 100000
theorem plays_lo (w0 : World) (N : Nat -> Prop) (pp : Nat) (c : T.Ct) (kp : Option Addr) (kc : Nat) (ep : Option Addr) (ec : Nat) (bp : Option Addr) (bc : Nat) (tb : Nat) (h6 : 60000 <= tb) (ht : tb <= 70000) (p : Nat -> PM) (r : Nat -> RM) (W : World) (h : PI w0 W N pp c kp kc ep ec bp bc tb p r) (kd wh bn_ at_ : Int) (pad bx : UInt8) (ha : C.C at_) (hkd : kd = 1 \/ kd = 2 \/ kd = 3 \/ kd = 4) :
  Calls Tryz.prog 31 #[.pointer (some ⟨pp, 0, none⟩), .agg #[.int .i64 kd, .int .i64 wh, .int .u8 (M.bt pad), .int .i64 bn_, .int .u16 at_, .int .u8 (M.bt bx)]] W fun e W' => e = .returned (.bool true) /\ ∃ p' r', PI w0 W' N pp c kp kc ep ec bp bc (tb + 3) p' r' := by
 have HKD : Hid _ := hkd
 clear hkd
 obtain ⟨W0, hW0⟩ : ∃ y, W.alloc (.cells #[.int .i64 kd, .int .i64 wh, .int .u8 (M.bt pad), .int .i64 bn_, .int .u16 at_, .int .u8 (M.bt bx)] 90) = y := ⟨_, rfl⟩
 have b0 : Below W.heap.size W W0 := by rw [<- hW0]; exact P.bel_alloc W _
 have n0 : W0.heap[W.heap.size]? = some (.cells [.int .i64 kd, .int .i64 wh, .int .u8 (M.bt pad), .int .i64 bn_, .int .u16 at_, .int .u8 (M.bt bx)].toArray 90 (0, 0)) := by rw [<- hW0]; exact heap_alloc_new W _
 obtain ⟨t1, ht1⟩ : ∃ t, wh.tmod 2 = t := ⟨_, rfl⟩
 have r1 := tm_r wh 2 (by decide)
 rw [ht1] at r1
 obtain ⟨i, hi2, hi⟩ : ∃ i : Nat, (t1 + 2).tmod 2 = (i : Int) /\ i < 2 := by
  have h1 := Int.tmod_nonneg 2 (show 0 <= t1 + 2 by omega); have h2 := Int.tmod_lt_of_pos (t1 + 2) (show (0 : Int) < 2 by decide); exact ⟨((t1 + 2).tmod 2).toNat, by omega, by omega⟩
 have u1 : IntKind.i64.wrap t1 = t1 := IntWalk.i64_in _ (by omega)
 have u2 : IntKind.i64.wrap (t1 + 2) = t1 + 2 := IntWalk.i64_in _ (by omega)
 have u3 : IntKind.i64.wrap (i : Int) = (i : Int) := IntWalk.i64_in _ (by omega)
 have c1 := S.cell_of W0 _ 1 _ _ _ n0 rfl
 have H : Hid _ := h.next b0
 have HN0 : Hid _ := And.intro n0 b0
 have HW0 : Hid _ := hW0
 have HLT : Hid (∀ q, q < 4 -> ∀ k, W.heap.size <= k -> ¬ (mkO p r q).S k) := fun q hq k hk => h.q.not q hq k hk
 have HBX : Hid (∀ i, i < 2 -> (¬ TV (p i).g (p i).bd (p i).br (p i).F W.heap.size) /\ ¬ (r i).F W.heap.size) := fun i hi => ⟨fun e => Nat.lt_irrefl _ ((h.q.pm i hi).tv_lt _ e), fun e => Nat.lt_irrefl _ ((h.q.rm i hi).fb _ e)⟩
 clear h b0 n0 hW0
 go_enter Tryz.func31, Tryz.ntmps31
 go_upto_region 1 with fail
 try rw [HW0.out]
 go_upto_region 2 with fail
 clear u1 u2 u3 c1 ht1 r1 hi2
 have j1 : (i : Int) < 2 := by omega
 have HBd : Hid (Below W0.heap.size W0 W0.drew) := ⟨rfl, rfl, rfl, Nat.le_refl _, fun _ _ => rfl⟩
 have hS : ∀ X : World, Below W0.heap.size W0 X -> (fun wz : World => wz.cell? ⟨pp, 4 + i, none⟩ = some (.pointer (some ⟨(p i).g, 0, none⟩)) /\ wz.cell? ⟨pp, 6 + i, none⟩ = some (.pointer (some ⟨(r i).g, 0, none⟩))) X := fun X hX => ⟨(H.out.next hX).cm i hi, (H.out.next hX).cr i hi⟩
 have HS : Hid _ := hS
 clear hS
 refine V.wrh HS.out HBd.out (by kernel_rfl) (fun hHeld => ?_)
 have Hd : Hid _ := H.out.next HBd.out
 generalize W0.drew = wa at *
 refine wtk0 (is := [0, 1, 2, 3, 4, 5, 6, 7, 8, 9, 10, 11, 12, 13]) ?_
 iterate 14
  refine V.wt (v := ?_) rfl (by kernel_rfl) (fun c a w h => h) (by rfl) ?_ hHeld ?_
  rotate_left
  ·(intro w hSw; (try dsimp only at hSw); go_simp; try with_reducible rfl)
  simp only [V.pts]
 refine wtkE ?_
 refine wpAnyH_done (by kernel_rfl) ?_ _
 clear hHeld HS H
 have na := (HBd.out.block _ (S.lt_of HN0.out.1)).trans HN0.out.1
 have k0 := S.cell_of wa _ 0 _ _ _ na rfl
 have HNA : Hid _ := na
 clear na
 go_upto_region 4 with fail
 clear k0
 rcases HKD.out with hkd | hkd | hkd | hkd
 ·as_aux_lemma =>
   clear HKD; have HKD : Hid _ := hkd; clear hkd; obtain rfl := HKD.out; have k2 := S.cell_of wa _ 2 _ _ _ HNA.out rfl; have k3 := S.cell_of wa _ 3 _ _ _ HNA.out rfl; obtain ⟨nO, hnO⟩ : ∃ n, W.heap.size = n := ⟨_, rfl⟩
   rw [hnO] at HLT HNA k2 k3 ⊢; have HW0s : Hid (nO <= W0.heap.size) := by rw [<- hnO]; exact HN0.out.2.size
   clear HN0 hnO; have HOS : Hid (nO < wa.heap.size) := S.lt_of HNA.out
   by_cases hB : 4 <= bn_ /\ bn_ <= 16384
   ·obtain ⟨R, hR⟩ : ∃ R, frame (p i).v (M.bt pad) bn_ = R := ⟨_, rfl⟩
    have kR := rframe_any pad bn_ hB.1 hB.2 _ _ _ _ _ _ (r i).v wa (Hd.out.q.rm i hi) R (by rw [(Hd.out.e i hi).frame]; exact hR); obtain ⟨n1, hn1⟩ : ∃ n, R.v.m.scr.length = n := ⟨_, rfl⟩
    obtain ⟨n2, hn2⟩ : ∃ n, R.v.m.tones.length = n := ⟨_, rfl⟩
    have hn2' : n2 <= 60000 := by rw [<- hn2, <- hR]; exact frame_tones _ _ _ hB.2
    rw [hn1, hn2] at kR; have HRN : Hid _ := And.intro hR (And.intro hn1 hn2); clear hR hn1 hn2; go_wp2_with fail
    refine kR.mono ?_; rintro e w1 ⟨p1, c1, p2, c2, z, hz, rfl, ho1, ho2, hY⟩; have HZ : Hid _ := hz; obtain ⟨dv, rv, F2, hq1⟩ := Hd.out.q.ref i hi hY
    have b01 : Kp N wa w1 := PI.tcN Hd.out.q (i + 2) (by omega) (by
     have e : mkO p r (i + 2) = (r i).o := by unfold mkO; rw [if_neg (by omega), show i + 2 - 2 = i by omega]
     rw [e]; have t := hY.t; exact ⟨t.os, t.tape, t.output, t.size, fun j hj hn => t.block j hj fun f => hn (f.elim .inl fun f => .inr (.inl f))⟩)
    have hO1 : w1.heap[nO]? = _ := (hY.t.block nO HOS.out (fun f => HLT.out (i + 2) (by omega) nO (Nat.le_refl _) (by
     have e : mkO p r (i + 2) = (r i).o := by unfold mkO; rw [if_neg (by omega), show i + 2 - 2 = i by omega]
     rw [e]; exact f.elim .inl fun f => .inr (.inl f)))).trans HNA.out
    obtain ⟨z2, r2, b2⟩ := mkRow w1 #[.int .i64 0, .int .i64 0, .int .i64 0, .int .i64 0, .int .i64 0, .slice none 0 0, .slice none 0 0] #[.int .i64 R.v.st, .int .i64 R.v.fa, .int .i64 R.steps, .int .i64 R.spent, .int .i64 (bn_ - R.spent), .slice p1 n1 c1, .slice p2 n2 c2] 160; have sz1 := hY.t.size; have hO2 := (b2.block nO (S.lt_of hO1)).trans hO1; have hq2 := hq1.next b2; have kP := frame_lo pad bn_ hB.1 hB.2 _ _ _ _ _ _ (p i).v _ (hq2.pm i hi); have k2' := S.cell_of _ _ 2 _ _ _ hO2 rfl; have k3' := S.cell_of _ _ 3 _ _ _ hO2 rfl; have eR : frame (p i).v ((pad.toNat : Int)) bn_ = R := HRN.out.1; rw [eR] at kP; unfold OutV at kP; rw [HRN.out.2.1, HRN.out.2.2] at kP; have H1 : Hid _ := And.intro ho1 (And.intro ho2 (And.intro (And.intro b01 sz1) (And.intro hO2 (And.intro hq2 (And.intro r2 b2))))); clear ho1 ho2 hY hq1 b01 hO1 r2 b2 sz1 hO2 hq2 kR hz k2 k3 eR; go_wp2_with (refine wpList_store_row rfl 160 _ _ rfl w1.heap.size _ rfl rfl 160 #[.int .i64 0, .int .i64 0, .int .i64 0, .int .i64 0, .int .i64 0, .slice none 0 0, .slice none 0 0] z2 (by exact sizeOt) (by rfl) (by simp [Value.oneCell']) ?_)
    clear z2; generalize (w1.alloc (.cells #[.int .i64 0, .int .i64 0, .int .i64 0, .int .i64 0, .int .i64 0, .slice none 0 0, .slice none 0 0] 160)).setRow w1.heap.size #[.int .i64 R.v.st, .int .i64 R.v.fa, .int .i64 R.steps, .int .i64 R.spent, .int .i64 (bn_ - R.spent), .slice p1 n1 c1, .slice p2 n2 c2] = w2 at *
    obtain ⟨nA, hnA⟩ : ∃ n, w1.heap.size = n := ⟨_, rfl⟩
    rw [hnA] at H1 ⊢; clear k2' k3'; refine kP.mono ?_; rintro e w3 ⟨q1, d1, q2, d2, rfl, lo, ro1, ro2, hL⟩; clear kP; have H3s : Hid (wa.heap.size <= lo) := by have e1 := H1.out.2.2.1.2; have e2 := H1.out.2.2.2.2.2.2.size; have e3 := hL.l0; show wa.heap.size <= lo; omega
    have HnA : Hid _ := hnA; clear hnA; obtain ⟨ho1, ho2, ⟨b01, sz1⟩, hO2, hq2, r2, b2⟩ := H1.out; clear H1; rw [<- HnA.out] at b2; have hnA := HnA.out; obtain ⟨hq3, hlo⟩ := hq2.progL i hi hL; have sz2 := b2.size; have sz3 := hL.t.size
    have nS : ∀ k, nO <= k -> ¬ TV (p i).g (p i).bd (p i).br (p i).F k := fun k hk => by
     have := HLT.out i (by omega) k hk; unfold mkO at this; rw [if_pos hi] at this; exact this
    have os := HOS.out; have b23 : Kp N w2 w3 := PI.tcN hq2 i (by omega) (by unfold mkO; rw [if_pos hi]; exact hL.t); have r3 := (hL.t.block nA (S.lt_of r2) (nS nA (by omega))).trans r2; have ho1' : M.Row w3 wa.heap.size (.slice p1 n1 c1) R.v.m.scr := (ho1.below b2).kept fun g e hg => hL.t.block g hg (nS g (by have := (ho1.lt g e).1; omega))
    have ho2' : M.TRow w3 wa.heap.size (.slice p2 n2 c2) R.v.m.tones := M.own_kept (M.own_kept ho2 fun g e hg => b2.block g hg) fun g e hg => hL.t.block g hg (nS g (by have := (World.ownsRow.lt ho2 g e).1; omega))
    obtain ⟨z4, r4, b4⟩ := mkRow w3 #[.int .i64 0, .int .i64 0, .int .i64 0, .int .i64 0, .int .i64 0, .slice none 0 0, .slice none 0 0] #[.int .i64 R.v.st, .int .i64 R.v.fa, .int .i64 R.steps, .int .i64 R.spent, .int .i64 (bn_ - R.spent), .slice q1 n1 d1, .slice q2 n2 d2] 39; have rA := (b4.block nA (S.lt_of r3)).trans r3; have bN : Kp N wa ((w3.alloc (.cells #[.int .i64 0, .int .i64 0, .int .i64 0, .int .i64 0, .int .i64 0, .slice none 0 0, .slice none 0 0] 39)).setRow w3.heap.size #[.int .i64 R.v.st, .int .i64 R.v.fa, .int .i64 R.steps, .int .i64 R.spent, .int .i64 (bn_ - R.spent), .slice q1 n1 d1, .slice q2 n2 d2]) := ((b01.trans (Kp.of b2 fun k f => Nat.lt_of_lt_of_le (Hd.out.q.nN k f) b01.size)).trans b23).trans (Kp.of b4 fun k f => hq3.nN k f); have kS := sameOut8 R.v.st R.v.fa R.steps R.spent (bn_ - R.spent) R.v.m.scr R.v.m.tones (by rw [HRN.out.2.2]; omega) p1 p2 q1 q2 c1 c2 d1 d2 _ _ _ (by rw [HRN.out.2.1]; exact M.Row.sl (ho1'.below b4)) (by rw [HRN.out.2.2]; exact M.own_kept ho2' fun g e hg => b4.block g hg) (by rw [HRN.out.2.1]; exact M.Row.sl (M.Row.below ro1 b4)) (by rw [HRN.out.2.2]; exact M.own_kept ro2 fun g e hg => b4.block g hg)
    rw [HRN.out.2.1, HRN.out.2.2] at kS; have a0 := S.cell_of _ nA 0 [.int .i64 R.v.st, .int .i64 R.v.fa, .int .i64 R.steps, .int .i64 R.spent, .int .i64 (bn_ - R.spent), .slice p1 n1 c1, .slice p2 n2 c2] _ _ rA rfl; have a1 := S.cell_of _ nA 1 [.int .i64 R.v.st, .int .i64 R.v.fa, .int .i64 R.steps, .int .i64 R.spent, .int .i64 (bn_ - R.spent), .slice p1 n1 c1, .slice p2 n2 c2] _ _ rA rfl; have a2 := S.cell_of _ nA 2 [.int .i64 R.v.st, .int .i64 R.v.fa, .int .i64 R.steps, .int .i64 R.spent, .int .i64 (bn_ - R.spent), .slice p1 n1 c1, .slice p2 n2 c2] _ _ rA rfl; have a3 := S.cell_of _ nA 3 [.int .i64 R.v.st, .int .i64 R.v.fa, .int .i64 R.steps, .int .i64 R.spent, .int .i64 (bn_ - R.spent), .slice p1 n1 c1, .slice p2 n2 c2] _ _ rA rfl; have a4 := S.cell_of _ nA 4 [.int .i64 R.v.st, .int .i64 R.v.fa, .int .i64 R.steps, .int .i64 R.spent, .int .i64 (bn_ - R.spent), .slice p1 n1 c1, .slice p2 n2 c2] _ _ rA rfl
    have a5 := S.cell_of _ nA 5 [.int .i64 R.v.st, .int .i64 R.v.fa, .int .i64 R.steps, .int .i64 R.spent, .int .i64 (bn_ - R.spent), .slice p1 n1 c1, .slice p2 n2 c2] _ _ rA rfl; have a6 := S.cell_of _ nA 6 [.int .i64 R.v.st, .int .i64 R.v.fa, .int .i64 R.steps, .int .i64 R.spent, .int .i64 (bn_ - R.spent), .slice p1 n1 c1, .slice p2 n2 c2] _ _ rA rfl; have b0' := S.cell_of _ w3.heap.size 0 [.int .i64 R.v.st, .int .i64 R.v.fa, .int .i64 R.steps, .int .i64 R.spent, .int .i64 (bn_ - R.spent), .slice q1 n1 d1, .slice q2 n2 d2] _ _ r4 rfl; have b1' := S.cell_of _ w3.heap.size 1 [.int .i64 R.v.st, .int .i64 R.v.fa, .int .i64 R.steps, .int .i64 R.spent, .int .i64 (bn_ - R.spent), .slice q1 n1 d1, .slice q2 n2 d2] _ _ r4 rfl; have b2' := S.cell_of _ w3.heap.size 2 [.int .i64 R.v.st, .int .i64 R.v.fa, .int .i64 R.steps, .int .i64 R.spent, .int .i64 (bn_ - R.spent), .slice q1 n1 d1, .slice q2 n2 d2] _ _ r4 rfl
    have b3' := S.cell_of _ w3.heap.size 3 [.int .i64 R.v.st, .int .i64 R.v.fa, .int .i64 R.steps, .int .i64 R.spent, .int .i64 (bn_ - R.spent), .slice q1 n1 d1, .slice q2 n2 d2] _ _ r4 rfl; have b4' := S.cell_of _ w3.heap.size 4 [.int .i64 R.v.st, .int .i64 R.v.fa, .int .i64 R.steps, .int .i64 R.spent, .int .i64 (bn_ - R.spent), .slice q1 n1 d1, .slice q2 n2 d2] _ _ r4 rfl; have b5' := S.cell_of _ w3.heap.size 5 [.int .i64 R.v.st, .int .i64 R.v.fa, .int .i64 R.steps, .int .i64 R.spent, .int .i64 (bn_ - R.spent), .slice q1 n1 d1, .slice q2 n2 d2] _ _ r4 rfl; have b6' := S.cell_of _ w3.heap.size 6 [.int .i64 R.v.st, .int .i64 R.v.fa, .int .i64 R.steps, .int .i64 R.spent, .int .i64 (bn_ - R.spent), .slice q1 n1 d1, .slice q2 n2 d2] _ _ r4 rfl; have hpd := hL.s.wf; have H2 : Hid _ := And.intro (And.intro hq3 hlo) (And.intro bN (And.intro r4 (And.intro b4 (And.intro ro1 (And.intro ro2 (And.intro hL.l0 hL.l1))))))
    clear hq3 hlo bN r4 b4 ro1 ro2 hL ho1 ho2 ho1' ho2' b01 sz1 hO2 hq2 r2 b2 sz2 sz3 nS os b23 r3 rA hpd hnA; go_wp2_with (refine wpList_store_row rfl 39 _ _ rfl w3.heap.size _ rfl rfl 39 #[.int .i64 0, .int .i64 0, .int .i64 0, .int .i64 0, .int .i64 0, .slice none 0 0, .slice none 0 0] z4 (by exact size39) (by rfl) (by simp [Value.oneCell']) ?_)
    clear z4; generalize (w3.alloc (.cells #[.int .i64 0, .int .i64 0, .int .i64 0, .int .i64 0, .int .i64 0, .slice none 0 0, .slice none 0 0] 39)).setRow w3.heap.size #[.int .i64 R.v.st, .int .i64 R.v.fa, .int .i64 R.steps, .int .i64 R.spent, .int .i64 (bn_ - R.spent), .slice q1 n1 d1, .slice q2 n2 d2] = w4 at *
    obtain ⟨nB, hnB⟩ : ∃ n, w3.heap.size = n := ⟨_, rfl⟩
    rw [hnB] at H2 b0' b1' b2' b3' b4' b5' b6' ⊢; refine kS.mono ?_; rintro e W5 ⟨rfl, hb5⟩; clear kS a0 a1 a2 a3 a4 a5 a6 b0' b1' b2' b3' b4' b5' b6'; obtain ⟨⟨hq3, hlo⟩, bN, r4, b4, ro1, ro2, l0, l1⟩ := H2.out; rw [<- hnB] at b4; have l2 : lo <= w4.heap.size := by have := b4.size; omega
    have o5 := (hb5.block nB (S.lt_of r4)).trans r4; have c5 := S.cell_of _ nB 5 [.int .i64 R.v.st, .int .i64 R.v.fa, .int .i64 R.steps, .int .i64 R.spent, .int .i64 (bn_ - R.spent), .slice q1 n1 d1, .slice q2 n2 d2] _ _ o5 rfl; have c6 := S.cell_of _ nB 6 [.int .i64 R.v.st, .int .i64 R.v.fa, .int .i64 R.steps, .int .i64 R.spent, .int .i64 (bn_ - R.spent), .slice q1 n1 d1, .slice q2 n2 d2] _ _ o5 rfl
    have HSI : Hid (SI 39 5 66 1 3 W5 W5 lo nB [.int .i64 R.v.st, .int .i64 R.v.fa, .int .i64 R.steps, .int .i64 R.spent, .int .i64 (bn_ - R.spent), .slice q1 n1 d1, .slice q2 n2 d2] (.slice q1 n1 d1) (.slice q2 n2 d2) n1 n2) := by
     have e1 := M.Row.below (M.Row.below ro1 b4) hb5; have e2 := M.own_kept (M.own_kept ro2 fun g e hg => b4.block g hg) fun g e hg => hb5.block g hg
     unfold M.Row at e1; rw [HRN.out.2.1] at e1; rw [HRN.out.2.2] at e2; exact ⟨Below.refl _ _, by omega, o5, ⟨_, e1⟩, ⟨_, e2⟩⟩
    have HPI : Hid (∀ wr, Below lo W5 wr -> PI w0 wr N pp c kp kc ep ec bp bc (tb + 3) (upP p i { p i with F := fun k => (p i).F k \/ (w2.heap.size <= k /\ k < lo), v := R.v }) (upR r i { r i with dv := dv, rv := rv, F := F2, v := cyc z R.v })) := by
     intro wr hwr; have hq4 := (((hq3.next b4).next hb5).nextL lo hlo hwr)
     have hN : ∀ k, N k -> k < lo := fun k f => Nat.lt_of_lt_of_le (Hd.out.q.nN k f) H3s.out
     have hbN : Kp N wa wr := (bN.trans (Kp.of hb5 fun k f => Nat.lt_of_lt_of_le (hN k f) l2)).trans (Kp.of hwr hN); exact Hd.out.both i hi hq4 hbN rfl rfl rfl rfl (Em.cyc HZ.out) (by rw [<- HRN.out.1]; exact frame_code _ _ _) (by rw [<- HRN.out.1]; exact frame_gd _ _ (Hd.out.gd i hi)) (by omega) (by show R.v.m.tones.length <= tb + 3; rw [HRN.out.2.2]; omega) (by show R.v.m.tones.length <= tb + 3; rw [HRN.out.2.2]; omega)
    clear hq3 hlo bN r4 b4 ro1 ro2 l0 l1 l2 hb5 o5 H2 hnB; go_wp2
    go_loopw [80] (fun x wr => ∃ k : Nat, k <= n1 /\ x = .int .i64 (k : Int) /\ SI 39 5 66 1 3 W5 wr lo nB [.int .i64 R.v.st, .int .i64 R.v.fa, .int .i64 R.steps, .int .i64 R.spent, .int .i64 (bn_ - R.spent), .slice q1 n1 d1, .slice q2 n2 d2] (.slice q1 n1 d1) (.slice q2 n2 d2) n1 n2) (fun x _ => n1 - (intOf x).toNat)
    case atStart => exact ⟨0, by omega, rfl, HSI.out⟩
    case round =>
     obtain ⟨k, hk, rfl, hI⟩ := hrel; clear c5 c6
     by_cases hlt : k < n1
     ·obtain ⟨g1, e1, he1⟩ := hI.pos1 (by omega)
      simp only [Value.slice.injEq] at he1; obtain ⟨rfl, _, rfl⟩ := he1; have i1 : (k : Int) < n1 := by omega
      obtain ⟨⟨u, hu⟩, hf⟩ := row_at hI.r1 k (by omega); have c5 := S.cell_of wr _ 5 _ _ _ hI.o rfl; have HI : Hid _ := hI.set1 (by decide) (by decide) k (.int .u8 51); have mx := hI.m1; have w1' : wrap64 ((k : Int) + 1) = ((k + 1 : Nat) : Int) := by simp [wrap64]; omega
      clear hI mx; go_wp2; go_roundw
      case rel =>
       first
        | exact ⟨k + 1, hlt, (by first | rfl | rw [w1']), HI.out⟩
        | ((repeat apply Exists.intro); refine ⟨⟨k + 1, hlt, ?_, HI.out⟩, rfl⟩; first | rfl | rw [w1'])
      case measure => exact msr2 _ _ _ k (by first | rfl | rw [w1']) rfl hlt
     ·obtain rfl : n1 = k := by omega
      have c6 := S.cell_of wr _ 6 _ _ _ hI.o rfl; have HI : Hid _ := hI; clear hI; go_wp2; obtain ⟨Wl, hWl⟩ : ∃ W, wr = W := ⟨_, rfl⟩
      go_loopw [91] (fun x wr => ∃ k : Nat, k <= n2 /\ x = .int .i64 (k : Int) /\ SI 39 5 66 1 3 W5 wr lo nB [.int .i64 R.v.st, .int .i64 R.v.fa, .int .i64 R.steps, .int .i64 R.spent, .int .i64 (bn_ - R.spent), .slice q1 n1 d1, .slice q2 n2 d2] (.slice q1 n1 d1) (.slice q2 n2 d2) n1 n2) (fun x _ => n2 - (intOf x).toNat)
      case atStart => exact ⟨0, by omega, rfl, HI.out⟩
      case round =>
       obtain ⟨k, hk, rfl, hI⟩ := hrel; clear c6
       by_cases hlt : k < n2
       ·obtain ⟨g1, e1, he1⟩ := hI.pos2 (by omega)
        simp only [Value.slice.injEq] at he1; obtain ⟨rfl, _, rfl⟩ := he1; have i1 : (k : Int) < n2 := by omega
        obtain ⟨⟨u, hu⟩, hf⟩ := row_at hI.r2 (k * 3 + 1) (by omega); have c6 := S.cell_of wr _ 6 _ _ _ hI.o rfl; have HI2 : Hid _ := hI.set2 (by decide) (by decide) (k * 3 + 1) (.int .u16 3); have w1' : wrap64 ((k : Int) + 1) = ((k + 1 : Nat) : Int) := by simp [wrap64]; omega
        clear hI; go_wp2; go_roundw
        case rel =>
         first
          | exact ⟨k + 1, hlt, (by first | rfl | rw [w1']), HI2.out⟩
          | ((repeat apply Exists.intro); refine ⟨⟨k + 1, hlt, ?_, HI2.out⟩, rfl⟩; first | rfl | rw [w1'])
        case measure => exact msr2 _ _ _ k (by first | rfl | rw [w1']) rfl hlt
       ·obtain rfl : n2 = k := by omega
        have HB : Hid _ := hI.b; clear hI; go_wp2; go_ret; exact ⟨rfl, _, _, HPI.out _ HB.out⟩
   ·have hB' : bn_ < 4 \/ 16384 < bn_ := by omega
    have kR := rframe_no (M.bt pad) bn_ hB' (r i).g wa; go_wp2_with fail
    refine kR.mono ?_; rintro e w1 ⟨rfl, hb1⟩; obtain ⟨z2, r2, b2⟩ := mkRow w1 #[.int .i64 0, .int .i64 0, .int .i64 0, .int .i64 0, .int .i64 0, .slice none 0 0, .slice none 0 0] #[.int .i64 0, .int .i64 0, .int .i64 0, .int .i64 0, .int .i64 0, .slice none 0 0, .slice none 0 0] 160; have hO2 := (b2.block nO (Nat.lt_of_lt_of_le HOS.out hb1.size)).trans ((hb1.block nO HOS.out).trans HNA.out); have k2' := S.cell_of _ _ 2 _ _ _ hO2 rfl; have k3' := S.cell_of _ _ 3 _ _ _ hO2 rfl; have H1 : Hid _ := And.intro r2 (trB hb1 b2 hb1.size); clear r2 b2 hb1 hO2 kR k2 k3; go_wp2_with (refine wpList_store_row rfl 160 _ _ rfl w1.heap.size _ rfl rfl 160 #[.int .i64 0, .int .i64 0, .int .i64 0, .int .i64 0, .int .i64 0, .slice none 0 0, .slice none 0 0] z2 (by exact sizeOt) (by rfl) (by simp [Value.oneCell']) ?_)
    clear z2; generalize (w1.alloc (.cells #[.int .i64 0, .int .i64 0, .int .i64 0, .int .i64 0, .int .i64 0, .slice none 0 0, .slice none 0 0] 160)).setRow w1.heap.size #[.int .i64 0, .int .i64 0, .int .i64 0, .int .i64 0, .int .i64 0, .slice none 0 0, .slice none 0 0] = w2 at *
    obtain ⟨nA, hnA⟩ : ∃ n, w1.heap.size = n := ⟨_, rfl⟩
    rw [hnA] at H1 ⊢; clear k2' k3' hnA; refine (frame_no (M.bt pad) bn_ hB' (p i).g w2).mono ?_; rintro e w3 ⟨rfl, hb3⟩; obtain ⟨z4, r4, b4⟩ := mkRow w3 #[.int .i64 0, .int .i64 0, .int .i64 0, .int .i64 0, .int .i64 0, .slice none 0 0, .slice none 0 0] #[.int .i64 0, .int .i64 0, .int .i64 0, .int .i64 0, .int .i64 0, .slice none 0 0, .slice none 0 0] 39; have rA := (b4.block nA (Nat.lt_of_lt_of_le (S.lt_of H1.out.1) hb3.size)).trans ((hb3.block nA (S.lt_of H1.out.1)).trans H1.out.1); have kS := fun w => sameOut8 0 0 0 0 0 [] [] (by simp) none none none none 0 0 0 0 w 0 0 (.inl ⟨rfl, rfl⟩) (World.ownsRow_nil _ _ _ _) (.inl ⟨rfl, rfl⟩) (World.ownsRow_nil _ _ _ _)
    simp only [List.length_nil] at kS; have a0 := S.cell_of _ nA 0 [.int .i64 0, .int .i64 0, .int .i64 0, .int .i64 0, .int .i64 0, .slice none 0 0, .slice none 0 0] _ _ rA rfl; have a1 := S.cell_of _ nA 1 [.int .i64 0, .int .i64 0, .int .i64 0, .int .i64 0, .int .i64 0, .slice none 0 0, .slice none 0 0] _ _ rA rfl; have a2 := S.cell_of _ nA 2 [.int .i64 0, .int .i64 0, .int .i64 0, .int .i64 0, .int .i64 0, .slice none 0 0, .slice none 0 0] _ _ rA rfl; have a3 := S.cell_of _ nA 3 [.int .i64 0, .int .i64 0, .int .i64 0, .int .i64 0, .int .i64 0, .slice none 0 0, .slice none 0 0] _ _ rA rfl; have a4 := S.cell_of _ nA 4 [.int .i64 0, .int .i64 0, .int .i64 0, .int .i64 0, .int .i64 0, .slice none 0 0, .slice none 0 0] _ _ rA rfl; have a5 := S.cell_of _ nA 5 [.int .i64 0, .int .i64 0, .int .i64 0, .int .i64 0, .int .i64 0, .slice none 0 0, .slice none 0 0] _ _ rA rfl; have a6 := S.cell_of _ nA 6 [.int .i64 0, .int .i64 0, .int .i64 0, .int .i64 0, .int .i64 0, .slice none 0 0, .slice none 0 0] _ _ rA rfl
    have b0' := S.cell_of _ w3.heap.size 0 [.int .i64 0, .int .i64 0, .int .i64 0, .int .i64 0, .int .i64 0, .slice none 0 0, .slice none 0 0] _ _ r4 rfl; have b1' := S.cell_of _ w3.heap.size 1 [.int .i64 0, .int .i64 0, .int .i64 0, .int .i64 0, .int .i64 0, .slice none 0 0, .slice none 0 0] _ _ r4 rfl; have b2' := S.cell_of _ w3.heap.size 2 [.int .i64 0, .int .i64 0, .int .i64 0, .int .i64 0, .int .i64 0, .slice none 0 0, .slice none 0 0] _ _ r4 rfl; have b3' := S.cell_of _ w3.heap.size 3 [.int .i64 0, .int .i64 0, .int .i64 0, .int .i64 0, .int .i64 0, .slice none 0 0, .slice none 0 0] _ _ r4 rfl; have b4' := S.cell_of _ w3.heap.size 4 [.int .i64 0, .int .i64 0, .int .i64 0, .int .i64 0, .int .i64 0, .slice none 0 0, .slice none 0 0] _ _ r4 rfl; have b5' := S.cell_of _ w3.heap.size 5 [.int .i64 0, .int .i64 0, .int .i64 0, .int .i64 0, .int .i64 0, .slice none 0 0, .slice none 0 0] _ _ r4 rfl
    have b6' := S.cell_of _ w3.heap.size 6 [.int .i64 0, .int .i64 0, .int .i64 0, .int .i64 0, .int .i64 0, .slice none 0 0, .slice none 0 0] _ _ r4 rfl; have H2 : Hid _ := And.intro r4 (trB (trB H1.out.2 hb3 H1.out.2.size) b4 (trB H1.out.2 hb3 H1.out.2.size).size); clear r4 b4 rA hb3; go_wp2_with (refine wpList_store_row rfl 39 _ _ rfl w3.heap.size _ rfl rfl 39 #[.int .i64 0, .int .i64 0, .int .i64 0, .int .i64 0, .int .i64 0, .slice none 0 0, .slice none 0 0] z4 (by exact size39) (by rfl) (by simp [Value.oneCell']) ?_)
    clear z4; generalize (w3.alloc (.cells #[.int .i64 0, .int .i64 0, .int .i64 0, .int .i64 0, .int .i64 0, .slice none 0 0, .slice none 0 0] 39)).setRow w3.heap.size #[.int .i64 0, .int .i64 0, .int .i64 0, .int .i64 0, .int .i64 0, .slice none 0 0, .slice none 0 0] = w4 at *
    obtain ⟨nB, hnB⟩ : ∃ n, w3.heap.size = n := ⟨_, rfl⟩
    rw [hnB] at H2 b0' b1' b2' b3' b4' b5' b6' ⊢; refine (kS w4).mono ?_; rintro e W5 ⟨rfl, hb5⟩; clear kS a0 a1 a2 a3 a4 a5 a6 b0' b1' b2' b3' b4' b5' b6'; have o5 := (hb5.block nB (S.lt_of H2.out.1)).trans H2.out.1; have c5 := S.cell_of _ nB 5 [.int .i64 0, .int .i64 0, .int .i64 0, .int .i64 0, .int .i64 0, .slice none 0 0, .slice none 0 0] _ _ o5 rfl; have c6 := S.cell_of _ nB 6 [.int .i64 0, .int .i64 0, .int .i64 0, .int .i64 0, .int .i64 0, .slice none 0 0, .slice none 0 0] _ _ o5 rfl; have HPI : Hid _ := (Hd.out.next (trB H2.out.2 hb5 H2.out.2.size)).up (show tb <= tb + 3 by omega); clear o5 hb5; go_wp2
    go_loopw [80] (fun x wr => x = .int .i64 0 /\ wr = W5) (fun _ _ => 0)
    case atStart => exact ⟨rfl, rfl⟩
    case round =>
     obtain ⟨rfl, rfl⟩ := hrel; go_wp2
     go_loopw [91] (fun x wz => x = .int .i64 0 /\ wz = wr) (fun _ _ => 0)
     case atStart => exact ⟨rfl, rfl⟩
     case round =>
      obtain ⟨rfl, rfl⟩ := hrel; go_wp2; go_ret; exact ⟨rfl, _, _, HPI.out⟩
 ·as_aux_lemma =>
   clear HKD; have HKD : Hid _ := hkd; clear hkd; obtain rfl := HKD.out; have hx := Hd.out.q.pm i hi; have hv := (Hd.out.tn i hi).1; have kP := step_any (p i).v (by omega) _ _ _ _ _ _ wa hx; have HT : Hid _ := hv; clear hx hv; go_wp2_with fail
   refine kP.mono ?_; rintro e wb ⟨rfl, hV⟩; have hqb := Hd.out.q.prog i hi hV; have kR := rstep_any _ _ _ _ _ _ (r i).v (by have := (Hd.out.tn i hi).2; omega) wb (hqb.rm i hi); have hst := (Hd.out.e i hi).step; rw [hst.1] at kR; obtain ⟨sb, hsb⟩ : ∃ b, (step (p i).v).1 = b := ⟨_, rfl⟩
   rw [hsb] at kR ⊢; have HVb : Hid _ := And.intro hV hqb; have HST : Hid _ := hst.2; clear kP hV hqb hst hsb; go_wp2_with fail
   refine kR.mono ?_; rintro e wc' ⟨rfl, hY⟩; obtain ⟨dv, rv, F2, hq⟩ := HVb.out.2.ref i hi hY
   have HE : Hid (PI w0 wc' N pp c kp kc ep ec bp bc (tb + 3) (upP p i { p i with F := M.gr (p i).F wa wb, v := (step (p i).v).2 }) (upR r i { r i with dv := dv, rv := rv, F := F2, v := (step (r i).v).2 })) := by
    have t1 := step_tones (p i).v; have t2 := step_tones (r i).v; have b1 := PI.tcN Hd.out.q i (by omega) (by unfold mkO; rw [if_pos hi]; exact HVb.out.1.t)
    have b2 : Kp N wb wc' := PI.tcN HVb.out.2 (i + 2) (by omega) (by
     have e : mkO (upP p i { p i with F := M.gr (p i).F wa wb, v := (step (p i).v).2 }) r (i + 2) = (r i).o := by unfold mkO; rw [if_neg (by omega), show i + 2 - 2 = i by omega]
     rw [e]; have t := hY.t; exact ⟨t.os, t.tape, t.output, t.size, fun j hj hn => t.block j hj fun f => hn (f.elim .inl fun f => .inr (.inl f))⟩)
    exact Hd.out.both i hi hq (b1.trans b2) rfl rfl rfl rfl HST.out (step_code _) (Hd.out.gd i hi).step (by omega) (by show (step (p i).v).2.m.tones.length <= tb + 3; have := (Hd.out.tn i hi).1; omega) (by show (step (r i).v).2.m.tones.length <= tb + 3; have := (Hd.out.tn i hi).2; omega)
   clear kR hY hq; have esb : (sb == sb) = true := by simp
   go_wp2; go_ret; exact ⟨rfl, _, _, HE.out⟩
 ·as_aux_lemma =>
   clear HKD; have HKD : Hid _ := hkd; clear hkd; obtain rfl := HKD.out; have kL := look_any _ _ _ _ _ _ (p i).v wa (Hd.out.q.pm i hi); have hlb := look_b (p i).v; have hle := (Hd.out.e i hi).look; obtain ⟨L, hL⟩ : ∃ L, look (p i).v = L := ⟨_, rfl⟩
   rw [hL] at kL hlb hle; obtain ⟨op, x, f⟩ := L; have HLE : Hid _ := hle; clear hL hle; dsimp only at kL hlb
   rcases hlb with h0 | ⟨h1, h2⟩
   ·subst h0
    rw [show prV 0 = .agg #[.int .i64 0, .string { data := #[] }, .int .i64 0, .int .i64 0, .int .i64 0, .bool false] from rfl] at kL; go_wp2_with fail
    refine kL.mono ?_; rintro e w1 ⟨rfl, hb1⟩; obtain ⟨z2, r2, b2⟩ := mkRow w1 #[.int .i64 0, .string { data := #[] }, .int .i64 0, .int .i64 0, .int .i64 0, .bool false] #[.int .i64 0, .string { data := #[] }, .int .i64 0, .int .i64 0, .int .i64 0, .bool false] 49; have hd2 := (Hd.out.next hb1).next b2; have kR := rlook_any _ _ _ _ _ _ (r i).v _ (hd2.q.rm i hi); rw [HLE.out] at kR; dsimp only at kR; rw [show ((0 : Nat) : Int) = 0 from rfl] at kR; have H2 : Hid _ := And.intro hd2 (And.intro r2 (trB hb1 b2 hb1.size)); clear hd2 r2 b2 hb1 kL; go_wp2_with (refine wpList_store_row rfl 49 _ _ rfl w1.heap.size _ rfl rfl 49 #[.int .i64 0, .string { data := #[] }, .int .i64 0, .int .i64 0, .int .i64 0, .bool false] z2 (by exact P.sizeR) (by rfl) (by simp [Value.oneCell']) ?_)
    clear z2; generalize (w1.alloc (.cells #[.int .i64 0, .string { data := #[] }, .int .i64 0, .int .i64 0, .int .i64 0, .bool false] 49)).setRow w1.heap.size #[.int .i64 0, .string { data := #[] }, .int .i64 0, .int .i64 0, .int .i64 0, .bool false] = w2 at *
    obtain ⟨nA, hnA⟩ : ∃ n, w1.heap.size = n := ⟨_, rfl⟩
    rw [hnA] at H2 ⊢; clear hnA; refine kR.mono ?_; rintro e w3 ⟨rfl, hb3⟩; obtain ⟨z4, r4, b4⟩ := mkRow w3 #[.int .i64 0, .string { data := #[] }, .int .i64 0, .int .i64 0, .int .i64 0, .bool false] #[.int .i64 0, .string { data := #[] }, .int .i64 0, .int .i64 0, .int .i64 0, .bool false] 49; have rA := ((hb3.trans (b4.mono hb3.size)).block nA (S.lt_of H2.out.2.1)).trans H2.out.2.1; have H4 : Hid _ := And.intro (And.intro rA r4) (And.intro ((H2.out.1.next hb3).next b4) (trB (trB H2.out.2.2 hb3 H2.out.2.2.size) b4 (trB H2.out.2.2 hb3 H2.out.2.2.size).size)); have HAB : Hid (nA < w3.heap.size /\ wa.heap.size <= w3.heap.size) := ⟨Nat.lt_of_lt_of_le (S.lt_of H2.out.2.1) hb3.size, Nat.le_trans H2.out.2.2.size hb3.size⟩
    clear rA r4 b4 hb3 kR H2; go_upto_region 27 with (refine wpList_store_row rfl 49 _ _ rfl w3.heap.size _ rfl rfl 49 #[.int .i64 0, .string { data := #[] }, .int .i64 0, .int .i64 0, .int .i64 0, .bool false] z4 (by exact P.sizeR) (by rfl) (by simp [Value.oneCell']) ?_)
    clear z4; generalize (w3.alloc (.cells #[.int .i64 0, .string { data := #[] }, .int .i64 0, .int .i64 0, .int .i64 0, .bool false] 49)).setRow w3.heap.size #[.int .i64 0, .string { data := #[] }, .int .i64 0, .int .i64 0, .int .i64 0, .bool false] = w4 at *
    obtain ⟨nB, hnB⟩ : ∃ n, w3.heap.size = n := ⟨_, rfl⟩
    rw [hnB] at H4 HAB ⊢; clear hnB; have HBz : Hid (Below w4.heap.size w4 w4.drew) := ⟨rfl, rfl, rfl, Nat.le_refl _, fun _ _ => rfl⟩
    have HE : Hid (PI w0 w4.drew N pp c kp kc ep ec bp bc (tb + 3) p r) := (H4.out.2.1.next HBz.out).up (by omega)
    have hS : (fun wz : World => wz.cell? ⟨nA, 0, none⟩ = some (.int .i64 0) /\ wz.cell? ⟨nA, 1, none⟩ = some (.string { data := #[] }) /\ wz.cell? ⟨nA, 2, none⟩ = some (.int .i64 0) /\ wz.cell? ⟨nA, 3, none⟩ = some (.int .i64 0) /\ wz.cell? ⟨nA, 4, none⟩ = some (.int .i64 0) /\ wz.cell? ⟨nA, 5, none⟩ = some (.bool false) /\ wz.cell? ⟨nB, 0, none⟩ = some (.int .i64 0) /\ wz.cell? ⟨nB, 1, none⟩ = some (.string { data := #[] }) /\ wz.cell? ⟨nB, 2, none⟩ = some (.int .i64 0) /\ wz.cell? ⟨nB, 3, none⟩ = some (.int .i64 0) /\ wz.cell? ⟨nB, 4, none⟩ = some (.int .i64 0) /\ wz.cell? ⟨nB, 5, none⟩ = some (.bool false)) w4.drew := by
     have hA := (HBz.out.block _ (S.lt_of H4.out.1.1)).trans H4.out.1.1; have hB := (HBz.out.block _ (S.lt_of H4.out.1.2)).trans H4.out.1.2; exact ⟨S.cell_of _ nA 0 _ _ _ hA rfl, S.cell_of _ nA 1 _ _ _ hA rfl, S.cell_of _ nA 2 _ _ _ hA rfl, S.cell_of _ nA 3 _ _ _ hA rfl, S.cell_of _ nA 4 _ _ _ hA rfl, S.cell_of _ nA 5 _ _ _ hA rfl, S.cell_of _ nB 0 _ _ _ hB rfl, S.cell_of _ nB 1 _ _ _ hB rfl, S.cell_of _ nB 2 _ _ _ hB rfl, S.cell_of _ nB 3 _ _ _ hB rfl, S.cell_of _ nB 4 _ _ _ hB rfl, S.cell_of _ nB 5 _ _ _ hB rfl⟩
    refine wp_region_held_drew (S := (fun wz : World => wz.cell? ⟨nA, 0, none⟩ = some (.int .i64 0) /\ wz.cell? ⟨nA, 1, none⟩ = some (.string { data := #[] }) /\ wz.cell? ⟨nA, 2, none⟩ = some (.int .i64 0) /\ wz.cell? ⟨nA, 3, none⟩ = some (.int .i64 0) /\ wz.cell? ⟨nA, 4, none⟩ = some (.int .i64 0) /\ wz.cell? ⟨nA, 5, none⟩ = some (.bool false) /\ wz.cell? ⟨nB, 0, none⟩ = some (.int .i64 0) /\ wz.cell? ⟨nB, 1, none⟩ = some (.string { data := #[] }) /\ wz.cell? ⟨nB, 2, none⟩ = some (.int .i64 0) /\ wz.cell? ⟨nB, 3, none⟩ = some (.int .i64 0) /\ wz.cell? ⟨nB, 4, none⟩ = some (.int .i64 0) /\ wz.cell? ⟨nB, 5, none⟩ = some (.bool false))) (by kernel_rfl) hS (fun hHeld => ?_); have HS : Hid _ := hS; clear hS; generalize w4.drew = wz at *
    refine wtk0 (is := [0, 1, 2, 3, 4, 5, 6, 7, 8, 9, 10, 11, 12, 13, 14, 15, 16, 17, 18, 19, 20, 21, 22]) ?_
    iterate 23
     refine V.wt (v := ?_) rfl (by kernel_rfl) (fun c a w h => h) (by rfl) ?_ hHeld ?_
     rotate_left
     ·(intro w hSw; (try dsimp only at hSw); go_simp; try with_reducible rfl)
     simp only [V.pts]
    refine wtkE ?_; refine wpAnyH_take (i := 23) (v := undef) rfl (by kernel_rfl) (by kernel_rfl) (by kernel_rfl) (fun c a w h => h) (Or.inr ⟨by rfl, rfl⟩) hHeld ?_; try simp only [V.pts]
    refine wpAnyH_take (i := 24) (v := undef) rfl (by kernel_rfl) (by kernel_rfl) (by kernel_rfl) (fun c a w h => h) (Or.inr ⟨by rfl, rfl⟩) hHeld ?_; try simp only [V.pts]
    refine wpAnyH_take (i := 25) (v := undef) rfl (by kernel_rfl) (by kernel_rfl) (by kernel_rfl) (fun c a w h => h) (Or.inr ⟨by rfl, rfl⟩) hHeld ?_; try simp only [V.pts]
    refine wpAnyH_take (i := 26) (v := undef) rfl (by kernel_rfl) (by kernel_rfl) (by kernel_rfl) (fun c a w h => h) (Or.inr ⟨by rfl, rfl⟩) hHeld ?_; try simp only [V.pts]
    refine wpAnyH_take (i := 27) (v := undef) rfl (by kernel_rfl) (by kernel_rfl) (by kernel_rfl) (fun c a w h => h) (Or.inr ⟨by rfl, rfl⟩) hHeld ?_; try simp only [V.pts]
    refine wpAnyH_take (i := 28) (v := undef) rfl (by kernel_rfl) (by kernel_rfl) (by kernel_rfl) (fun c a w h => h) (Or.inr ⟨by rfl, rfl⟩) hHeld ?_; try simp only [V.pts]
    refine wpAnyH_take (i := 29) (v := undef) rfl (by kernel_rfl) (by kernel_rfl) (by kernel_rfl) (fun c a w h => h) (Or.inr ⟨by rfl, rfl⟩) hHeld ?_; try simp only [V.pts]
    refine wpAnyH_take (i := 30) (v := undef) rfl (by kernel_rfl) (by kernel_rfl) (by kernel_rfl) (fun c a w h => h) (Or.inr ⟨by rfl, rfl⟩) hHeld ?_; try simp only [V.pts]
    refine wpAnyH_take (i := 31) (v := undef) rfl (by kernel_rfl) (by kernel_rfl) (by kernel_rfl) (fun c a w h => h) (Or.inr ⟨by rfl, rfl⟩) hHeld ?_; try simp only [V.pts]
    refine wpAnyH_take (i := 32) (v := undef) rfl (by kernel_rfl) (by kernel_rfl) (by kernel_rfl) (fun c a w h => h) (Or.inr ⟨by rfl, rfl⟩) hHeld ?_; try simp only [V.pts]
    refine wpAnyH_take (i := 33) (v := undef) rfl (by kernel_rfl) (by kernel_rfl) (by kernel_rfl) (fun c a w h => h) (Or.inr ⟨by rfl, rfl⟩) hHeld ?_; try simp only [V.pts]
    refine wpAnyH_take (i := 34) (v := undef) rfl (by kernel_rfl) (by kernel_rfl) (by kernel_rfl) (fun c a w h => h) (Or.inr ⟨by rfl, rfl⟩) hHeld ?_; try simp only [V.pts]
    refine wpAnyH_take (i := 35) (v := undef) rfl (by kernel_rfl) (by kernel_rfl) (by kernel_rfl) (fun c a w h => h) (Or.inr ⟨by rfl, rfl⟩) hHeld ?_; try simp only [V.pts]
    refine wpAnyH_take (i := 36) (v := undef) rfl (by kernel_rfl) (by kernel_rfl) (by kernel_rfl) (fun c a w h => h) (Or.inr ⟨by rfl, rfl⟩) hHeld ?_; try simp only [V.pts]
    refine wpAnyH_take (i := 37) (v := undef) rfl (by kernel_rfl) (by kernel_rfl) (by kernel_rfl) (fun c a w h => h) (Or.inr ⟨by rfl, rfl⟩) hHeld ?_; try simp only [V.pts]
    refine wpAnyH_take (i := 38) (v := undef) rfl (by kernel_rfl) (by kernel_rfl) (by kernel_rfl) (fun c a w h => h) (Or.inr ⟨by rfl, rfl⟩) hHeld ?_; try simp only [V.pts]
    refine wpAnyH_take (i := 39) (v := undef) rfl (by kernel_rfl) (by kernel_rfl) (by kernel_rfl) (fun c a w h => h) (Or.inr ⟨by rfl, rfl⟩) hHeld ?_; try simp only [V.pts]
    refine wpAnyH_take (i := 40) (v := undef) rfl (by kernel_rfl) (by kernel_rfl) (by kernel_rfl) (fun c a w h => h) (Or.inr ⟨by rfl, rfl⟩) hHeld ?_; try simp only [V.pts]
    refine wpAnyH_take (i := 41) (v := undef) rfl (by kernel_rfl) (by kernel_rfl) (by kernel_rfl) (fun c a w h => h) (Or.inr ⟨by rfl, rfl⟩) hHeld ?_; try simp only [V.pts]
    refine wtk0 (is := [42, 43, 44]) ?_
    iterate 3
     refine V.wt (v := ?_) rfl (by kernel_rfl) (fun c a w h => h) (by rfl) ?_ hHeld ?_
     rotate_left
     ·(intro w hSw; (try dsimp only at hSw); go_simp; try with_reducible rfl)
     simp only [V.pts]
    refine wtkE ?_; refine wpAnyH_done (by kernel_rfl) ?_ _; clear hHeld; go_wp2; go_ret; exact ⟨by simp, _, _, HE.out⟩
   ·have kO := fun w => P.of_at op h1 h2 w
    have kC := fun w => co_any op h1 (by omega) w
    have kT := fun w => tk_any op h1 (by omega) w
    have kV := fun w => lv_any op h1 (by omega) w
    rw [(ri_tk op h1 h2).1] at kT; rw [(ri_tk op h1 h2).2] at kV; have ep : prV op = P.rowN op := by unfold prV; rw [if_neg (by omega)]
    rw [ep] at kL; unfold P.rowN P.rowV at kL kO; obtain ⟨o, ho⟩ : ∃ o : Int, (op : Int) = o := ⟨_, rfl⟩
    have hn0 : ¬ o = 0 := by omega
    have hn1 : (o == 0) = false := by simp [hn0]
    have hn2 : decide (o = 0) = false := by simp [hn0]
    generalize P.nm op = a1 at *
    generalize P.ri op = a2 at *
    generalize P.ro op = a3 at *
    generalize P.rc op = a4 at *
    generalize P.rb op = a5 at *
    rw [ho] at kL kO kC kT kV; have HO : Hid _ := ho; clear ho ep; go_wp2_with fail
    refine kL.mono ?_; rintro e w1 ⟨rfl, hb1⟩; obtain ⟨z2, r2, b2⟩ := mkRow w1 #[.int .i64 0, .string { data := #[] }, .int .i64 0, .int .i64 0, .int .i64 0, .bool false] #[.int .i64 o, .string a1, .int .i64 a2, .int .i64 a3, .int .i64 a4, .bool a5] 49; have hd2 := (Hd.out.next hb1).next b2; have kR := rlook_any _ _ _ _ _ _ (r i).v _ (hd2.q.rm i hi); rw [HLE.out] at kR; dsimp only at kR; rw [HO.out] at kR; have H2 : Hid _ := And.intro hd2 (And.intro r2 (trB hb1 b2 hb1.size)); clear hd2 r2 b2 hb1 kL; go_wp2_with (refine wpList_store_row rfl 49 _ _ rfl w1.heap.size _ rfl rfl 49 #[.int .i64 0, .string { data := #[] }, .int .i64 0, .int .i64 0, .int .i64 0, .bool false] z2 (by exact P.sizeR) (by rfl) (by simp [Value.oneCell']) ?_)
    clear z2; generalize (w1.alloc (.cells #[.int .i64 0, .string { data := #[] }, .int .i64 0, .int .i64 0, .int .i64 0, .bool false] 49)).setRow w1.heap.size #[.int .i64 o, .string a1, .int .i64 a2, .int .i64 a3, .int .i64 a4, .bool a5] = w2 at *
    obtain ⟨nA, hnA⟩ : ∃ n, w1.heap.size = n := ⟨_, rfl⟩
    rw [hnA] at H2 ⊢; clear hnA; refine kR.mono ?_; rintro e w3 ⟨rfl, hb3⟩; obtain ⟨z4, r4, b4⟩ := mkRow w3 #[.int .i64 0, .string { data := #[] }, .int .i64 0, .int .i64 0, .int .i64 0, .bool false] #[.int .i64 0, .string { data := #[] }, .int .i64 0, .int .i64 0, .int .i64 0, .bool false] 49; have rA := ((hb3.trans (b4.mono hb3.size)).block nA (S.lt_of H2.out.2.1)).trans H2.out.2.1; have H4 : Hid _ := And.intro (And.intro rA r4) (And.intro ((H2.out.1.next hb3).next b4) (trB (trB H2.out.2.2 hb3 H2.out.2.2.size) b4 (trB H2.out.2.2 hb3 H2.out.2.2.size).size)); have HAB : Hid (nA < w3.heap.size /\ wa.heap.size <= w3.heap.size) := ⟨Nat.lt_of_lt_of_le (S.lt_of H2.out.2.1) hb3.size, Nat.le_trans H2.out.2.2.size hb3.size⟩
    clear rA r4 b4 hb3 kR H2; go_wp2_with (refine wpList_store_row rfl 49 _ _ rfl w3.heap.size _ rfl rfl 49 #[.int .i64 0, .string { data := #[] }, .int .i64 0, .int .i64 0, .int .i64 0, .bool false] z4 (by exact P.sizeR) (by rfl) (by simp [Value.oneCell']) ?_)
    clear z4; generalize (w3.alloc (.cells #[.int .i64 0, .string { data := #[] }, .int .i64 0, .int .i64 0, .int .i64 0, .bool false] 49)).setRow w3.heap.size #[.int .i64 0, .string { data := #[] }, .int .i64 0, .int .i64 0, .int .i64 0, .bool false] = w4 at *
    obtain ⟨nB, hnB⟩ : ∃ n, w3.heap.size = n := ⟨_, rfl⟩
    rw [hnB] at H4 HAB ⊢; clear hnB; refine (kO _).mono ?_; rintro e w5 ⟨rfl, hb5⟩; have zB := (hb5.block _ (S.lt_of H4.out.1.2)).trans H4.out.1.2
    have H6 : Hid ((((w5.setRow nB #[.int .i64 o, .string a1, .int .i64 a2, .int .i64 a3, .int .i64 a4, .bool a5]).heap[nA]? = some (.cells #[.int .i64 o, .string a1, .int .i64 a2, .int .i64 a3, .int .i64 a4, .bool a5] 49 (0, 0))) /\ ((w5.setRow nB #[.int .i64 o, .string a1, .int .i64 a2, .int .i64 a3, .int .i64 a4, .bool a5]).heap[nB]? = some (.cells #[.int .i64 o, .string a1, .int .i64 a2, .int .i64 a3, .int .i64 a4, .bool a5] 49 (0, 0)))) /\ (PI w0 (w5.setRow nB #[.int .i64 o, .string a1, .int .i64 a2, .int .i64 a3, .int .i64 a4, .bool a5]) N pp c kp kc ep ec bp bc tb p r /\ True)) := by
     have hA := (hb5.block _ (S.lt_of H4.out.1.1)).trans H4.out.1.1; have hl := P.Below.setRow (trB H4.out.2.2 hb5 H4.out.2.2.size) nB HAB.out.2 #[.int .i64 o, .string a1, .int .i64 a2, .int .i64 a3, .int .i64 a4, .bool a5]; exact ⟨⟨(setRow_other w5 nB nA _ (by have := HAB.out.1; omega)).trans hA, setRow_heap w5 nB _ #[.int .i64 o, .string a1, .int .i64 a2, .int .i64 a3, .int .i64 a4, .bool a5] _ _ zB⟩, Hd.out.next hl, trivial⟩
    clear hb5 kO; go_upto_region 27 with (refine wpList_store_row rfl 49 _ _ rfl nB _ rfl rfl 49 #[.int .i64 0, .string { data := #[] }, .int .i64 0, .int .i64 0, .int .i64 0, .bool false] zB (by exact P.sizeR) (by rfl) (by simp [Value.oneCell']) ?_)
    clear zB; generalize w5.setRow nB #[.int .i64 o, .string a1, .int .i64 a2, .int .i64 a3, .int .i64 a4, .bool a5] = w6 at *
    have HBz : Hid (Below w6.heap.size w6 w6.drew) := ⟨rfl, rfl, rfl, Nat.le_refl _, fun _ _ => rfl⟩
    have HE : Hid (PI w0 w6.drew N pp c kp kc ep ec bp bc (tb + 3) p r) := (H6.out.2.1.next HBz.out).up (by omega)
    have hS : (fun wz : World => wz.cell? ⟨nA, 0, none⟩ = some (.int .i64 o) /\ wz.cell? ⟨nA, 1, none⟩ = some (.string a1) /\ wz.cell? ⟨nA, 2, none⟩ = some (.int .i64 a2) /\ wz.cell? ⟨nA, 3, none⟩ = some (.int .i64 a3) /\ wz.cell? ⟨nA, 4, none⟩ = some (.int .i64 a4) /\ wz.cell? ⟨nA, 5, none⟩ = some (.bool a5) /\ wz.cell? ⟨nB, 0, none⟩ = some (.int .i64 o) /\ wz.cell? ⟨nB, 1, none⟩ = some (.string a1) /\ wz.cell? ⟨nB, 2, none⟩ = some (.int .i64 a2) /\ wz.cell? ⟨nB, 3, none⟩ = some (.int .i64 a3) /\ wz.cell? ⟨nB, 4, none⟩ = some (.int .i64 a4) /\ wz.cell? ⟨nB, 5, none⟩ = some (.bool a5)) w6.drew := by
     have hA := (HBz.out.block _ (S.lt_of H6.out.1.1)).trans H6.out.1.1; have hB := (HBz.out.block _ (S.lt_of H6.out.1.2)).trans H6.out.1.2; exact ⟨S.cell_of _ nA 0 _ _ _ hA rfl, S.cell_of _ nA 1 _ _ _ hA rfl, S.cell_of _ nA 2 _ _ _ hA rfl, S.cell_of _ nA 3 _ _ _ hA rfl, S.cell_of _ nA 4 _ _ _ hA rfl, S.cell_of _ nA 5 _ _ _ hA rfl, S.cell_of _ nB 0 _ _ _ hB rfl, S.cell_of _ nB 1 _ _ _ hB rfl, S.cell_of _ nB 2 _ _ _ hB rfl, S.cell_of _ nB 3 _ _ _ hB rfl, S.cell_of _ nB 4 _ _ _ hB rfl, S.cell_of _ nB 5 _ _ _ hB rfl⟩
    refine wp_region_held_drew (S := (fun wz : World => wz.cell? ⟨nA, 0, none⟩ = some (.int .i64 o) /\ wz.cell? ⟨nA, 1, none⟩ = some (.string a1) /\ wz.cell? ⟨nA, 2, none⟩ = some (.int .i64 a2) /\ wz.cell? ⟨nA, 3, none⟩ = some (.int .i64 a3) /\ wz.cell? ⟨nA, 4, none⟩ = some (.int .i64 a4) /\ wz.cell? ⟨nA, 5, none⟩ = some (.bool a5) /\ wz.cell? ⟨nB, 0, none⟩ = some (.int .i64 o) /\ wz.cell? ⟨nB, 1, none⟩ = some (.string a1) /\ wz.cell? ⟨nB, 2, none⟩ = some (.int .i64 a2) /\ wz.cell? ⟨nB, 3, none⟩ = some (.int .i64 a3) /\ wz.cell? ⟨nB, 4, none⟩ = some (.int .i64 a4) /\ wz.cell? ⟨nB, 5, none⟩ = some (.bool a5))) (by kernel_rfl) hS (fun hHeld => ?_); have HS : Hid _ := hS; clear hS; generalize w6.drew = wz at *
    refine wtk0 (is := [0, 1, 2, 3, 4, 5, 6, 7, 8, 9, 10, 11, 12, 13, 14, 15, 16, 17, 18, 19, 20, 21, 22]) ?_
    iterate 23
     refine V.wt (v := ?_) rfl (by kernel_rfl) (fun c a w h => h) (by rfl) ?_ hHeld ?_
     rotate_left
     ·(intro w hSw; (try dsimp only at hSw); go_simp; try with_reducible rfl)
     simp only [V.pts]
    refine wtkE ?_; refine wtk0 (is := [23, 24, 25]) ?_
    iterate 3
     refine V.wt (v := ?_) rfl (by kernel_rfl) (fun c a w h => h) (by rfl) ?_ hHeld ?_
     rotate_left
     ·(intro w hSw; (try dsimp only at hSw); go_simp; try with_reducible rfl)
     simp only [V.pts]
    refine wtkE ?_; refine V.wrd 26 (by kernel_rfl) rfl fun K hK => ?_
    go_simp; refine (kC _).mono ?_; rintro e wx ⟨rfl, hwx⟩; dsimp only; rw [hwx]; clear hwx wx; refine hK.out _ _ HS.out (fun hHeld => ?_); clear hK K; try simp only [V.pts]
    refine wtk0 (is := [27, 28, 29, 30, 31]) ?_
    iterate 5
     refine V.wt (v := ?_) rfl (by kernel_rfl) (fun c a w h => h) (by rfl) ?_ hHeld ?_
     rotate_left
     ·(intro w hSw; (try dsimp only at hSw); go_simp; try with_reducible rfl)
     simp only [V.pts]
    refine wtkE ?_; refine V.wrd 32 (by kernel_rfl) rfl fun K hK => ?_
    go_simp; refine (kT _).mono ?_; rintro e wx ⟨rfl, hwx⟩; dsimp only; rw [hwx]; clear hwx wx; refine hK.out _ _ HS.out (fun hHeld => ?_); clear hK K; try simp only [V.pts]
    refine wtk0 (is := [33, 34, 35, 36, 37, 38]) ?_
    iterate 6
     refine V.wt (v := ?_) rfl (by kernel_rfl) (fun c a w h => h) (by rfl) ?_ hHeld ?_
     rotate_left
     ·(intro w hSw; (try dsimp only at hSw); go_simp; try with_reducible rfl)
     simp only [V.pts]
    refine wtkE ?_; refine V.wrd 39 (by kernel_rfl) rfl fun K hK => ?_
    go_simp; refine (kV _).mono ?_; rintro e wx ⟨rfl, hwx⟩; dsimp only; rw [hwx]; clear hwx wx; refine hK.out _ _ HS.out (fun hHeld => ?_); clear hK K; try simp only [V.pts]
    refine wtk0 (is := [40, 41, 42, 43, 44]) ?_
    iterate 5
     refine V.wt (v := ?_) rfl (by kernel_rfl) (fun c a w h => h) (by rfl) ?_ hHeld ?_
     rotate_left
     ·(intro w hSw; (try dsimp only at hSw); go_simp; try with_reducible rfl)
     simp only [V.pts]
    refine wtkE ?_; refine wpAnyH_done (by kernel_rfl) ?_ _; clear hHeld; go_wp2; go_ret; exact ⟨by simp, _, _, HE.out⟩
 ·as_aux_lemma =>
   clear HKD; have HKD : Hid _ := hkd; clear hkd; obtain rfl := HKD.out; have hx := Hd.out.q.pm i hi; have hX := Hd.out.q.rm i hi; have kP := state_any _ _ _ _ _ _ (p i).v wa hx; obtain ⟨⟨cc, tt, hev⟩, _⟩ := Hd.out.e i hi; obtain ⟨v, hv⟩ : ∃ v, (p i).v = v := ⟨_, rfl⟩
   rw [hv] at kP hev; have hXB := hX; obtain ⟨dp, dc, hdv, _, slD⟩ := hX.d.ex; obtain ⟨rp, rc, hrv, _, slR⟩ := hX.r.ex; have hdl := hX.dl; have hrl := hX.rl; have eD : (r i).v.D = v.D := by rw [hev]
   have eR : (r i).v.R = v.R := by rw [hev]
   rw [eD] at hdv slD hdl; rw [eR] at hrv slR hrl
   have hcells : ∀ X : World, Below wa.heap.size wa X -> X.cell? ⟨(r i).g, 1, none⟩ = some (.int .u16 v.pc) /\ X.cell? ⟨(r i).g, 2, none⟩ = some (.int .i64 v.st) /\ X.cell? ⟨(r i).g, 3, none⟩ = some (.int .i64 v.fa) /\ X.cell? ⟨(r i).g, 4, none⟩ = some (.slice dp v.D.length dc) /\ X.cell? ⟨(r i).g, 5, none⟩ = some (.slice rp v.R.length rc) := fun X hb => by
    have h1 := (Hd.out.next hb).q.rm i hi; have c1 := h1.c1; have c2 := h1.c2; have c3 := h1.c3; have c4 := h1.c4; have c5 := h1.c5; rw [hev] at c1 c2 c3; rw [hdv] at c4; rw [hrv] at c5; exact ⟨c1, c2, c3, c4, c5⟩
   obtain ⟨n1, hn1⟩ : ∃ n, v.D.length = n := ⟨_, rfl⟩
   obtain ⟨n2, hn2⟩ : ∃ n, v.R.length = n := ⟨_, rfl⟩
   unfold StV at kP; rw [hn1, hn2] at kP hcells; have l1 : n1 <= 256 := by omega
   have l2 : n2 <= 128 := by omega
   have HN : Hid _ := And.intro hn1 (And.intro hn2 (And.intro slD slR)); have HC : Hid _ := hcells; clear hx hX hXB hev hv hdv hrv slD slR hdl hrl eD eR hn1 hn2 hcells; go_wp2_with fail
   refine kP.mono ?_; rintro e w1 ⟨p1, c1, p2, c2, rfl, ro1, ro2, hb1⟩; obtain ⟨z2, r2, b2⟩ := mkRow w1 #[.int .u16 0, .int .i64 0, .int .i64 0, .slice none 0 0, .slice none 0 0] #[.int .u16 v.pc, .int .i64 v.st, .int .i64 v.fa, .slice p1 n1 c1, .slice p2 n2 c2] 46; have H1 : Hid _ := And.intro (And.intro ro1 ro2) (And.intro hb1 (And.intro r2 b2)); clear ro1 ro2 hb1 r2 b2 kP; go_upto_region 30 with (refine wpList_store_row rfl 46 _ _ rfl w1.heap.size _ rfl rfl 46 #[.int .u16 0, .int .i64 0, .int .i64 0, .slice none 0 0, .slice none 0 0] z2 (by exact size46) (by rfl) (by simp [Value.oneCell']) ?_)
   clear z2; generalize (w1.alloc (.cells #[.int .u16 0, .int .i64 0, .int .i64 0, .slice none 0 0, .slice none 0 0] 46)).setRow w1.heap.size #[.int .u16 v.pc, .int .i64 v.st, .int .i64 v.fa, .slice p1 n1 c1, .slice p2 n2 c2] = w2 at *
   obtain ⟨nB, hnB⟩ : ∃ n, w1.heap.size = n := ⟨_, rfl⟩
   rw [hnB] at H1 ⊢; have HNB : Hid _ := hnB; clear hnB; have HBz : Hid (Below w2.heap.size w2 w2.drew) := ⟨rfl, rfl, rfl, Nat.le_refl _, fun _ _ => rfl⟩
   have HSI : Hid (SI 46 23 101 1 2 wa w2.drew wa.heap.size nB [.int .u16 v.pc, .int .i64 v.st, .int .i64 v.fa, .slice p1 n1 c1, .slice p2 n2 c2] (.slice p1 n1 c1) (.slice p2 n2 c2) n1 n2) := by
    obtain ⟨⟨ro1, ro2⟩, hb1, r2, b2⟩ := H1.out; have e1 := HNB.out; have b12 : Below w1.heap.size w1 w2 := by rw [e1]; exact b2
    have e2 := S.own_kept (S.own_kept ro1 fun g e hg => b12.block g hg) fun g e hg => HBz.out.block g hg
    have e3 := S.own_kept (S.own_kept ro2 fun g e hg => b12.block g hg) fun g e hg => HBz.out.block g hg
    rw [HN.out.1] at e2; rw [HN.out.2.1] at e3; exact ⟨(hb1.trans (b12.mono hb1.size)).trans (HBz.out.mono (Nat.le_trans hb1.size b12.size)), by have := hb1.size; omega, (HBz.out.block _ (S.lt_of r2)).trans r2, ⟨_, e2⟩, ⟨_, e3⟩⟩
   have kS := sameState_true v p1 p2 dp rp c1 c2 dc rc (by rw [HN.out.1]; exact l1) (by rw [HN.out.2.1]; exact l2) w2.drew
    (by
     obtain ⟨⟨ro1, ro2⟩, hb1, r2, b2⟩ := H1.out; have e1 := HNB.out; have b12 : Below w1.heap.size w1 w2 := by rw [e1]; exact b2
     obtain ⟨p', c', e', _, q⟩ := ((S.RowU.ls ro1).below b12).ex; rw [HN.out.1] at e'; simp only [Value.slice.injEq] at e'; rw [e'.1]; exact q.below HBz.out)
    (by
     obtain ⟨⟨ro1, ro2⟩, hb1, r2, b2⟩ := H1.out; have e1 := HNB.out; have b12 : Below w1.heap.size w1 w2 := by rw [e1]; exact b2
     obtain ⟨p', c', e', _, q⟩ := ((S.RowK.ls ro2).below b12).ex; rw [HN.out.2.1] at e'; simp only [Value.slice.injEq] at e'; rw [e'.1]; exact q.below HBz.out)
    (HN.out.2.2.1.below HSI.out.b) (HN.out.2.2.2.below HSI.out.b)
   unfold StV at kS; rw [HN.out.1, HN.out.2.1] at kS
   have hS : ∀ X, Below wa.heap.size wa X -> X.heap[nB]? = w2.drew.heap[nB]? -> (fun wz : World => wz.cell? ⟨nB, 0, none⟩ = some (.int .u16 v.pc) /\ wz.cell? ⟨nB, 1, none⟩ = some (.int .i64 v.st) /\ wz.cell? ⟨nB, 2, none⟩ = some (.int .i64 v.fa) /\ wz.cell? ⟨nB, 3, none⟩ = some (.slice p1 n1 c1) /\ wz.cell? ⟨nB, 4, none⟩ = some (.slice p2 n2 c2) /\ wz.cell? ⟨(r i).g, 1, none⟩ = some (.int .u16 v.pc) /\ wz.cell? ⟨(r i).g, 2, none⟩ = some (.int .i64 v.st) /\ wz.cell? ⟨(r i).g, 3, none⟩ = some (.int .i64 v.fa) /\ wz.cell? ⟨(r i).g, 4, none⟩ = some (.slice dp n1 dc) /\ wz.cell? ⟨(r i).g, 5, none⟩ = some (.slice rp n2 rc)) X := fun X hb he => by
    have hc := HC.out X hb; have ho := he.trans HSI.out.o; exact ⟨S.cell_of X nB 0 _ _ _ ho rfl, S.cell_of X nB 1 _ _ _ ho rfl, S.cell_of X nB 2 _ _ _ ho rfl, S.cell_of X nB 3 _ _ _ ho rfl, S.cell_of X nB 4 _ _ _ ho rfl, hc⟩
   have HS : Hid _ := hS; have hS0 := hS _ HSI.out.b rfl; clear hS; refine wp_region_held_drew (S := (fun wz : World => wz.cell? ⟨nB, 0, none⟩ = some (.int .u16 v.pc) /\ wz.cell? ⟨nB, 1, none⟩ = some (.int .i64 v.st) /\ wz.cell? ⟨nB, 2, none⟩ = some (.int .i64 v.fa) /\ wz.cell? ⟨nB, 3, none⟩ = some (.slice p1 n1 c1) /\ wz.cell? ⟨nB, 4, none⟩ = some (.slice p2 n2 c2) /\ wz.cell? ⟨(r i).g, 1, none⟩ = some (.int .u16 v.pc) /\ wz.cell? ⟨(r i).g, 2, none⟩ = some (.int .i64 v.st) /\ wz.cell? ⟨(r i).g, 3, none⟩ = some (.int .i64 v.fa) /\ wz.cell? ⟨(r i).g, 4, none⟩ = some (.slice dp n1 dc) /\ wz.cell? ⟨(r i).g, 5, none⟩ = some (.slice rp n2 rc))) (by kernel_rfl) hS0 (fun hHeld => ?_); clear hS0; generalize w2.drew = wd at *
   refine wtk0 (is := [0, 1, 2, 3, 4]) ?_
   iterate 5
    refine V.wt (v := ?_) rfl (by kernel_rfl) (fun c a w h => h) (by rfl) ?_ hHeld ?_
    rotate_left
    ·(intro w hSw; (try dsimp only at hSw); go_simp; try with_reducible rfl)
    simp only [V.pts]
   refine wtkE ?_; refine V.wrd 5 (by kernel_rfl) rfl fun K hK => ?_
   go_simp; refine kS.mono ?_; rintro e w3 ⟨rfl, hb3⟩; dsimp only
   have HI3 : Hid (SI 46 23 101 1 2 wa w3 wa.heap.size nB [.int .u16 v.pc, .int .i64 v.st, .int .i64 v.fa, .slice p1 n1 c1, .slice p2 n2 c2] (.slice p1 n1 c1) (.slice p2 n2 c2) n1 n2) := by
    have h := HSI.out; obtain ⟨xs, h1⟩ := h.r1; obtain ⟨ys, h2⟩ := h.r2; exact ⟨h.b.trans (hb3.mono h.b.size), h.nl, (hb3.block _ (S.lt_of h.o)).trans h.o, ⟨_, S.own_kept h1 fun g _ hg => hb3.block g hg⟩, ⟨_, S.own_kept h2 fun g _ hg => hb3.block g hg⟩⟩
   have hS3 := HS.out w3 HI3.out.b (HI3.out.o.trans HSI.out.o.symm); have HS3 : Hid _ := hS3; clear kS hb3 hS3; refine hK.out _ _ HS3.out (fun hHeld => ?_); clear hK K; try simp only [V.pts]
   refine V.wt1 6 (v := ?_) rfl (by kernel_rfl) (fun c a w h => h) (by rfl) ?_ hHeld ?_
   rotate_left
   ·(intro w hSw; (try dsimp only at hSw); go_simp; try with_reducible rfl)
   simp only [V.pts]; refine wpAnyH_done (by kernel_rfl) ?_ _; clear hHeld HS HSI H1; have c3 := S.cell_of w3 nB 3 [.int .u16 v.pc, .int .i64 v.st, .int .i64 v.fa, .slice p1 n1 c1, .slice p2 n2 c2] _ _ HI3.out.o rfl; go_wp2
   go_loopw [187] (fun x wr => ∃ k : Nat, k <= n1 /\ x = .int .i64 (k : Int) /\ SI 46 23 101 1 2 wa wr wa.heap.size nB [.int .u16 v.pc, .int .i64 v.st, .int .i64 v.fa, .slice p1 n1 c1, .slice p2 n2 c2] (.slice p1 n1 c1) (.slice p2 n2 c2) n1 n2) (fun x _ => n1 - (intOf x).toNat)
   case atStart => exact ⟨0, by omega, rfl, HI3.out⟩
   case round =>
    obtain ⟨k, hk, rfl, hI⟩ := hrel; clear c3
    by_cases hlt : k < n1
    ·obtain ⟨g1, e1, he1⟩ := hI.pos1 (by omega)
     simp only [Value.slice.injEq] at he1; obtain ⟨rfl, _, rfl⟩ := he1; have i1 : (k : Int) < n1 := by omega
     obtain ⟨⟨u, hu⟩, hf⟩ := row_at hI.r1 k (by omega); have c3 := S.cell_of wr _ 3 _ _ _ hI.o rfl; have HI : Hid _ := hI.set1 (by decide) (by decide) k (.int .u16 5); have w1' : wrap64 ((k : Int) + 1) = ((k + 1 : Nat) : Int) := by simp [wrap64]; omega
     clear hI; go_wp2; go_roundw
     case rel =>
      first
       | exact ⟨k + 1, hlt, (by first | rfl | rw [w1']), HI.out⟩
       | ((repeat apply Exists.intro); refine ⟨⟨k + 1, hlt, ?_, HI.out⟩, rfl⟩; first | rfl | rw [w1'])
     case measure => exact msr2 _ _ _ k (by first | rfl | rw [w1']) rfl hlt
    ·obtain rfl : n1 = k := by omega
     have c4 := S.cell_of wr _ 4 _ _ _ hI.o rfl; have HI : Hid _ := hI; clear hI hlt hk HI3 HS3; go_wp2
     go_loopw [198] (fun x wr => ∃ q : Nat, q <= n2 /\ x = .int .i64 (q : Int) /\ SI 46 23 101 1 2 wa wr wa.heap.size nB [.int .u16 v.pc, .int .i64 v.st, .int .i64 v.fa, .slice p1 n1 c1, .slice p2 n2 c2] (.slice p1 n1 c1) (.slice p2 n2 c2) n1 n2) (fun x _ => n2 - (intOf x).toNat)
     case atStart => exact ⟨0, by omega, rfl, HI.out⟩
     case round =>
      obtain ⟨q, hq, rfl, hI⟩ := hrel; clear c4
      by_cases hlt : q < n2
      ·obtain ⟨g1, e1, he1⟩ := hI.pos2 (by omega)
       simp only [Value.slice.injEq] at he1; obtain ⟨rfl, _, rfl⟩ := he1; have i1 : (q : Int) < n2 := by omega
       obtain ⟨⟨u, hu⟩, hf⟩ := row_at hI.r2 (q * 2) (by omega); have c4 := S.cell_of wr _ 4 _ _ _ hI.o rfl; have HI2 : Hid _ := hI.set2 (by decide) (by decide) (q * 2) (.int .i64 1); have w1' : wrap64 ((q : Int) + 1) = ((q + 1 : Nat) : Int) := by simp [wrap64]; omega
       clear hI; go_wp2; go_roundw
       case rel =>
        first
         | exact ⟨q + 1, hlt, (by first | rfl | rw [w1']), HI2.out⟩
         | ((repeat apply Exists.intro); refine ⟨⟨q + 1, hlt, ?_, HI2.out⟩, rfl⟩; first | rfl | rw [w1'])
       case measure => exact msr2 _ _ _ q (by first | rfl | rw [w1']) rfl hlt
      ·obtain rfl : n2 = q := by omega
       obtain ⟨xs, h1⟩ := hI.r1; have c3 := S.cell_of wr _ 3 [.int .u16 v.pc, .int .i64 v.st, .int .i64 v.fa, .slice p1 n1 c1, .slice p2 n2 c2] _ _ hI.o rfl; obtain ⟨W1, hW1⟩ : ∃ W1, wr.alloc (.cells #[.int .u16 6] 23) = W1 := ⟨_, rfl⟩
       have hb1 : Below wr.heap.size wr W1 := by rw [<- hW1]; exact P.bel_alloc wr _
       have h1' : W1.ownsRow wa.heap.size 23 1 (.slice p1 n1 c1) n1 xs := S.own_kept h1 fun g _ hg => hb1.block g hg
       have hcs : S.Cs W1 (.slice (some ⟨wr.heap.size, 0, none⟩) 1 1) 1 1 [.int .u16 6] := by
        refine .inr ⟨_, _, rfl, rfl, fun j u hj => ?_, by simp [Value.oneCell']⟩; rw [Addr.add_lit, Nat.zero_add, <- hW1]; exact S.cell_of _ wr.heap.size j [.int .u16 6] _ u (heap_alloc_new wr _) hj
       have hzW : wa.heap.size <= W1.heap.size := Nat.le_trans hI.b.size hb1.size; have HI2 : Hid _ := And.intro hI hb1; clear hI hb1 h1; go_wp2_with (first | (at_builtin; refine S.wpList_append_row _ rfl _ _ 43 23 _ 1 2 Tryz.underlying43 S.info32 rfl (by decide) rfl wa.heap.size _ n1 _ rfl h1' _ 1 _ rfl hcs (by unfold S.room; omega) (by unfold maxLen; omega) hzW ?_))
       intro v' w4 hr4 hg4; obtain ⟨pv, cv, rfl⟩ := own_form hr4; obtain ⟨o4, hI5⟩ := HI2.out.1.grow1 (i := 3) (by decide) (by decide) (by decide) (Nat.le_refl _) HI2.out.2 hg4 hr4; have d3 := S.cell_of w4 nB 3 _ _ _ o4 rfl; have f3 := S.frozen_of w4 nB 3 _ _ o4; clear hW1 h1' hcs hzW HI2 c3 hr4 hg4; obtain ⟨w5, hw5⟩ : ∃ w5, w4.setCell ⟨nB, 3, none⟩ (.slice pv (n1 + 1) cv) = w5 := ⟨_, rfl⟩
       rw [hw5] at hI5; obtain ⟨ys, h2⟩ := hI5.r2; have c4 := S.cell_of w5 nB 4 _ _ _ hI5.o rfl; obtain ⟨W2, hW2⟩ : ∃ W2, w5.alloc (.cells #[.int .i64 4, .int .u16 0] 101) = W2 := ⟨_, rfl⟩
       have hb2 : Below w5.heap.size w5 W2 := by rw [<- hW2]; exact P.bel_alloc w5 _
       have h2' : W2.ownsRow wa.heap.size 101 2 (.slice p2 n2 c2) n2 ys := S.own_kept h2 fun g _ hg => hb2.block g hg
       have hcs : S.Cs W2 (.slice (some ⟨w5.heap.size, 0, none⟩) 1 1) 2 1 [.int .i64 4, .int .u16 0] := by
        refine .inr ⟨_, _, rfl, rfl, fun j u hj => ?_, by simp [Value.oneCell']⟩; rw [Addr.add_lit, Nat.zero_add, <- hW2]; exact S.cell_of _ w5.heap.size j [.int .i64 4, .int .u16 0] _ u (heap_alloc_new w5 _) hj
       have hzW : wa.heap.size <= W2.heap.size := Nat.le_trans hI5.b.size hb2.size; have HI2 : Hid _ := And.intro hI5 hb2; clear hI5 hb2 h2 o4; go_wp2_with (first | (at_builtin; refine S.wpList_append_row _ rfl _ _ 44 101 _ 2 16 Tryz.underlying44 S.info43 rfl (by decide) rfl wa.heap.size _ n2 _ rfl h2' _ 1 _ rfl hcs (by unfold S.room; omega) (by unfold maxLen; omega) hzW ?_))
       intro v' w6 hr6 hg6; obtain ⟨pw, cw, rfl⟩ := own_form hr6; obtain ⟨o6, hI7⟩ := HI2.out.1.grow2 (i := 4) (by decide) (by decide) (by decide) (Nat.le_refl _) HI2.out.2 hg6 hr6; have d4 := S.cell_of w6 nB 4 _ _ _ o6 rfl; have f4 := S.frozen_of w6 nB 4 _ _ o6; have HI7 : Hid _ := hI7; clear hW2 h2' hcs hzW HI2 c4 hr6 hg6 hI7 o6 hw5 d3 f3; go_upto_region 43 with fail
       clear d4 f4; generalize w6.setCell ⟨nB, 4, none⟩ (.slice pw (n2 + 1) cw) = w7 at *
       have HBz : Hid (Below w7.heap.size w7 w7.drew) := ⟨rfl, rfl, rfl, Nat.le_refl _, fun _ _ => rfl⟩
       have HB7 : Hid (Below wa.heap.size wa w7.drew) := HI7.out.b.trans (HBz.out.mono HI7.out.b.size); have HE : Hid (PI w0 w7.drew N pp c kp kc ep ec bp bc (tb + 3) p r) := (Hd.out.next HB7.out).up (by omega); have hS : (fun wz : World => wz.cell? ⟨nB, 3, none⟩ = some (.slice pv (n1 + 1) cv) /\ wz.cell? ⟨(r i).g, 4, none⟩ = some (.slice dp n1 dc)) w7.drew := ⟨S.cell_of w7.drew nB 3 _ _ _ ((HBz.out.block _ (S.lt_of HI7.out.o)).trans HI7.out.o) rfl, (HC.out _ HB7.out).2.2.2.1⟩
       have w1' : IntKind.i64.wrap ((n1 : Int) + 1) = (n1 : Int) + 1 := IntWalk.i64_in _ (by omega); refine wp_region_held_drew (S := (fun wz : World => wz.cell? ⟨nB, 3, none⟩ = some (.slice pv (n1 + 1) cv) /\ wz.cell? ⟨(r i).g, 4, none⟩ = some (.slice dp n1 dc))) (by kernel_rfl) hS (fun hHeld => ?_); clear hS; generalize w7.drew = wz at *
       refine wtk0 (is := [0, 1, 2, 3, 4, 5, 6, 7, 8, 9, 10, 11, 12, 13, 14]) ?_
       iterate 15
        refine V.wt (v := ?_) rfl (by kernel_rfl) (fun c a w h => h) (by rfl) ?_ hHeld ?_
        rotate_left
        ·(intro w hSw; (try dsimp only at hSw); go_simp; try with_reducible rfl)
        simp only [V.pts]
       refine wtkE ?_; refine wpAnyH_done (by kernel_rfl) ?_ _; clear hHeld; go_wp2; go_ret; exact ⟨by simp, _, _, HE.out⟩
end Go.Proofs.YteldjmecomngeaaGreat.V
