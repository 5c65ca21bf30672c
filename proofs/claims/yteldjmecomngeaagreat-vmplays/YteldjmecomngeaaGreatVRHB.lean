import Derived.Test.YteldjmecomngeaaGreatVRStK
namespace Go.Proofs.YteldjmecomngeaaGreat.V
open Go.RowKit
open Go.Proofs
set_option linter.unusedVariables false
set_option linter.unusedSimpArgs false
set_option maxHeartbeats 40000000
set_option maxRecDepth 100000
theorem rst_RHB (g b : Nat) (kv dv rv : Value) (F : Nat -> Prop) (v : VS) (op : Nat) (x : Int) (o1 : 1 <= op) (o2 : op <= 63) (hop : op = 5 \/ op = 61 \/ op = 57 \/ op = 58 \/ op = 59 \/ op = 56 \/ op = 7 \/ op = 8 \/ op = 6 \/ op = 50 \/ op = 52 \/ op = 51 \/ op = 53 \/ op = 63 \/ op = 54 \/ op = 60 \/ op = 62) (hst : v.st = 1) (hlk : look v = ⟨op, x, 0⟩) (hf : rfa op v.D v.R = 0) (htn : v.m.tones.length <= 999000) (W : World) (h : RX W g b kv dv rv F v) :
  Calls Tryz.prog 38 #[.pointer (some ⟨g, 0, none⟩)] W fun e W' => e = .returned (.bool (op == 10)) /\ RY W W' g b kv F { (dn op x (beh v.pc op) v).v with pc := (dn op x (beh v.pc op) v).on } := by
 have HOP : Hid _ := hop
 clear hop
 obtain ⟨t1, t2, t3⟩ := tab_le op o1 o2
 have kT := fun w => tk_any op o1 o2 w
 have kO := fun w => opd_any op o1 o2 w
 rw [opB_eq op o1 o2] at kO
 have hpc := h.wf.pc0
 have hpc1 := h.wf.pc1
 have c2 := h.c2
 rw [hst] at c2
 have hdl := h.dl
 have hrl := h.rl
 obtain ⟨p, cd, hdv, hcd, _⟩ := h.d.ex
 obtain ⟨q, cr, hrv, hcr, _⟩ := h.r.ex
 subst hdv hrv
 have htk : tkN op <= v.D.length := by
  apply Decidable.byContradiction
  intro c; unfold rfa at hf; rw [if_pos (by omega)] at hf
  cases hf
 obtain ⟨nd, hnd⟩ : ∃ n, v.D.length = n := ⟨_, rfl⟩
 obtain ⟨nr, hnr⟩ : ∃ n, v.R.length = n := ⟨_, rfl⟩
 obtain ⟨tk, htk0⟩ : ∃ t, tkN op = t := ⟨_, rfl⟩
 rw [htk0] at kT t1 htk
 rw [hnd] at hdl htk hcd
 rw [hnr] at hrl hcr
 have HX0 : Hid _ := h
 have HN : Hid _ := And.intro hnd (And.intro hnr htk0)
 have kL := rlook_any g b kv _ _ F v W h
 rw [hlk] at kL
 obtain ⟨nx, hnx⟩ : ∃ nx, beh v.pc op = nx := ⟨_, rfl⟩
 have HNX : Hid _ := hnx
 clear h hnd hnr htk0 hnx
 go_enter Tryz.func38, Tryz.ntmps38
 go_wp2_with fail
 refine kL.mono ?_
 rintro e w1 ⟨rfl, hb1⟩
 have kF := faults_any g b kv _ _ F v op o1 o2 w1 (HX0.out.below hb1)
 rw [hf] at kF
 have HB1 : Hid _ := hb1
 clear hb1 kL c2
 go_wp2_with fail
 refine kF.mono ?_
 rintro e w2 ⟨rfl, hb2⟩
 have HB2 : Hid (Below W.heap.size W w2) := HB1.out.trans (hb2.mono HB1.out.size)
 have hx2 := HX0.out.below HB2.out
 have c1 := hx2.c1
 have c4 := hx2.c4
 have c5 := hx2.c5
 rw [HN.out.1] at c4
 rw [HN.out.2.1] at c5
 have HX2 : Hid _ := hx2
 clear hb2 kF HB1 hx2
 have u2 := u16_2 v.pc
 go_upto_if 48 with (refine (kO _).mono ?_; rintro e wx ⟨rfl, hwx⟩; rw [hwx]; clear hwx wx)
 go_cut [6] (fun s wz => s = .int .u16 nx /\ wz = w2)
 case first =>
  as_aux_lemma =>
   cases hrb : P.rb op with
   | true =>
    have e1 : nx = (v.pc + 4) % 65536 := by rw [<- HNX.out]; unfold beh; rw [hrb]; rfl
    have e2 : IntKind.u16.wrap ((v.pc + 2) % 65536 + 2) = nx := by rw [M.u16_wrap, e1]; omega
    have e3 : ((v.pc + 2) % 65536 + 2) % 65536 = nx := by rw [e1]; omega
    clear e1 kO; go_wp2; go_meet
    case rel => exact ⟨rfl, rfl⟩
   | false =>
    have e1 : (v.pc + 2) % 65536 = nx := by rw [<- HNX.out]; unfold beh; rw [hrb]; rfl
    have HE : Hid _ := e1; clear e1 kO; go_wp2; go_meet
    case rel => exact ⟨by rw [HE.out], rfl⟩
 case rest =>
  as_aux_lemma =>
   obtain ⟨rfl, hwz⟩ := hcut; subst hwz; clear kO u2; have w13 : IntKind.i64.wrap ((nd : Int) - (tk : Int)) = ((nd - tk : Nat) : Int) := by rw [IntWalk.i64_in _ (by omega)]; omega
   have hmk : ∀ X : World, Below wc.heap.size wc X -> (fun wz : World => wz.cell? ⟨g, 4, none⟩ = some (.slice p nd cd)) X := fun X hX => by show X.cell? ⟨g, 4, none⟩ = some (.slice p nd cd); rw [hX.cell (World.block_lt_of_cell? wc _ c4)]; exact c4
   have HMK : Hid _ := hmk; have HB0 : Hid (Below wc.heap.size wc wc.drew) := ⟨rfl, rfl, rfl, Nat.le_refl _, fun _ _ => rfl⟩
   clear hmk; go_upto_region 13 with fail
   refine V.wrh HMK.out HB0.out (by kernel_rfl) (fun hHeld => ?_); generalize wc.drew = y0 at *
   refine wtk0 (is := [0, 1, 2, 3, 4, 5, 6]) ?_
   iterate 7
    refine V.wt (v := ?_) rfl (by kernel_rfl) (fun c a w h => h) (by rfl) ?_ hHeld ?_
    rotate_left
    ·(intro w hSw; (try dsimp only at hSw); go_simp; try with_reducible rfl)
    simp only [V.pts]
   refine wtkE ?_; refine V.wrd 7 (by kernel_rfl) rfl fun K hK => ?_
   go_simp; refine (kT _).mono ?_; rintro e wx ⟨rfl, hwx⟩; dsimp only; rw [hwx]; clear hwx wx; refine hK.out _ _ (HMK.out _ HB0.out) (fun hHeld => ?_); clear hK K; try simp only [V.pts]
   refine wtk0 (is := [8, 9]) ?_
   iterate 2
    refine V.wt (v := ?_) rfl (by kernel_rfl) (fun c a w h => h) (by rfl) ?_ hHeld ?_
    rotate_left
    ·(intro w hSw; (try dsimp only at hSw); go_simp; try with_reducible rfl)
    simp only [V.pts]
   refine wtkE ?_; refine wpAnyH_done (by kernel_rfl) ?_ _; clear hHeld; have HBy : Hid (Below W.heap.size W y0) := HB2.out.trans (HB0.out.mono HB2.out.size); have hxy := HX0.out.below HBy.out; have d4 := hxy.c4; have d5 := hxy.c5; rw [HN.out.1] at d4; rw [HN.out.2.1] at d5; obtain ⟨rn, hrn⟩ : ∃ rn, nd - tk = rn := ⟨_, rfl⟩
   obtain ⟨inn, hinn⟩ : ∃ inn, v.D.drop rn = inn := ⟨_, rfl⟩
   rw [hrn] at w13 ⊢; obtain ⟨ps, hps⟩ : ∃ ps, (if cd = rn then p else p.map (·.add rn)) = ps := ⟨_, rfl⟩
   obtain ⟨cps, hcps⟩ : ∃ c, cd - rn = c := ⟨_, rfl⟩
   have hti : nd - rn = tk := by omega
   have s14 : ∀ X : World, (Instr.sliceAt 43 (.slice p nd cd) (some (.int .i64 (rn : Int))) none none).run Tryz.prog X = .ok (.slice ps tk cps) X := fun X => by
    rw [su_from X p nd cd rn (rn : Int) rfl (by omega), hps, hti, hcps]
   have s15 := fun (X : World) => su_to X p nd cd rn (rn : Int) rfl (by omega)
   have HRN : Hid _ := hrn; clear c1 c4 c5 HMK hxy kT; obtain ⟨y1, hy1⟩ : ∃ y, y0.alloc (.cells #[] 23) = y := ⟨_, rfl⟩
   have b1 : Below y0.heap.size y0 y1 := by rw [<- hy1]; exact P.bel_alloc y0 _
   have own1 := S.own_empty y0 23 1; rw [hy1] at own1; have lsD := (HX0.out.below (HBy.out.trans (b1.mono HBy.out.size))).d; rw [HN.out.1] at lsD
   have cs1 : S.Cs y1 (.slice ps tk cps) 1 tk (S.en S.eU inn) := by
    have := cs_from (l := v.D) (by rw [HN.out.1]; exact lsD) rn (by rw [HN.out.1]; omega); rw [HN.out.1, hps, hti, hcps, hinn] at this; exact this
   have z1 : y0.heap.size <= y1.heap.size := b1.size; have e4 : y1.cell? ⟨g, 4, none⟩ = some (.slice p nd cd) := by rw [b1.cell (World.block_lt_of_cell? y0 _ d4)]; exact d4
   have e4' : (y0.alloc (.cells #[] 23)).cell? ⟨g, 4, none⟩ = some (.slice p nd cd) := by rw [hy1]; exact e4
   have HY1 : Hid _ := hy1; have HB1 : Hid _ := b1; have bound1 : (0 + tk) * 2 <= S.room := by unfold S.room; omega
   have bound2 : 0 + tk <= maxLen := by unfold maxLen; omega
   clear hy1 b1 lsD; go_upto_region 14 with fail
   go_wp2_with (first | (at_builtin; rw [HY1.out]; refine S.wpList_append_row _ rfl _ _ 43 23 _ 1 2 Tryz.underlying43 S.info32 rfl (by decide) rfl y0.heap.size _ 0 [] rfl own1 _ tk _ rfl cs1 bound1 bound2 z1 ?_))
   intro iv y2 oi gi; try simp only [Nat.zero_add, List.nil_append] at oi
   clear e4 e4' own1 cs1 z1 bound1 bound2 s14; obtain ⟨pi, ci, hiv⟩ := own_fm oi; subst hiv; have b2 : Below y0.heap.size y0 y2 := gi.belowAll (fun g e => by rw [show g = y0.heap.size by simpa [Value.ownBlock] using e.symm]; exact Nat.le_refl _) HB1.out (Nat.le_refl _); have hW0 := HBy.out.size; have OI := S.hid (S.own_mono oi hW0); have HBy2 : Hid (Below W.heap.size W y2) := HBy.out.trans (b2.mono HBy.out.size); clear oi gi b2 d4; obtain ⟨y3, hy3⟩ : ∃ y, y2.alloc (.cells #[] 23) = y := ⟨_, rfl⟩
   have b3 : Below y2.heap.size y2 y3 := by rw [<- hy3]; exact P.bel_alloc y2 _
   have own3 := S.own_empty y2 23 1; rw [hy3] at own3; have hx3 := HX0.out.below (HBy2.out.trans (b3.mono HBy2.out.size)); have cs3 : S.Cs y3 (.slice p rn cd) 1 rn (S.en S.eU (v.D.take rn)) := cs_to hx3.d rn (by rw [HN.out.1]; omega); have z3 : y2.heap.size <= y3.heap.size := b3.size; have e4' : (y2.alloc (.cells #[] 23)).cell? ⟨g, 4, none⟩ = some (.slice p nd cd) := by rw [hy3]; have := hx3.c4; rw [HN.out.1] at this; exact this
   have HY3 : Hid _ := hy3; have HB3 : Hid _ := b3; have bound1 : (0 + rn) * 2 <= S.room := by unfold S.room; omega
   have bound2 : 0 + rn <= maxLen := by unfold maxLen; omega
   clear hy3 b3 hx3; go_upto_region 15 with fail
   go_wp2_with (first | (at_builtin; rw [HY3.out]; refine S.wpList_append_row _ rfl _ _ 43 23 _ 1 2 Tryz.underlying43 S.info32 rfl (by decide) rfl y2.heap.size _ 0 [] rfl own3 _ rn _ rfl cs3 bound1 bound2 z3 ?_))
   intro d1 y4 od gd; try simp only [Nat.zero_add, List.nil_append] at od
   clear e4' own3 cs3 z3 bound1 bound2 s15; obtain ⟨pd, cd1, hd1⟩ := own_fm od; subst hd1; have b4 : Below y2.heap.size y2 y4 := gd.belowAll (fun g e => by rw [show g = y2.heap.size by simpa [Value.ownBlock] using e.symm]; exact Nat.le_refl _) HB3.out (Nat.le_refl _); have HNE : Hid (∀ k, Value.ownBlock (.slice pi tk ci) = some k -> ¬ Value.ownBlock (.slice pd rn cd1) = some k) := fun k e c => by have h1 := (World.ownsRow.lt OI.out k e).2; have h2 := (World.ownsRow.lt od k c).1; omega
   have OD := S.hid (S.own_mono od HBy2.out.size); have OI := S.hid (own_nw OI.out b4); have HBy4 : Hid (Below W.heap.size W y4) := HBy2.out.trans (b4.mono HBy2.out.size); clear od gd b4; obtain ⟨y5, hy5⟩ : ∃ y, y4.alloc (.cells #[] 101) = y := ⟨_, rfl⟩
   have b5 : Below y4.heap.size y4 y5 := by rw [<- hy5]; exact P.bel_alloc y4 _
   have own5 := S.own_empty y4 101 2; rw [hy5] at own5; have hx5 := HX0.out.below (HBy4.out.trans (b5.mono HBy4.out.size)); have cs5 : S.Cs y5 (.slice q nr cr) 2 nr (S.en S.eK v.R) := by have := S.Ls.cs S.hK (by decide) S.oneK hx5.r; rw [HN.out.2.1] at this; exact this
   have z5 : y4.heap.size <= y5.heap.size := b5.size; have e5' : (y4.alloc (.cells #[] 101)).cell? ⟨g, 5, none⟩ = some (.slice q nr cr) := by rw [hy5]; have := hx5.c5; rw [HN.out.2.1] at this; exact this
   have HY5 : Hid _ := hy5; have HB5 : Hid _ := b5; have bound1 : (0 + nr) * 16 <= S.room := by unfold S.room; omega
   have bound2 : 0 + nr <= maxLen := by unfold maxLen; omega
   clear hy5 b5 hx5 d5; go_upto_region 16 with fail
   go_wp2_with (first | (at_builtin; rw [HY5.out]; refine S.wpList_append_row _ rfl _ _ 44 101 _ 2 16 Tryz.underlying44 S.info43 rfl (by decide) rfl y4.heap.size _ 0 [] rfl own5 _ nr _ rfl cs5 bound1 bound2 z5 ?_))
   intro r1 y6 orr gr; try simp only [Nat.zero_add, List.nil_append] at orr
   clear e5' own5 cs5 z5 bound1 bound2; obtain ⟨pr, cr1, hr1⟩ := own_fm orr; subst hr1; have b6 : Below y4.heap.size y4 y6 := gr.belowAll (fun g e => by rw [show g = y4.heap.size by simpa [Value.ownBlock] using e.symm]; exact Nat.le_refl _) HB5.out (Nat.le_refl _)
   have HRC : Hid (RC W y6 (.slice pi tk ci) (.slice pd rn cd1) (.slice pr nr cr1) inn (v.D.take rn) v.R) := by
    have h1 : inn.length = tk := by rw [<- hinn, List.length_drop, HN.out.1]; omega
    have h2 : (v.D.take rn).length = rn := by rw [List.length_take, HN.out.1]; omega
    refine ⟨HBy4.out.trans (b6.mono HBy4.out.size), ?_, ?_, ?_⟩
    ·rw [h1]; exact own_nw OI.out b6
    ·rw [h2]; exact own_nw OD.out b6
    ·rw [HN.out.2.1]; exact S.own_mono orr HBy4.out.size
   have HII : Hid (v.D.drop rn = inn) := hinn; clear orr gr b6 OI OD HBy HBy2 HBy4 HB0 HB1 HB2 HB3 HB5 HX2 HY1 HY3 HY5 w13 hinn hps hcps; have wtop : IntKind.i64.wrap ((nr : Int) - 1) = (nr : Int) - 1 := IntWalk.i64_in _ (by omega); go_upto_region 18 with fail
   have hgo := HX0.out.lt; have HDL := S.hid (S.own_sl S.hU HRC.out.d); have HRL := S.hid (S.own_sl S.hK HRC.out.r); have HBK : Hid (∀ k, (Value.ownBlock (.slice pd rn cd1) = some k \/ Value.ownBlock (.slice pr nr cr1) = some k) -> W.heap.size <= k /\ k < y6.heap.size) := fun k e => e.elim (fun e => World.ownsRow.lt HRC.out.d k e) (fun e => World.ownsRow.lt HRC.out.r k e)
   have HPC : Hid (C.C nx) := by rw [<- HNX.out]; unfold beh; split <;> exact rng _
   have HCD : Hid (∀ x ∈ v.D.take rn, C.C x) := fun x hx => HX0.out.wf.d x (List.mem_of_mem_take hx)
   have HCI : Hid (∀ x ∈ inn, C.C x) := fun x hx => HX0.out.wf.d x (by rw [<- HII.out] at hx; exact List.mem_of_mem_drop hx)
   have HCR : Hid (∀ q ∈ v.R, C.C q.2) := HX0.out.wf.r; have H0 : Hid _ := rfa0 hf; have htl : (v.D.take rn).length = rn := by rw [List.length_take, HN.out.1]; have := HRN.out; omega
   have HTL : Hid _ := htl; have hil : inn.length = tk := by rw [<- HII.out, List.length_drop, HN.out.1]; have := HRN.out; have h2 := H0.out.1; rw [HN.out.1, HN.out.2.2] at h2; omega
   have HIL : Hid _ := hil; clear htl hil; have HXC : Hid (C.C x) := by have := look_c v HX0.out.wf; rw [hlk] at this; exact this
   have ODy6 : Hid (y6.ownsRow W.heap.size 23 1 (.slice pd rn cd1) rn (S.en S.eU (v.D.take rn))) := by have := HRC.out.d; rw [HTL.out] at this; exact this
   have ORy6 : Hid (y6.ownsRow W.heap.size 101 2 (.slice pr nr cr1) nr (S.en S.eK v.R)) := by have := HRC.out.r; rw [HN.out.2.1] at this; exact this
   have HBy6 : Hid (Below W.heap.size W y6) := HRC.out.bel; have HP := HOP.out; clear HOP
   rcases HP with hop | hop | hop | hop | hop | hop | hop | hop | hop | hop | hop | hop | hop | hop | hop | hop | hop
   ·as_aux_lemma =>
     have HOP : Hid (op = 5) := hop; clear hop; obtain rfl := HOP.out
     obtain ⟨a0, hi⟩ : ∃ a0, inn = [a0] := by
      have h1 := HIL.out; have h2 := HN.out.2.2; simp only [tkN] at h2; rw [<- h2] at h1
      match inn, h1 with
      | [c0], _ => exact ⟨c0, rfl⟩
     subst hi; obtain rfl : 1 = tk := by have := HIL.out; simpa using this
     obtain ⟨gi, cq, hci, ce0⟩ := HRC.out.in 0 a0 rfl
     simp at hci
     obtain ⟨rfl, rfl⟩ := hci
     by_cases hz : a0 = 0
     ·have HQ : Hid _ := hz
      have f0 : (a0 == 0) = true := by simp [hz]
      have HRA := S.hid (RA.of HX0.out HRC.out.bel HDL.out HRL.out HBK.out); obtain ⟨u4, u5, u1, f4, g4, f5, g5, f1, g1, hY⟩ := HRA.out.fin (x) (by rw [HTL.out]; have := HX0.out.dl; rw [HN.out.1] at this; have := HRN.out; omega) HX0.out.rl HXC.out HCD.out HCR.out; have HY : Hid _ := hY
      have hSt : ({ (dn 5 x (beh v.pc 5) v).v with pc := (dn 5 x (beh v.pc 5) v).on } : VS) = { v with D := v.D.take rn, R := v.R, pc := x } := by
       have hD : v.D.reverse = a0 :: (v.D.take rn).reverse := by
        conv => lhs; rw [<- List.take_append_drop rn v.D, HII.out]
        simp
       have e : dn 5 x (beh v.pc 5) v = ⟨if a0 = 0 then x else beh v.pc 5, 0, { v with D := v.D.take rn }⟩ := by
        show (match v.D.reverse with
         | [] => (⟨beh v.pc 5, 1, v⟩ : DN)
         | a :: t => ⟨if a = 0 then x else beh v.pc 5, 0, { v with D := t.reverse }⟩) = _
        rw [hD]
        simp
       rw [e]; try rw [<- HNX.out]
       rw [if_pos HQ.out]
      have HST : Hid _ := hSt; clear hSt; clear hY; go_wp2; go_ret; refine ⟨rfl, ?_⟩; rw [HST.out]; exact HY.out
     ·have HQ : Hid _ := hz
      have f0 : (a0 == 0) = false := by simp [hz]
      have HRA := S.hid (RA.of HX0.out HRC.out.bel HDL.out HRL.out HBK.out); obtain ⟨u4, u5, u1, f4, g4, f5, g5, f1, g1, hY⟩ := HRA.out.fin (nx) (by rw [HTL.out]; have := HX0.out.dl; rw [HN.out.1] at this; have := HRN.out; omega) HX0.out.rl HPC.out HCD.out HCR.out; have HY : Hid _ := hY
      have hSt : ({ (dn 5 x (beh v.pc 5) v).v with pc := (dn 5 x (beh v.pc 5) v).on } : VS) = { v with D := v.D.take rn, R := v.R, pc := nx } := by
       have hD : v.D.reverse = a0 :: (v.D.take rn).reverse := by
        conv => lhs; rw [<- List.take_append_drop rn v.D, HII.out]
        simp
       have e : dn 5 x (beh v.pc 5) v = ⟨if a0 = 0 then x else beh v.pc 5, 0, { v with D := v.D.take rn }⟩ := by
        show (match v.D.reverse with
         | [] => (⟨beh v.pc 5, 1, v⟩ : DN)
         | a :: t => ⟨if a = 0 then x else beh v.pc 5, 0, { v with D := t.reverse }⟩) = _
        rw [hD]
        simp
       rw [e]; try rw [<- HNX.out]
       rw [if_neg HQ.out]
      have HST : Hid _ := hSt; clear hSt; clear hY; go_wp2; go_ret; refine ⟨rfl, ?_⟩; rw [HST.out]; exact HY.out
   ·as_aux_lemma =>
     have HOP : Hid (op = 61) := hop; clear hop; obtain rfl := HOP.out; have HM6 : Hid (M.IsR y6 F b v.m) := (HX0.out.below HRC.out.bel).mem; have c6 : y6.cell? ⟨g, 6, none⟩ = some (.pointer (some ⟨b, 0, none⟩)) := (HX0.out.below HRC.out.bel).c6; have cp : y6.cell? ⟨b, 4, none⟩ = some (.int .u8 v.m.pad) := rpad HM6.out; have hp0 := HM6.out.1.pad0; have hp1 := HM6.out.1.pad1; have wcv : IntKind.u16.wrap v.m.pad = v.m.pad := by rw [M.u16_wrap]; omega
     have HCC : Hid (C.C v.m.pad) := ⟨by omega, by omega⟩
     obtain ⟨cv, hcv⟩ : ∃ c, v.m.pad = c := ⟨_, rfl⟩
     rw [hcv] at cp wcv; have HCC : Hid (C.C cv) := by rw [<- hcv]; exact HCC.out
     have HCV : Hid _ := hcv; clear hcv hp0 hp1; obtain ⟨y7, hy7⟩ : ∃ y, y6.alloc (.cells #[.int .u16 (cv)] 23) = y := ⟨_, rfl⟩
     have b7 : Below y6.heap.size y6 y7 := by rw [<- hy7]; exact P.bel_alloc y6 _
     have v7 : y7.heap[y6.heap.size]? = some (.cells [.int .u16 (cv)].toArray 23 (0, 0)) := by rw [<- hy7]; exact heap_alloc_new y6 _
     have cs7 : S.Cs y7 (.slice (some ⟨y6.heap.size, 0, none⟩) 1 1) 1 1 (S.en S.eU [cv]) := .inr ⟨_, _, rfl, rfl, fun j u hj => by rw [Addr.add_lit, Nat.zero_add]; exact S.cell_of y7 _ j _ _ u v7 hj, S.oneU _⟩; have od7 := own_nw ODy6.out b7; have or7 := own_nw ORy6.out b7; have z7 : W.heap.size <= y7.heap.size := Nat.le_trans HBy6.out.size b7.size; have bd1 : (rn + 1) * 2 <= S.room := by unfold S.room; omega
     have bd2 : rn + 1 <= maxLen := by unfold maxLen; omega
     have HY7 : Hid _ := hy7; have HB7 : Hid (Below W.heap.size W y7) := HBy6.out.trans (b7.mono HBy6.out.size); clear hy7 b7 v7; go_upto_region 85 with fail
     go_wp2_with (first | (at_builtin; rw [HY7.out]; refine S.wpList_append_row _ rfl _ _ 43 23 _ 1 2 Tryz.underlying43 S.info32 rfl (by decide) rfl W.heap.size _ rn _ rfl od7 _ 1 _ rfl cs7 bd1 bd2 z7 ?_))
     intro d2 y8 od8 gd8; obtain ⟨p8, c8, hd8'⟩ := own_fm od8; subst hd8'; have hb8 : Below W.heap.size y7 y8 := gd8.below (fun k e => (World.ownsRow.lt od7 k e).1) z7; have or8 : y8.ownsRow W.heap.size 101 2 (.slice pr nr cr1) nr (S.en S.eK v.R) := own_ty or7 od7 gd8 (by decide)
     have HRA : Hid (RA W y8 g b kv F v (.slice p8 (rn + 1) c8) (.slice pr nr cr1) (v.D.take rn ++ [cv]) v.R) := by
      refine RA.of HX0.out (HB7.out.trans hb8) (S.own_sl S.hU (t := 23) (B := W.heap.size) ?_) (S.own_sl S.hK (t := 101) (B := W.heap.size) ?_) (fun k e => e.elim (fun e => World.ownsRow.lt od8 k e) (fun e => World.ownsRow.lt or8 k e))
      ·rw [List.length_append, HTL.out, S.en_append]; exact od8
      ·rw [HN.out.2.1]; exact or8
     clear od8 gd8 hb8 or8 od7 or7 z7 bd1 bd2 cs7; obtain ⟨u4, u5, u1, f4, g4, f5, g5, f1, g1, hY⟩ := HRA.out.fin (nx) (by rw [List.length_append, HTL.out]; have := H0.out.2.1; simp only [lvN, List.length_cons, List.length_nil] at this ⊢; have h3 := HRN.out; have h4 := HN.out.2.2; simp only [tkN] at this h4; rw [HN.out.1] at this; omega) HX0.out.rl HPC.out (fun z hz => by rcases List.mem_append.1 hz with h | h; exact HCD.out z h; simp only [List.mem_cons, List.not_mem_nil, or_false] at h; rcases h with h <;> (rw [h]; exact HCC.out)) HCR.out; have HY : Hid _ := hY
     have hSt : ({ (dn 61 x (beh v.pc 61) v).v with pc := (dn 61 x (beh v.pc 61) v).on } : VS) = { v with D := v.D.take rn ++ [cv], R := v.R, pc := nx } := by
      have hpl : ({ (dn 61 x (beh v.pc 61) v).v with pc := (dn 61 x (beh v.pc 61) v).on } : VS) = _ := st_plain 61 (by decide) (by rfl) x (beh v.pc 61) v hf; rw [hpl, <- HNX.out]; have hrn' : v.D.length - tkN 61 = rn := by rw [HN.out.1, HN.out.2.2]; exact HRN.out
      have hII := HII.out; simp only [tkN] at hrn'
      simp [P.nD, P.nR, P.nM, P.rw_, P.rest, P.xAt, P.tops, hrn', hII, P.putN, P.retN, P.memN, C.isUn, C.isBi, HCV.out]
     have HST : Hid _ := hSt; clear hSt; clear hY; go_wp2; go_ret; refine ⟨rfl, ?_⟩; rw [HST.out]; exact HY.out
   ·as_aux_lemma =>
     have HOP : Hid (op = 57) := hop; clear hop; obtain rfl := HOP.out; obtain ⟨tl, sv, hRl⟩ := rfa_57 hf; obtain ⟨J, hJl⟩ : ∃ J, tl.length = J := ⟨_, rfl⟩
     have hJn : nr = J + 1 := by rw [<- HN.out.2.1, hRl, List.length_append, hJl]; rfl
     have HJ : Hid (v.R[J]? = some (4, sv)) := by show v.R[J]? = some (4, sv); rw [hRl, <- hJl]; simp
     have HTK : Hid (v.R.take J = tl) := by show v.R.take J = tl; rw [hRl, <- hJl]; simp
     have HRL2 : Hid _ := hRl; have w4 : (nr : Int) - 1 = (J : Int) := by omega
     have w5 : IntKind.i64.wrap ((nr : Int) - 1) = (J : Int) := by rw [wtop]; exact w4
     have j1 : J < nr := by omega
     have j2 : (J : Int) < (nr : Int) := by omega
     have HJN : Hid _ := hJn; have HCS : Hid (C.C sv) := HCR.out (4, sv) (by rw [hRl]; simp); clear wtop hRl hJl hJn; obtain ⟨gr, cq, hcr, ck, ct⟩ := HRC.out.top J (4, sv) HJ.out; rw [HN.out.2.1] at hcr
     simp at hcr
     obtain ⟨rfl, rfl⟩ := hcr; clear ck; obtain ⟨y7, hy7⟩ : ∃ y, y6.alloc (.cells #[.int .u16 (sv)] 23) = y := ⟨_, rfl⟩
     have b7 : Below y6.heap.size y6 y7 := by rw [<- hy7]; exact P.bel_alloc y6 _
     have v7 : y7.heap[y6.heap.size]? = some (.cells [.int .u16 (sv)].toArray 23 (0, 0)) := by rw [<- hy7]; exact heap_alloc_new y6 _
     have cs7 : S.Cs y7 (.slice (some ⟨y6.heap.size, 0, none⟩) 1 1) 1 1 (S.en S.eU [sv]) := .inr ⟨_, _, rfl, rfl, fun j u hj => by rw [Addr.add_lit, Nat.zero_add]; exact S.cell_of y7 _ j _ _ u v7 hj, S.oneU _⟩; have od7 := own_nw ODy6.out b7; have or7 := own_nw ORy6.out b7; have z7 : W.heap.size <= y7.heap.size := Nat.le_trans HBy6.out.size b7.size; have bd1 : (rn + 1) * 2 <= S.room := by unfold S.room; omega
     have bd2 : rn + 1 <= maxLen := by unfold maxLen; omega
     have HY7 : Hid _ := hy7; have HB7 : Hid (Below W.heap.size W y7) := HBy6.out.trans (b7.mono HBy6.out.size); clear hy7 b7 v7; go_upto_region 79 with fail
     go_wp2_with (first | (at_builtin; rw [HY7.out]; refine S.wpList_append_row _ rfl _ _ 43 23 _ 1 2 Tryz.underlying43 S.info32 rfl (by decide) rfl W.heap.size _ rn _ rfl od7 _ 1 _ rfl cs7 bd1 bd2 z7 ?_))
     intro d2 y8 od8 gd8; obtain ⟨p8, c8, hd8'⟩ := own_fm od8; subst hd8'; have hb8 : Below W.heap.size y7 y8 := gd8.below (fun k e => (World.ownsRow.lt od7 k e).1) z7; have or8 : y8.ownsRow W.heap.size 101 2 (.slice (some ⟨gr, 0, none⟩) nr cr1) nr (S.en S.eK v.R) := own_ty or7 od7 gd8 (by decide)
     have HRA : Hid (RA W y8 g b kv F v (.slice p8 (rn + 1) c8) (.slice (some ⟨gr, 0, none⟩) nr cr1) (v.D.take rn ++ [sv]) v.R) := by
      refine RA.of HX0.out (HB7.out.trans hb8) (S.own_sl S.hU (t := 23) (B := W.heap.size) ?_) (S.own_sl S.hK (t := 101) (B := W.heap.size) ?_) (fun k e => e.elim (fun e => World.ownsRow.lt od8 k e) (fun e => World.ownsRow.lt or8 k e))
      ·rw [List.length_append, HTL.out, S.en_append]; exact od8
      ·rw [HN.out.2.1]; exact or8
     clear od8 gd8 hb8 or8 od7 or7 z7 bd1 bd2 cs7; obtain ⟨u4, u5, u1, f4, g4, f5, g5, f1, g1, hY⟩ := HRA.out.fin (nx) (by rw [List.length_append, HTL.out]; have := H0.out.2.1; simp only [lvN, List.length_cons, List.length_nil] at this ⊢; have h3 := HRN.out; have h4 := HN.out.2.2; simp only [tkN] at this h4; rw [HN.out.1] at this; omega) HX0.out.rl HPC.out (fun z hz => by rcases List.mem_append.1 hz with h | h; exact HCD.out z h; simp only [List.mem_cons, List.not_mem_nil, or_false] at h; rcases h with h <;> (rw [h]; exact HCS.out)) HCR.out; have HY : Hid _ := hY
     have hSt : ({ (dn 57 x (beh v.pc 57) v).v with pc := (dn 57 x (beh v.pc 57) v).on } : VS) = { v with D := v.D.take rn ++ [sv], R := v.R, pc := nx } := by
      have hpl : ({ (dn 57 x (beh v.pc 57) v).v with pc := (dn 57 x (beh v.pc 57) v).on } : VS) = _ := st_plain 57 (by decide) (by rfl) x (beh v.pc 57) v hf; rw [hpl, <- HNX.out]; have hrn' : v.D.length - tkN 57 = rn := by rw [HN.out.1, HN.out.2.2]; exact HRN.out
      have hII := HII.out; have hRe := HRL2.out; simp only [tkN] at hrn'
      simp [P.nD, P.nR, P.nM, P.rw_, P.rest, P.xAt, P.tops, hrn', hII, P.putN, P.retN, P.memN, C.isUn, C.isBi, hRe, P.lk]
     have HST : Hid _ := hSt; clear hSt; clear hY; go_wp2; go_ret; refine ⟨rfl, ?_⟩; rw [HST.out]; exact HY.out
   ·as_aux_lemma =>
     have HOP : Hid (op = 58) := hop; clear hop; obtain rfl := HOP.out; obtain ⟨tl, sv, hRl⟩ := rfa_58 hf; obtain ⟨J, hJl⟩ : ∃ J, tl.length = J := ⟨_, rfl⟩
     have hJn : nr = J + 1 := by rw [<- HN.out.2.1, hRl, List.length_append, hJl]; rfl
     have HJ : Hid (v.R[J]? = some (3, sv)) := by show v.R[J]? = some (3, sv); rw [hRl, <- hJl]; simp
     have HTK : Hid (v.R.take J = tl) := by show v.R.take J = tl; rw [hRl, <- hJl]; simp
     have HRL2 : Hid _ := hRl; have w4 : (nr : Int) - 1 = (J : Int) := by omega
     have w5 : IntKind.i64.wrap ((nr : Int) - 1) = (J : Int) := by rw [wtop]; exact w4
     have j1 : J < nr := by omega
     have j2 : (J : Int) < (nr : Int) := by omega
     have HJN : Hid _ := hJn; have HCS : Hid (C.C sv) := HCR.out (3, sv) (by rw [hRl]; simp); clear wtop hRl hJl hJn; obtain ⟨gr, cq, hcr, ck, ct⟩ := HRC.out.top J (3, sv) HJ.out; rw [HN.out.2.1] at hcr
     simp at hcr
     obtain ⟨rfl, rfl⟩ := hcr; clear ck; obtain ⟨y7, hy7⟩ : ∃ y, y6.alloc (.cells #[.int .u16 (sv)] 23) = y := ⟨_, rfl⟩
     have b7 : Below y6.heap.size y6 y7 := by rw [<- hy7]; exact P.bel_alloc y6 _
     have v7 : y7.heap[y6.heap.size]? = some (.cells [.int .u16 (sv)].toArray 23 (0, 0)) := by rw [<- hy7]; exact heap_alloc_new y6 _
     have cs7 : S.Cs y7 (.slice (some ⟨y6.heap.size, 0, none⟩) 1 1) 1 1 (S.en S.eU [sv]) := .inr ⟨_, _, rfl, rfl, fun j u hj => by rw [Addr.add_lit, Nat.zero_add]; exact S.cell_of y7 _ j _ _ u v7 hj, S.oneU _⟩; have od7 := own_nw ODy6.out b7; have or7 := own_nw ORy6.out b7; have z7 : W.heap.size <= y7.heap.size := Nat.le_trans HBy6.out.size b7.size; have bd1 : (rn + 1) * 2 <= S.room := by unfold S.room; omega
     have bd2 : rn + 1 <= maxLen := by unfold maxLen; omega
     have HY7 : Hid _ := hy7; have HB7 : Hid (Below W.heap.size W y7) := HBy6.out.trans (b7.mono HBy6.out.size); clear hy7 b7 v7; go_upto_region 79 with fail
     go_wp2_with (first | (at_builtin; rw [HY7.out]; refine S.wpList_append_row _ rfl _ _ 43 23 _ 1 2 Tryz.underlying43 S.info32 rfl (by decide) rfl W.heap.size _ rn _ rfl od7 _ 1 _ rfl cs7 bd1 bd2 z7 ?_))
     intro d2 y8 od8 gd8; obtain ⟨p8, c8, hd8'⟩ := own_fm od8; subst hd8'; have hb8 : Below W.heap.size y7 y8 := gd8.below (fun k e => (World.ownsRow.lt od7 k e).1) z7; have or8 : y8.ownsRow W.heap.size 101 2 (.slice (some ⟨gr, 0, none⟩) nr cr1) nr (S.en S.eK v.R) := own_ty or7 od7 gd8 (by decide)
     have HRA : Hid (RA W y8 g b kv F v (.slice p8 (rn + 1) c8) (.slice (some ⟨gr, 0, none⟩) nr cr1) (v.D.take rn ++ [sv]) v.R) := by
      refine RA.of HX0.out (HB7.out.trans hb8) (S.own_sl S.hU (t := 23) (B := W.heap.size) ?_) (S.own_sl S.hK (t := 101) (B := W.heap.size) ?_) (fun k e => e.elim (fun e => World.ownsRow.lt od8 k e) (fun e => World.ownsRow.lt or8 k e))
      ·rw [List.length_append, HTL.out, S.en_append]; exact od8
      ·rw [HN.out.2.1]; exact or8
     clear od8 gd8 hb8 or8 od7 or7 z7 bd1 bd2 cs7; obtain ⟨u4, u5, u1, f4, g4, f5, g5, f1, g1, hY⟩ := HRA.out.fin (nx) (by rw [List.length_append, HTL.out]; have := H0.out.2.1; simp only [lvN, List.length_cons, List.length_nil] at this ⊢; have h3 := HRN.out; have h4 := HN.out.2.2; simp only [tkN] at this h4; rw [HN.out.1] at this; omega) HX0.out.rl HPC.out (fun z hz => by rcases List.mem_append.1 hz with h | h; exact HCD.out z h; simp only [List.mem_cons, List.not_mem_nil, or_false] at h; rcases h with h <;> (rw [h]; exact HCS.out)) HCR.out; have HY : Hid _ := hY
     have hSt : ({ (dn 58 x (beh v.pc 58) v).v with pc := (dn 58 x (beh v.pc 58) v).on } : VS) = { v with D := v.D.take rn ++ [sv], R := v.R, pc := nx } := by
      have hpl : ({ (dn 58 x (beh v.pc 58) v).v with pc := (dn 58 x (beh v.pc 58) v).on } : VS) = _ := st_plain 58 (by decide) (by rfl) x (beh v.pc 58) v hf; rw [hpl, <- HNX.out]; have hrn' : v.D.length - tkN 58 = rn := by rw [HN.out.1, HN.out.2.2]; exact HRN.out
      have hII := HII.out; have hRe := HRL2.out; simp only [tkN] at hrn'
      simp [P.nD, P.nR, P.nM, P.rw_, P.rest, P.xAt, P.tops, hrn', hII, P.putN, P.retN, P.memN, C.isUn, C.isBi, hRe, P.lk]
     have HST : Hid _ := hSt; clear hSt; clear hY; go_wp2; go_ret; refine ⟨rfl, ?_⟩; rw [HST.out]; exact HY.out
   ·as_aux_lemma =>
     have HOP : Hid (op = 59) := hop; clear hop; obtain rfl := HOP.out; obtain ⟨hR3, sv, hRl⟩ := rfa_59 hf; obtain ⟨J, hJn⟩ : ∃ J, nr = J + 3 := ⟨nr - 3, by rw [HN.out.2.1] at hR3; omega⟩
     have HJ : Hid (v.R[J]? = some (3, sv)) := by show v.R[J]? = some (3, sv); rw [<- hRl, HN.out.2.1, hJn]; rfl
     have w4 : (nr : Int) - 3 = (J : Int) := by omega
     have w5 : (nr : Int) - 1 - 2 = (J : Int) := by omega
     have w6 : IntKind.i64.wrap ((nr : Int) - 3) = (J : Int) := by rw [IntWalk.i64_in _ (by omega)]; exact w4
     have w7 : IntKind.i64.wrap ((nr : Int) - 1 - 2) = (J : Int) := by rw [IntWalk.i64_in _ (by omega)]; exact w5
     have j1 : J < nr := by omega
     have j2 : (J : Int) < (nr : Int) := by omega
     have HR3 : Hid _ := And.intro hR3 hRl; have HCS : Hid (C.C sv) := HCR.out (3, sv) (List.mem_of_getElem? hRl); clear hR3 hRl hJn; obtain ⟨gr, cq, hcr, ck, ct⟩ := HRC.out.top J (3, sv) HJ.out; rw [HN.out.2.1] at hcr
     simp at hcr
     obtain ⟨rfl, rfl⟩ := hcr; clear ck; obtain ⟨y7, hy7⟩ : ∃ y, y6.alloc (.cells #[.int .u16 (sv)] 23) = y := ⟨_, rfl⟩
     have b7 : Below y6.heap.size y6 y7 := by rw [<- hy7]; exact P.bel_alloc y6 _
     have v7 : y7.heap[y6.heap.size]? = some (.cells [.int .u16 (sv)].toArray 23 (0, 0)) := by rw [<- hy7]; exact heap_alloc_new y6 _
     have cs7 : S.Cs y7 (.slice (some ⟨y6.heap.size, 0, none⟩) 1 1) 1 1 (S.en S.eU [sv]) := .inr ⟨_, _, rfl, rfl, fun j u hj => by rw [Addr.add_lit, Nat.zero_add]; exact S.cell_of y7 _ j _ _ u v7 hj, S.oneU _⟩; have od7 := own_nw ODy6.out b7; have or7 := own_nw ORy6.out b7; have z7 : W.heap.size <= y7.heap.size := Nat.le_trans HBy6.out.size b7.size; have bd1 : (rn + 1) * 2 <= S.room := by unfold S.room; omega
     have bd2 : rn + 1 <= maxLen := by unfold maxLen; omega
     have HY7 : Hid _ := hy7; have HB7 : Hid (Below W.heap.size W y7) := HBy6.out.trans (b7.mono HBy6.out.size); clear hy7 b7 v7; go_upto_region 81 with fail
     go_wp2_with (first | (at_builtin; rw [HY7.out]; refine S.wpList_append_row _ rfl _ _ 43 23 _ 1 2 Tryz.underlying43 S.info32 rfl (by decide) rfl W.heap.size _ rn _ rfl od7 _ 1 _ rfl cs7 bd1 bd2 z7 ?_))
     intro d2 y8 od8 gd8; obtain ⟨p8, c8, hd8'⟩ := own_fm od8; subst hd8'; have hb8 : Below W.heap.size y7 y8 := gd8.below (fun k e => (World.ownsRow.lt od7 k e).1) z7; have or8 : y8.ownsRow W.heap.size 101 2 (.slice (some ⟨gr, 0, none⟩) nr cr1) nr (S.en S.eK v.R) := own_ty or7 od7 gd8 (by decide)
     have HRA : Hid (RA W y8 g b kv F v (.slice p8 (rn + 1) c8) (.slice (some ⟨gr, 0, none⟩) nr cr1) (v.D.take rn ++ [sv]) v.R) := by
      refine RA.of HX0.out (HB7.out.trans hb8) (S.own_sl S.hU (t := 23) (B := W.heap.size) ?_) (S.own_sl S.hK (t := 101) (B := W.heap.size) ?_) (fun k e => e.elim (fun e => World.ownsRow.lt od8 k e) (fun e => World.ownsRow.lt or8 k e))
      ·rw [List.length_append, HTL.out, S.en_append]; exact od8
      ·rw [HN.out.2.1]; exact or8
     clear od8 gd8 hb8 or8 od7 or7 z7 bd1 bd2 cs7; obtain ⟨u4, u5, u1, f4, g4, f5, g5, f1, g1, hY⟩ := HRA.out.fin (nx) (by rw [List.length_append, HTL.out]; have := H0.out.2.1; simp only [lvN, List.length_cons, List.length_nil] at this ⊢; have h3 := HRN.out; have h4 := HN.out.2.2; simp only [tkN] at this h4; rw [HN.out.1] at this; omega) HX0.out.rl HPC.out (fun z hz => by rcases List.mem_append.1 hz with h | h; exact HCD.out z h; simp only [List.mem_cons, List.not_mem_nil, or_false] at h; rcases h with h <;> (rw [h]; exact HCS.out)) HCR.out; have HY : Hid _ := hY
     have hSt : ({ (dn 59 x (beh v.pc 59) v).v with pc := (dn 59 x (beh v.pc 59) v).on } : VS) = { v with D := v.D.take rn ++ [sv], R := v.R, pc := nx } := by
      have hpl : ({ (dn 59 x (beh v.pc 59) v).v with pc := (dn 59 x (beh v.pc 59) v).on } : VS) = _ := st_plain 59 (by decide) (by rfl) x (beh v.pc 59) v hf; rw [hpl, <- HNX.out]; have hrn' : v.D.length - tkN 59 = rn := by rw [HN.out.1, HN.out.2.2]; exact HRN.out
      have hII := HII.out; have hRe := HR3.out.2; have hR4 : v.R.length - 1 - 2 = v.R.length - 3 := by omega
      have hR5 : ¬ v.R.length <= 2 := by have := HR3.out.1; omega
      simp only [tkN] at hrn'
      simp [P.nD, P.nR, P.nM, P.rw_, P.rest, P.xAt, P.tops, hrn', hII, P.putN, P.retN, P.memN, C.isUn, C.isBi, hRe, P.lk, hR4, hR5]
     have HST : Hid _ := hSt; clear hSt; clear hY; go_wp2; go_ret; refine ⟨rfl, ?_⟩; rw [HST.out]; exact HY.out
   ·as_aux_lemma =>
     have HOP : Hid (op = 56) := hop; clear hop; obtain rfl := HOP.out; obtain ⟨tl, sv, hRl⟩ := rfa_56 hf; obtain ⟨J, hJl⟩ : ∃ J, tl.length = J := ⟨_, rfl⟩
     have hJn : nr = J + 1 := by rw [<- HN.out.2.1, hRl, List.length_append, hJl]; rfl
     have HJ : Hid (v.R[J]? = some (4, sv)) := by show v.R[J]? = some (4, sv); rw [hRl, <- hJl]; simp
     have HTK : Hid (v.R.take J = tl) := by show v.R.take J = tl; rw [hRl, <- hJl]; simp
     have HRL2 : Hid _ := hRl; have w4 : (nr : Int) - 1 = (J : Int) := by omega
     have w5 : IntKind.i64.wrap ((nr : Int) - 1) = (J : Int) := by rw [wtop]; exact w4
     have j1 : J < nr := by omega
     have j2 : (J : Int) < (nr : Int) := by omega
     have HJN : Hid _ := hJn; have HCS : Hid (C.C sv) := HCR.out (4, sv) (by rw [hRl]; simp); clear wtop hRl hJl hJn; obtain ⟨gr, cq, hcr, ck, ct⟩ := HRC.out.top J (4, sv) HJ.out; rw [HN.out.2.1] at hcr
     simp at hcr
     obtain ⟨rfl, rfl⟩ := hcr; clear ck; have sk1 : ∀ X : World, (Instr.sliceAt 44 (.slice (some ⟨gr, 0, none⟩) nr cr1) none (some (.int .i64 (J : Int))) none).run Tryz.prog X = .ok (.slice (some ⟨gr, 0, none⟩) J cr1) X := fun X => sk_to X _ _ _ J _ rfl (by have := own_cap HRC.out.r; rw [HN.out.2.1] at this; have := HJN.out; omega)
     have sk2 : ∀ X : World, (Instr.sliceAt 44 (.slice (some ⟨gr, 0, none⟩) nr cr1) none (some (.int .i64 ((nr : Int) - 1))) none).run Tryz.prog X = .ok (.slice (some ⟨gr, 0, none⟩) J cr1) X := fun X => by rw [w4]; exact sk1 X
     obtain ⟨y7, hy7⟩ : ∃ y, y6.alloc (.cells #[.int .u16 (sv)] 23) = y := ⟨_, rfl⟩
     have b7 : Below y6.heap.size y6 y7 := by rw [<- hy7]; exact P.bel_alloc y6 _
     have v7 : y7.heap[y6.heap.size]? = some (.cells [.int .u16 (sv)].toArray 23 (0, 0)) := by rw [<- hy7]; exact heap_alloc_new y6 _
     have cs7 : S.Cs y7 (.slice (some ⟨y6.heap.size, 0, none⟩) 1 1) 1 1 (S.en S.eU [sv]) := .inr ⟨_, _, rfl, rfl, fun j u hj => by rw [Addr.add_lit, Nat.zero_add]; exact S.cell_of y7 _ j _ _ u v7 hj, S.oneU _⟩; have od7 := own_nw ODy6.out b7; have or7 := own_nw ORy6.out b7; have z7 : W.heap.size <= y7.heap.size := Nat.le_trans HBy6.out.size b7.size; have bd1 : (rn + 1) * 2 <= S.room := by unfold S.room; omega
     have bd2 : rn + 1 <= maxLen := by unfold maxLen; omega
     have HY7 : Hid _ := hy7; have HB7 : Hid (Below W.heap.size W y7) := HBy6.out.trans (b7.mono HBy6.out.size); clear hy7 b7 v7; go_upto_region 75 with fail
     go_wp2_with (first | (at_builtin; rw [HY7.out]; refine S.wpList_append_row _ rfl _ _ 43 23 _ 1 2 Tryz.underlying43 S.info32 rfl (by decide) rfl W.heap.size _ rn _ rfl od7 _ 1 _ rfl cs7 bd1 bd2 z7 ?_))
     intro d2 y8 od8 gd8; obtain ⟨p8, c8, hd8'⟩ := own_fm od8; subst hd8'; have hb8 : Below W.heap.size y7 y8 := gd8.below (fun k e => (World.ownsRow.lt od7 k e).1) z7; have or8 : y8.ownsRow W.heap.size 101 2 (.slice (some ⟨gr, 0, none⟩) nr cr1) nr (S.en S.eK v.R) := own_ty or7 od7 gd8 (by decide)
     have HRA : Hid (RA W y8 g b kv F v (.slice p8 (rn + 1) c8) (.slice (some ⟨gr, 0, none⟩) J cr1) (v.D.take rn ++ [sv]) (v.R.take J)) := by
      refine RA.of HX0.out (HB7.out.trans hb8) (S.own_sl S.hU (t := 23) (B := W.heap.size) ?_) (ls_take (n := nr) (S.own_sl S.hK (t := 101) (B := W.heap.size) (v := .slice (some ⟨gr, 0, none⟩) nr cr1) (l := v.R) ?_) J (by rw [HN.out.2.1]; have := HJN.out; omega)) (fun k e => e.elim (fun e => World.ownsRow.lt od8 k e) (fun e => World.ownsRow.lt or8 k e))
      ·rw [List.length_append, HTL.out, S.en_append]; exact od8
      ·rw [HN.out.2.1]; exact or8
     clear od8 gd8 hb8 or8 od7 or7 z7 bd1 bd2 cs7; obtain ⟨u4, u5, u1, f4, g4, f5, g5, f1, g1, hY⟩ := HRA.out.fin (nx) (by rw [List.length_append, HTL.out]; have := H0.out.2.1; simp only [lvN, List.length_cons, List.length_nil] at this ⊢; have h3 := HRN.out; have h4 := HN.out.2.2; simp only [tkN] at this h4; rw [HN.out.1] at this; omega) (by have := HX0.out.rl; rw [List.length_take]; omega) HPC.out (fun z hz => by rcases List.mem_append.1 hz with h | h; exact HCD.out z h; simp only [List.mem_cons, List.not_mem_nil, or_false] at h; rcases h with h <;> (rw [h]; exact HCS.out)) (fun q hq => HCR.out q (List.mem_of_mem_take hq)); have HY : Hid _ := hY
     have hSt : ({ (dn 56 x (beh v.pc 56) v).v with pc := (dn 56 x (beh v.pc 56) v).on } : VS) = { v with D := v.D.take rn ++ [sv], R := v.R.take J, pc := nx } := by
      have hpl : ({ (dn 56 x (beh v.pc 56) v).v with pc := (dn 56 x (beh v.pc 56) v).on } : VS) = _ := st_plain 56 (by decide) (by rfl) x (beh v.pc 56) v hf; rw [hpl, <- HNX.out]; have hrn' : v.D.length - tkN 56 = rn := by rw [HN.out.1, HN.out.2.2]; exact HRN.out
      have hII := HII.out; have hRe := HRL2.out; have hTe : List.take J (tl ++ [(4, sv)]) = tl := by rw [<- hRe]; exact HTK.out
      simp only [tkN] at hrn'
      simp [P.nD, P.nR, P.nM, P.rw_, P.rest, P.xAt, P.tops, hrn', hII, P.putN, P.retN, P.memN, C.isUn, C.isBi, hRe, P.lk, hTe]
     have HST : Hid _ := hSt; clear hSt; clear hY; go_wp2; go_ret; refine ⟨rfl, ?_⟩; rw [HST.out]; exact HY.out
   ·as_aux_lemma =>
     have HOP : Hid (op = 7) := hop; clear hop; obtain rfl := HOP.out; obtain ⟨tl, lv, iv, hRl⟩ := rfa_7 hf; obtain ⟨J, hJl⟩ : ∃ J, tl.length = J := ⟨_, rfl⟩
     have hJn : nr = J + 2 := by rw [<- HN.out.2.1, hRl]; simp [hJl]
     have HJ : Hid (v.R[J + 1]? = some (3, iv)) := by show v.R[J + 1]? = some (3, iv); rw [hRl, <- hJl]; simp
     have HJ0 : Hid (v.R[J]? = some (2, lv)) := by show v.R[J]? = some (2, lv); rw [hRl, <- hJl]; simp
     have HTK : Hid (v.R.take J = tl) := by show v.R.take J = tl; rw [hRl, <- hJl]; simp
     have HRL2 : Hid _ := hRl; obtain ⟨i1, hi1⟩ : ∃ i, (iv + 1) % 65536 = i := ⟨_, rfl⟩
     have wi : IntKind.u16.wrap (iv + 1) = i1 := by rw [M.u16_wrap]; exact hi1
     have HI1 : Hid _ := hi1; have HCI1 : Hid (C.C i1) := ⟨by omega, by omega⟩
     obtain ⟨K, hK⟩ : ∃ K, K = J + 1 := ⟨_, rfl⟩
     rw [<- hK] at HJ; have w4 : (nr : Int) - 1 = (K : Int) := by omega
     have w5 : IntKind.i64.wrap ((nr : Int) - 1) = (K : Int) := by rw [wtop]; exact w4
     have w6 : (K : Int) - 1 = (J : Int) := by omega
     have w7 : IntKind.i64.wrap ((K : Int) - 1) = (J : Int) := by rw [IntWalk.i64_in _ (by omega)]; exact w6
     have w8 : (nr : Int) - 1 - 1 = (J : Int) := by omega
     have w9 : IntKind.i64.wrap ((nr : Int) - 2) = (J : Int) := by rw [IntWalk.i64_in _ (by omega)]; omega
     have w10 : (nr : Int) - 2 = (J : Int) := by omega
     have j1 : K < nr := by omega
     have j2 : (K : Int) < (nr : Int) := by omega
     have j3 : J < nr := by omega
     have j4 : (J : Int) < (nr : Int) := by omega
     have HJN : Hid _ := And.intro hJn hK; clear wtop hRl hJl hJn hi1 hK; obtain ⟨gr, cq, hcr, ck, ct⟩ := HRC.out.top K (3, iv) HJ.out; rw [HN.out.2.1] at hcr
     simp at hcr
     obtain ⟨rfl, rfl⟩ := hcr; clear ck; obtain ⟨gr', cq', hcr', ck', ct0⟩ := HRC.out.top J (2, lv) HJ0.out; rw [HN.out.2.1] at hcr'
     simp at hcr'
     obtain ⟨rfl, rfl⟩ := hcr'; clear ck'
     by_cases hq : i1 = lv
     ·have f0 : (i1 == lv) = true := by simp [hq]
      have HQ : Hid _ := hq; have sk1 : ∀ X : World, (Instr.sliceAt 44 (.slice (some ⟨gr, 0, none⟩) nr cr1) none (some (.int .i64 (J : Int))) none).run Tryz.prog X = .ok (.slice (some ⟨gr, 0, none⟩) J cr1) X := fun X => sk_to X _ _ _ J _ rfl (by have := own_cap HRC.out.r; rw [HN.out.2.1] at this; have := HJN.out.1; omega)
      have HRA : Hid (RA W y6 g b kv F v (.slice pd rn cd1) (.slice (some ⟨gr, 0, none⟩) J cr1) (v.D.take rn) (v.R.take J)) := RA.of HX0.out HRC.out.bel HDL.out (ls_take HRL.out J (by rw [HN.out.2.1]; have := HJN.out.1; omega)) HBK.out; clear hq; obtain ⟨u4, u5, u1, f4, g4, f5, g5, f1, g1, hY⟩ := HRA.out.fin (nx) (by rw [HTL.out]; have := HX0.out.dl; rw [HN.out.1] at this; have := HRN.out; omega) (by have := HX0.out.rl; rw [List.length_take]; omega) HPC.out HCD.out (fun q hq => HCR.out q (List.mem_of_mem_take hq)); have HY : Hid _ := hY
      have hSt : ({ (dn 7 x (beh v.pc 7) v).v with pc := (dn 7 x (beh v.pc 7) v).on } : VS) = { v with D := v.D.take rn, R := v.R.take J, pc := nx } := by
       have hrn' : rn = v.D.length := by rw [HN.out.1]; have := HN.out.2.2; simp only [tkN] at this; have := HRN.out; omega
       have ht := turn_is v tl lv iv HRL2.out; rw [HI1.out] at ht; rw [if_neg (fun c => c HQ.out)] at ht
       have e : dn 7 x (beh v.pc 7) v = ⟨beh v.pc 7, 0, { v with R := tl }⟩ := by
        show (if (turn v).b then (⟨x, 0, (turn v).v⟩ : DN) else ⟨beh v.pc 7, (turn v).f, (turn v).v⟩) = _
        rw [ht]
        rfl
       rw [e, hrn', List.take_length, HTK.out, <- HNX.out]
      have HST : Hid _ := hSt; clear hSt; clear hY; go_wp2; go_ret; refine ⟨rfl, ?_⟩; rw [HST.out]; exact HY.out
     ·have f0 : (i1 == lv) = false := by simp [hq]
      have HQ : Hid _ := hq; have ho9 := own_setc ORy6.out (K * 2 + 1) (.int .u16 i1); obtain ⟨y9, hy9⟩ : ∃ y, y6.setCell ⟨gr, K * 2 + 1, none⟩ (.int .u16 i1) = y := ⟨_, rfl⟩
      have fz := ho9.2.1
      have HRA : Hid (RA W y9 g b kv F v (.slice pd rn cd1) (.slice (some ⟨gr, 0, none⟩) nr cr1) (v.D.take rn) (tl ++ [(2, lv)] ++ [(3, i1)])) := by
       have hgr := (World.ownsRow.lt ORy6.out gr rfl)
       obtain ⟨o1', _, o3'⟩ := ho9; rw [hy9] at o1' o3'; have hz9 : y9.heap.size = y6.heap.size := by rw [<- hy9]; exact S.setCell_size _ _ _
       have hb9 : Below W.heap.size W y9 := ⟨by rw [<- hy9]; exact HBy6.out.os, by rw [<- hy9]; exact HBy6.out.tape, by rw [<- hy9]; exact HBy6.out.output, by rw [hz9]; exact HBy6.out.size, fun k hk => by rw [o3' k (by omega)]; exact HBy6.out.block k hk⟩
       have od9 : y9.ownsRow W.heap.size 23 1 (.slice pd rn cd1) rn (S.en S.eU (v.D.take rn)) := S.own_kept ODy6.out fun k e _ => o3' k (fun c => by subst c; exact ty_ne ODy6.out ORy6.out (by decide) _ e rfl)
       have hl : (tl ++ [(2, lv)] ++ [(3, i1)]).length = nr := by have := HRL2.out; rw [<- HN.out.2.1, this]; simp
       have hK : (tl ++ [(2, lv)]).length = K := by have := HJN.out; have h2 := congrArg List.length HRL2.out; rw [HN.out.2.1] at h2; simp at h2 ⊢; omega
       refine RA.of HX0.out hb9 (S.own_sl S.hU (t := 23) (B := W.heap.size) (by rw [HTL.out]; exact od9)) (S.own_sl S.hK (t := 101) (B := W.heap.size) ?_) (fun k e => e.elim (fun e => World.ownsRow.lt od9 k e) (fun e => World.ownsRow.lt o1' k e)); rw [hl]; have he := en_last (tl ++ [(2, lv)]) 3 iv i1; rw [hK, <- HRL2.out] at he; rw [<- he]; exact o1'
      have HY9 : Hid _ := hy9; clear hq ho9 hy9; go_upto_region 40 with fail
      rw [HY9.out]; clear ct ct0 fz; obtain ⟨u4, u5, u1, f4, g4, f5, g5, f1, g1, hY⟩ := HRA.out.fin (x) (by rw [HTL.out]; have := HX0.out.dl; rw [HN.out.1] at this; have := HRN.out; omega) (by have h1 := HX0.out.rl; rw [HRL2.out] at h1; simpa using h1) HXC.out HCD.out (fun q hq => by rcases List.mem_append.1 hq with h | h; exact HCR.out q (by rw [HRL2.out]; exact List.mem_append.2 (.inl h)); simp at h; rw [h]; exact HCI1.out); have HY : Hid _ := hY
      have hSt : ({ (dn 7 x (beh v.pc 7) v).v with pc := (dn 7 x (beh v.pc 7) v).on } : VS) = { v with D := v.D.take rn, R := tl ++ [(2, lv)] ++ [(3, i1)], pc := x } := by
       have hrn' : rn = v.D.length := by rw [HN.out.1]; have := HN.out.2.2; simp only [tkN] at this; have := HRN.out; omega
       have ht := turn_is v tl lv iv HRL2.out; rw [HI1.out] at ht; rw [if_pos HQ.out] at ht
       have e : dn 7 x (beh v.pc 7) v = ⟨x, 0, { v with R := tl ++ [(2, lv)] ++ [(3, i1)] }⟩ := by
        show (if (turn v).b then (⟨x, 0, (turn v).v⟩ : DN) else ⟨beh v.pc 7, (turn v).f, (turn v).v⟩) = _
        rw [ht]
        rfl
       rw [e, hrn', List.take_length]
      have HST : Hid _ := hSt; clear hSt; clear hY; go_wp2; go_ret; refine ⟨rfl, ?_⟩; rw [HST.out]; exact HY.out
   ·as_aux_lemma =>
     have HOP : Hid (op = 8) := hop; clear hop; obtain rfl := HOP.out
     rcases rfa_8 hf with hR0 | ⟨tl, sv, hR0⟩
     ·have hn0 : nr = 0 := by rw [<- HN.out.2.1, hR0]; rfl
      have w4 : (nr : Int) - 1 < 0 := by omega
      have w5 : decide ((nr : Int) - 1 < 0) = true := decide_eq_true w4; have HR0 : Hid _ := hR0; have HRA0 := S.hid (RA.of HX0.out HRC.out.bel HDL.out HRL.out HBK.out); obtain ⟨u2, f2, g2⟩ := HRA0.out.c2; clear hn0 hR0; go_upto_region 94 with fail
      have HRA := S.hid (HRA0.out.st2); clear f2 g2; generalize y6.setCell ⟨g, 2, none⟩ (.int .i64 2) = y9 at *
      obtain ⟨u4, u5, u1, f4, g4, f5, g5, f1, g1, hY⟩ := HRA.out.fin (nx) (by rw [HTL.out]; have := HX0.out.dl; rw [HN.out.1] at this; have := HRN.out; omega) HX0.out.rl HPC.out HCD.out HCR.out; have HY : Hid _ := hY
      have hSt : ({ (dn 8 x (beh v.pc 8) v).v with pc := (dn 8 x (beh v.pc 8) v).on } : VS) = { { v with st := 2 } with D := v.D.take rn, R := v.R, pc := nx } := by
       have hrn' : rn = v.D.length := by rw [HN.out.1]; have := HN.out.2.2; simp only [tkN] at this; have := HRN.out; omega
       have e : dn 8 x (beh v.pc 8) v = ⟨beh v.pc 8, 0, { v with st := 2 }⟩ := by
        show (match v.R.reverse with
         | [] => (⟨beh v.pc 8, 0, { v with st := 2 }⟩ : DN)
         | (k, a) :: t => if k = 1 then ⟨a, 0, { v with R := t.reverse }⟩ else ⟨0, 5, v⟩) = _
        rw [HR0.out]
        rfl
       rw [e, hrn', List.take_length, <- HNX.out]
      have HST : Hid _ := hSt; clear hSt; clear hY; go_wp2; go_ret; refine ⟨rfl, ?_⟩; rw [HST.out]; exact HY.out
     ·have hR1 := hR0
      obtain ⟨J, hJl⟩ : ∃ J, tl.length = J := ⟨_, rfl⟩
      have hJn : nr = J + 1 := by rw [<- HN.out.2.1, hR1, List.length_append, hJl]; rfl
      have HJ : Hid (v.R[J]? = some (1, sv)) := by show v.R[J]? = some (1, sv); rw [hR1, <- hJl]; simp
      have HTK : Hid (v.R.take J = tl) := by show v.R.take J = tl; rw [hR1, <- hJl]; simp
      have HRL2 : Hid _ := hR1; have w4 : (nr : Int) - 1 = (J : Int) := by omega
      have w5 : IntKind.i64.wrap ((nr : Int) - 1) = (J : Int) := by rw [wtop]; exact w4
      have j1 : J < nr := by omega
      have j2 : (J : Int) < (nr : Int) := by omega
      have HJN : Hid _ := hJn; have HCS : Hid (C.C sv) := HCR.out (1, sv) (by rw [hR1]; simp); clear wtop hR0 hR1 hJl hJn; obtain ⟨gr, cq, hcr, ck, ct⟩ := HRC.out.top J (1, sv) HJ.out; rw [HN.out.2.1] at hcr
      simp at hcr
      obtain ⟨rfl, rfl⟩ := hcr; clear ck; have sk1 : ∀ X : World, (Instr.sliceAt 44 (.slice (some ⟨gr, 0, none⟩) nr cr1) none (some (.int .i64 (J : Int))) none).run Tryz.prog X = .ok (.slice (some ⟨gr, 0, none⟩) J cr1) X := fun X => sk_to X _ _ _ J _ rfl (by have := own_cap HRC.out.r; rw [HN.out.2.1] at this; have := HJN.out; omega)
      have sk2 : ∀ X : World, (Instr.sliceAt 44 (.slice (some ⟨gr, 0, none⟩) nr cr1) none (some (.int .i64 ((nr : Int) - 1))) none).run Tryz.prog X = .ok (.slice (some ⟨gr, 0, none⟩) J cr1) X := fun X => by rw [w4]; exact sk1 X
      have w6 : ¬ (J : Int) < 0 := by omega
      have w7 : ¬ (nr : Int) - 1 < 0 := by omega
      have HRA : Hid (RA W y6 g b kv F v (.slice pd rn cd1) (.slice (some ⟨gr, 0, none⟩) J cr1) (v.D.take rn) (v.R.take J)) := RA.of HX0.out HRC.out.bel HDL.out (ls_take HRL.out J (by rw [HN.out.2.1]; have := HJN.out; omega)) HBK.out; obtain ⟨u4, u5, u1, f4, g4, f5, g5, f1, g1, hY⟩ := HRA.out.fin (sv) (by rw [HTL.out]; have := HX0.out.dl; rw [HN.out.1] at this; have := HRN.out; omega) (by have := HX0.out.rl; rw [List.length_take]; omega) HCS.out HCD.out (fun q hq => HCR.out q (List.mem_of_mem_take hq)); have HY : Hid _ := hY
      have hSt : ({ (dn 8 x (beh v.pc 8) v).v with pc := (dn 8 x (beh v.pc 8) v).on } : VS) = { v with D := v.D.take rn, R := v.R.take J, pc := sv } := by
       have hrn' : rn = v.D.length := by rw [HN.out.1]; have := HN.out.2.2; simp only [tkN] at this; have := HRN.out; omega
       have e : dn 8 x (beh v.pc 8) v = ⟨sv, 0, { v with R := tl }⟩ := by
        show (match v.R.reverse with
         | [] => (⟨beh v.pc 8, 0, { v with st := 2 }⟩ : DN)
         | (k, a) :: t => if k = 1 then ⟨a, 0, { v with R := t.reverse }⟩ else ⟨0, 5, v⟩) = _
        rw [HRL2.out]
        simp
       rw [e, hrn', List.take_length, HTK.out]
      have HST : Hid _ := hSt; clear hSt; clear hY; go_wp2; go_ret; refine ⟨rfl, ?_⟩; rw [HST.out]; exact HY.out
   ·as_aux_lemma =>
     have HOP : Hid (op = 6) := hop; clear hop; obtain rfl := HOP.out
     obtain ⟨a0, a1, hi⟩ : ∃ a0 a1, inn = [a0, a1] := by
      have h1 := HIL.out; have h2 := HN.out.2.2; simp only [tkN] at h2; rw [<- h2] at h1
      match inn, h1 with
      | [c0, c1], _ => exact ⟨c0, c1, rfl⟩
     subst hi; obtain rfl : 2 = tk := by have := HIL.out; simpa using this
     obtain ⟨gi, cq, hci, ce0⟩ := HRC.out.in 0 a0 rfl
     simp at hci
     obtain ⟨rfl, rfl⟩ := hci; obtain ⟨gi1, cq1, hci1, ce1⟩ := HRC.out.in 1 a1 rfl
     simp at hci1
     obtain ⟨rfl, rfl⟩ := hci1; have HTY : Hid (∀ k, Value.ownBlock (.slice (some ⟨gi, 0, none⟩) 2 ci) = some k -> ¬ Value.ownBlock (.slice pr nr cr1) = some k) := fun k e c => ty_ne HRC.out.i HRC.out.r (by decide) k e c
     have HS : Hid (∀ X : World, Below y6.heap.size y6 X -> (fun wz : World => wz.cell? ⟨gi, 0, none⟩ = some (.int .u16 a0) /\ wz.cell? ⟨gi, 1, none⟩ = some (.int .u16 a1)) X) := fun X hX => ⟨V.cx hX ce0, V.cx hX ce1⟩
     have HBd : Hid (Below y6.heap.size y6 y6.drew) := ⟨rfl, rfl, rfl, Nat.le_refl _, fun _ _ => rfl⟩
     clear ce0 ce1; go_upto_region 34 with fail
     refine V.wrh HS.out HBd.out (by kernel_rfl) (fun hHeld => ?_); generalize y6.drew = yd at *
     have ODyd := S.hid (own_nw ODy6.out HBd.out); have ORyd := S.hid (own_nw ORy6.out HBd.out); have HByd : Hid (Below W.heap.size W yd) := HBy6.out.trans (HBd.out.mono HBy6.out.size); have HSd := S.hid (V.nx HS.out HBd.out); clear HS HDL HRL HBK ODy6 ORy6 HBy6 HRC HBd; obtain ⟨y7, hy7⟩ : ∃ y, yd.alloc (.cells #[.int .i64 2, .int .u16 (a0), .int .i64 3, .int .u16 (a1)] 101) = y := ⟨_, rfl⟩
     have b7 : Below yd.heap.size yd y7 := by rw [<- hy7]; exact P.bel_alloc yd _
     have v7 : y7.heap[yd.heap.size]? = some (.cells [.int .i64 2, .int .u16 (a0), .int .i64 3, .int .u16 (a1)].toArray 101 (0, 0)) := by rw [<- hy7]; exact heap_alloc_new yd _
     have cs7 : S.Cs y7 (.slice (some ⟨yd.heap.size, 0, none⟩) 2 2) 2 2 (S.en S.eK [(2, a0), (3, a1)]) := .inr ⟨_, _, rfl, rfl, fun j u hj => by rw [Addr.add_lit, Nat.zero_add]; exact S.cell_of y7 _ j _ _ u v7 hj, S.oneK _⟩; have od7 := own_nw ODyd.out b7; have or7 := own_nw ORyd.out b7; have z7 : W.heap.size <= y7.heap.size := Nat.le_trans HByd.out.size b7.size; have bd1 : (nr + 2) * 16 <= S.room := by unfold S.room; omega
     have bd2 : nr + 2 <= maxLen := by unfold maxLen; omega
     have HY7 : Hid _ := hy7; have HS7 := S.hid (HSd.out y7 b7); have HB7 : Hid (Below W.heap.size W y7) := HByd.out.trans (b7.mono HByd.out.size); clear hy7 b7 v7; refine wtk0 (is := [0, 1, 2, 3, 4, 5, 6, 7, 8]) ?_
     iterate 9
      refine V.wt (v := ?_) rfl (by kernel_rfl) (fun c a w h => h) (by rfl) ?_ hHeld ?_
      rotate_left
      ·(intro w hSw; (try dsimp only at hSw); go_simp; try with_reducible rfl)
      simp only [V.pts]
     refine wtkE ?_; refine V.wrd 9 (by kernel_rfl) rfl fun K hK => ?_
     go_simp; refine hK.out _ _ (by first | exact HS7.out | (rw [HY7.out]; exact HS7.out)) (fun hHeld => ?_); clear hK K; try rw [HY7.out]
     try simp only [V.pts]
     refine V.wrd 10 (by kernel_rfl) rfl fun K hK => ?_
     rw [if_pos (by rfl)]; try rw [HY7.out]
     refine S.wp_append_row _ _ _ 44 101 _ 2 16 Tryz.underlying44 S.info43 rfl (by decide) rfl W.heap.size _ nr _ rfl or7 _ 2 _ rfl cs7 bd1 bd2 z7 (fun e8 y8 oe8 ge8 => ?_); obtain ⟨p8, c8, hd8⟩ := own_fm oe8; subst hd8; have hG : S.Grew y7 y8 (.slice pr nr cr1) (.slice p8 (nr + 2) c8) := ge8; have hki : y8.heap[gi]? = y7.heap[gi]? := hG.block gi (World.block_lt_of_cell? y7 _ (HS7.out.1)) (fun c => HTY.out gi rfl c.symm); have HS8 : Hid ((fun wz : World => wz.cell? ⟨gi, 0, none⟩ = some (.int .u16 a0) /\ wz.cell? ⟨gi, 1, none⟩ = some (.int .u16 a1)) y8) := ⟨V.cb hki HS7.out.1, V.cb hki HS7.out.2⟩
     have HG8 := S.hid (hG); have HO8 : Hid _ := oe8; clear ge8 hG oe8 hki; refine hK.out _ _ HS8.out (fun hHeld => ?_); clear hK K; try simp only [V.pts]
     refine V.wt1 11 (v := ?_) rfl (by kernel_rfl) (fun c a w h => h) (by rfl) ?_ hHeld ?_
     rotate_left
     ·(intro w hSw; (try dsimp only at hSw); go_simp; try with_reducible rfl)
     simp only [V.pts]; refine wpAnyH_done (by kernel_rfl) ?_ _; clear hHeld; have or8 := HO8.out; have gr8 := HG8.out; have hb8 : Below W.heap.size y7 y8 := gr8.below (fun k e => (World.ownsRow.lt or7 k e).1) z7; have od8 : y8.ownsRow W.heap.size 23 1 (.slice pd rn cd1) rn (S.en S.eU (v.D.take rn)) := own_ty od7 or7 gr8 (by decide)
     have HRA : Hid (RA W y8 g b kv F v (.slice pd rn cd1) (.slice p8 (nr + 2) c8) (v.D.take rn) (v.R ++ [(2, a0), (3, a1)])) := by
      refine RA.of HX0.out (HB7.out.trans hb8) (S.own_sl S.hU (t := 23) (B := W.heap.size) ?_) (S.own_sl S.hK (t := 101) (B := W.heap.size) ?_) (fun k e => e.elim (fun e => World.ownsRow.lt od8 k e) (fun e => World.ownsRow.lt or8 k e))
      ·rw [HTL.out]; exact od8
      ·rw [List.length_append, HN.out.2.1, S.en_append]; exact or8
     clear od8 gr8 hb8 or8 od7 or7 z7 bd1 bd2 cs7 HS7 HS8 HSd HG8 HO8 HY7 HB7 ODyd ORyd HByd; obtain ⟨u4, u5, u1, f4, g4, f5, g5, f1, g1, hY⟩ := HRA.out.fin (nx) (by rw [HTL.out]; have := HX0.out.dl; rw [HN.out.1] at this; have := HRN.out; omega) (by rw [List.length_append, HN.out.2.1]; have := H0.out.2.2.2; rw [HN.out.2.1] at this; simp only [puN, List.length_cons, List.length_nil] at this ⊢; omega) HPC.out HCD.out (fun z hz => by rcases List.mem_append.1 hz with h | h; exact HCR.out z h; simp only [List.mem_cons, List.not_mem_nil, or_false] at h; rcases h with h | h <;> (rw [h]; exact HCI.out _ (by simp))); have HY : Hid _ := hY
     have hSt : ({ (dn 6 x (beh v.pc 6) v).v with pc := (dn 6 x (beh v.pc 6) v).on } : VS) = { v with D := v.D.take rn, R := v.R ++ [(2, a0), (3, a1)], pc := nx } := by
      have hpl : ({ (dn 6 x (beh v.pc 6) v).v with pc := (dn 6 x (beh v.pc 6) v).on } : VS) = _ := st_plain 6 (by decide) (by rfl) x (beh v.pc 6) v hf; rw [hpl, <- HNX.out]; have hrn' : v.D.length - tkN 6 = rn := by rw [HN.out.1, HN.out.2.2]; exact HRN.out
      have hII := HII.out; simp only [tkN] at hrn'
      simp [P.nD, P.nR, P.nM, P.rw_, P.rest, P.xAt, P.tops, hrn', hII, P.putN, P.retN, P.memN, C.isUn, C.isBi]
     have HST : Hid _ := hSt; clear hSt; clear hY; go_wp2; go_ret; refine ⟨rfl, ?_⟩; rw [HST.out]; exact HY.out
   ·as_aux_lemma =>
     have HOP : Hid (op = 50) := hop; clear hop; obtain rfl := HOP.out
     obtain ⟨a0, hi⟩ : ∃ a0, inn = [a0] := by
      have h1 := HIL.out; have h2 := HN.out.2.2; simp only [tkN] at h2; rw [<- h2] at h1
      match inn, h1 with
      | [c0], _ => exact ⟨c0, rfl⟩
     subst hi; obtain rfl : 1 = tk := by have := HIL.out; simpa using this
     obtain ⟨gi, cq, hci, ce0⟩ := HRC.out.in 0 a0 rfl
     simp at hci
     obtain ⟨rfl, rfl⟩ := hci; obtain ⟨hA0, hA1⟩ := HCI.out a0 (by simp); have c6 : y6.cell? ⟨g, 6, none⟩ = some (.pointer (some ⟨b, 0, none⟩)) := (HX0.out.below HRC.out.bel).c6; have HS : Hid (∀ X : World, Below y6.heap.size y6 X -> (fun wz : World => wz.cell? ⟨gi, 0, none⟩ = some (.int .u16 a0) /\ wz.cell? ⟨g, 6, none⟩ = some (.pointer (some ⟨b, 0, none⟩))) X) := fun X hX => ⟨V.cx hX ce0, V.cx hX c6⟩
     have HBd : Hid (Below y6.heap.size y6 y6.drew) := ⟨rfl, rfl, rfl, Nat.le_refl _, fun _ _ => rfl⟩
     clear ce0 c6; go_upto_region 63 with fail
     refine V.wrh HS.out HBd.out (by kernel_rfl) (fun hHeld => ?_); generalize y6.drew = yd at *
     have ODyd := S.hid (own_nw ODy6.out HBd.out); have ORyd := S.hid (own_nw ORy6.out HBd.out); have HByd : Hid (Below W.heap.size W yd) := HBy6.out.trans (HBd.out.mono HBy6.out.size); have HSd := S.hid (V.nx HS.out HBd.out); clear HS HDL HRL HBK ODy6 ORy6 HBy6 HRC HBd; have HMm : Hid (M.IsR yd F b v.m) := (HX0.out.below HByd.out).mem; obtain ⟨cv, hcv⟩ : ∃ c, M.cl v.m a0 = c := ⟨_, rfl⟩
     have kC := M.rcell_any b a0 hA0 hA1 yd HMm.out; rw [hcv] at kC; have HCV : Hid _ := hcv; have HCC : Hid (C.C cv) := by show C.C cv; have l1 := M.ld_bound v.m HMm.out.1 a0; have l2 := M.ld_bound v.m HMm.out.1 ((a0 + 1) % 65536); rw [<- hcv]; unfold M.cl C.C; omega
     clear hcv hA0 hA1; refine wtk0 (is := [0, 1, 2, 3, 4, 5, 6, 7]) ?_
     iterate 8
      refine V.wt (v := ?_) rfl (by kernel_rfl) (fun c a w h => h) (by rfl) ?_ hHeld ?_
      rotate_left
      ·(intro w hSw; (try dsimp only at hSw); go_simp; try with_reducible rfl)
      simp only [V.pts]
     refine wtkE ?_; refine V.wrd 8 (by kernel_rfl) rfl fun K hK => ?_
     go_simp; refine (kC).mono ?_; rintro e yc ⟨rfl, hbc⟩; dsimp only; have HBc := S.hid (hbc); clear hbc; refine hK.out _ _ (HSd.out yc HBc.out) (fun hHeld => ?_); clear hK K; try simp only [V.pts]
     clear kC; have ODyc := S.hid (own_nw ODyd.out HBc.out); have ORyc := S.hid (own_nw ORyd.out HBc.out); have HByc : Hid (Below W.heap.size W yc) := HByd.out.trans (HBc.out.mono HByd.out.size); obtain ⟨y7, hy7⟩ : ∃ y, yc.alloc (.cells #[.int .u16 (cv)] 23) = y := ⟨_, rfl⟩
     have b7 : Below yc.heap.size yc y7 := by rw [<- hy7]; exact P.bel_alloc yc _
     have v7 : y7.heap[yc.heap.size]? = some (.cells [.int .u16 (cv)].toArray 23 (0, 0)) := by rw [<- hy7]; exact heap_alloc_new yc _
     have cs7 : S.Cs y7 (.slice (some ⟨yc.heap.size, 0, none⟩) 1 1) 1 1 (S.en S.eU [cv]) := .inr ⟨_, _, rfl, rfl, fun j u hj => by rw [Addr.add_lit, Nat.zero_add]; exact S.cell_of y7 _ j _ _ u v7 hj, S.oneU _⟩; have od7 := own_nw ODyc.out b7; have or7 := own_nw ORyc.out b7; have z7 : W.heap.size <= y7.heap.size := Nat.le_trans HByc.out.size b7.size; have bd1 : (rn + 1) * 2 <= S.room := by unfold S.room; omega
     have bd2 : rn + 1 <= maxLen := by unfold maxLen; omega
     have HY7 : Hid _ := hy7; have HS7 := S.hid (HSd.out y7 (HBc.out.trans (b7.mono HBc.out.size))); have HB7 : Hid (Below W.heap.size W y7) := HByc.out.trans (b7.mono HByc.out.size); clear hy7 b7 v7; refine V.wrd 9 (by kernel_rfl) rfl fun K hK => ?_
     go_simp; refine hK.out _ _ (by first | exact HS7.out | (rw [HY7.out]; exact HS7.out)) (fun hHeld => ?_); clear hK K; try rw [HY7.out]
     try simp only [V.pts]
     refine V.wrd 10 (by kernel_rfl) rfl fun K hK => ?_
     rw [if_pos (by rfl)]; try rw [HY7.out]
     refine S.wp_append_row _ _ _ 43 23 _ 1 2 Tryz.underlying43 S.info32 rfl (by decide) rfl W.heap.size _ rn _ rfl od7 _ 1 _ rfl cs7 bd1 bd2 z7 (fun e8 y8 oe8 ge8 => ?_); obtain ⟨p8, c8, hd8⟩ := own_fm oe8; subst hd8; have hG : S.Grew y7 y8 (.slice pd rn cd1) (.slice p8 (rn + 1) c8) := ge8; have hki : y8.heap[gi]? = y7.heap[gi]? := hG.block gi (World.block_lt_of_cell? y7 _ (HS7.out.1)) (fun c => HNE.out gi rfl c.symm); have hkg : y8.heap[g]? = y7.heap[g]? := hG.block g (World.block_lt_of_cell? y7 _ (HS7.out.2)) (fun c => by have h1 := (World.ownsRow.lt od7 g c.symm).1; have h2 := HX0.out.lt; omega); have HS8 : Hid ((fun wz : World => wz.cell? ⟨gi, 0, none⟩ = some (.int .u16 a0) /\ wz.cell? ⟨g, 6, none⟩ = some (.pointer (some ⟨b, 0, none⟩))) y8) := ⟨V.cb hki HS7.out.1, V.cb hkg HS7.out.2⟩
     have HG8 := S.hid (hG); have HO8 : Hid _ := oe8; clear ge8 hG oe8 hki hkg; refine hK.out _ _ HS8.out (fun hHeld => ?_); clear hK K; try simp only [V.pts]
     refine V.wt1 11 (v := ?_) rfl (by kernel_rfl) (fun c a w h => h) (by rfl) ?_ hHeld ?_
     rotate_left
     ·(intro w hSw; (try dsimp only at hSw); go_simp; try with_reducible rfl)
     simp only [V.pts]; refine wpAnyH_done (by kernel_rfl) ?_ _; clear hHeld; have od8 := HO8.out; have gd8 := HG8.out; have hb8 : Below W.heap.size y7 y8 := gd8.below (fun k e => (World.ownsRow.lt od7 k e).1) z7; have or8 : y8.ownsRow W.heap.size 101 2 (.slice pr nr cr1) nr (S.en S.eK v.R) := own_ty or7 od7 gd8 (by decide)
     have HRA : Hid (RA W y8 g b kv F v (.slice p8 (rn + 1) c8) (.slice pr nr cr1) (v.D.take rn ++ [cv]) v.R) := by
      refine RA.of HX0.out (HB7.out.trans hb8) (S.own_sl S.hU (t := 23) (B := W.heap.size) ?_) (S.own_sl S.hK (t := 101) (B := W.heap.size) ?_) (fun k e => e.elim (fun e => World.ownsRow.lt od8 k e) (fun e => World.ownsRow.lt or8 k e))
      ·rw [List.length_append, HTL.out, S.en_append]; exact od8
      ·rw [HN.out.2.1]; exact or8
     clear od8 gd8 hb8 or8 od7 or7 z7 bd1 bd2 cs7 HS7 HS8 HSd HG8 HO8 HY7 HB7 ODyd ORyd HByd ODyc ORyc HByc HBc; obtain ⟨u4, u5, u1, f4, g4, f5, g5, f1, g1, hY⟩ := HRA.out.fin (nx) (by rw [List.length_append, HTL.out]; have := H0.out.2.1; simp only [lvN, List.length_cons, List.length_nil] at this ⊢; have h3 := HRN.out; have h4 := HN.out.2.2; simp only [tkN] at this h4; rw [HN.out.1] at this; omega) HX0.out.rl HPC.out (fun z hz => by rcases List.mem_append.1 hz with h | h; exact HCD.out z h; simp only [List.mem_cons, List.not_mem_nil, or_false] at h; rcases h with h <;> (rw [h]; exact HCC.out)) HCR.out; have HY : Hid _ := hY
     have hSt : ({ (dn 50 x (beh v.pc 50) v).v with pc := (dn 50 x (beh v.pc 50) v).on } : VS) = { v with D := v.D.take rn ++ [cv], R := v.R, pc := nx } := by
      have hpl : ({ (dn 50 x (beh v.pc 50) v).v with pc := (dn 50 x (beh v.pc 50) v).on } : VS) = _ := st_plain 50 (by decide) (by rfl) x (beh v.pc 50) v hf; rw [hpl, <- HNX.out]; have hrn' : v.D.length - tkN 50 = rn := by rw [HN.out.1, HN.out.2.2]; exact HRN.out
      have hII := HII.out; simp only [tkN] at hrn'
      simp [P.nD, P.nR, P.nM, P.rw_, P.rest, P.xAt, P.tops, hrn', hII, P.putN, P.retN, P.memN, C.isUn, C.isBi, HCV.out]
     have HST : Hid _ := hSt; clear hSt; clear hY; go_wp2; go_ret; refine ⟨rfl, ?_⟩; rw [HST.out]; exact HY.out
   ·as_aux_lemma =>
     have HOP : Hid (op = 52) := hop; clear hop; obtain rfl := HOP.out
     obtain ⟨a0, hi⟩ : ∃ a0, inn = [a0] := by
      have h1 := HIL.out; have h2 := HN.out.2.2; simp only [tkN] at h2; rw [<- h2] at h1
      match inn, h1 with
      | [c0], _ => exact ⟨c0, rfl⟩
     subst hi; obtain rfl : 1 = tk := by have := HIL.out; simpa using this
     obtain ⟨gi, cq, hci, ce0⟩ := HRC.out.in 0 a0 rfl
     simp at hci
     obtain ⟨rfl, rfl⟩ := hci; obtain ⟨hA0, hA1⟩ := HCI.out a0 (by simp); have c6 : y6.cell? ⟨g, 6, none⟩ = some (.pointer (some ⟨b, 0, none⟩)) := (HX0.out.below HRC.out.bel).c6; have HS : Hid (∀ X : World, Below y6.heap.size y6 X -> (fun wz : World => wz.cell? ⟨gi, 0, none⟩ = some (.int .u16 a0) /\ wz.cell? ⟨g, 6, none⟩ = some (.pointer (some ⟨b, 0, none⟩))) X) := fun X hX => ⟨V.cx hX ce0, V.cx hX c6⟩
     have HBd : Hid (Below y6.heap.size y6 y6.drew) := ⟨rfl, rfl, rfl, Nat.le_refl _, fun _ _ => rfl⟩
     clear ce0 c6; go_upto_region 67 with fail
     refine V.wrh HS.out HBd.out (by kernel_rfl) (fun hHeld => ?_); generalize y6.drew = yd at *
     have ODyd := S.hid (own_nw ODy6.out HBd.out); have ORyd := S.hid (own_nw ORy6.out HBd.out); have HByd : Hid (Below W.heap.size W yd) := HBy6.out.trans (HBd.out.mono HBy6.out.size); have HSd := S.hid (V.nx HS.out HBd.out); clear HS HDL HRL HBK ODy6 ORy6 HBy6 HRC HBd; have HMm : Hid (M.IsR yd F b v.m) := (HX0.out.below HByd.out).mem; obtain ⟨cv, hcv⟩ : ∃ c, M.ld v.m a0 = c := ⟨_, rfl⟩
     have kC := M.rload_any b a0 hA0 hA1 yd HMm.out; rw [hcv] at kC; have HCV : Hid _ := hcv; have hcb := M.ld_bound v.m HMm.out.1 a0; rw [hcv] at hcb; have HCC : Hid (C.C cv) := ⟨by omega, by omega⟩
     have wcv : IntKind.u16.wrap cv = cv := by rw [M.u16_wrap]; omega
     clear hcv hA0 hA1 hcb; refine wtk0 (is := [0, 1, 2, 3, 4, 5, 6, 7]) ?_
     iterate 8
      refine V.wt (v := ?_) rfl (by kernel_rfl) (fun c a w h => h) (by rfl) ?_ hHeld ?_
      rotate_left
      ·(intro w hSw; (try dsimp only at hSw); go_simp; try with_reducible rfl)
      simp only [V.pts]
     refine wtkE ?_; refine V.wrd 8 (by kernel_rfl) rfl fun K hK => ?_
     go_simp; refine (kC).mono ?_; rintro e yc ⟨rfl, hbc⟩; dsimp only; have HBc := S.hid (hbc); clear hbc; refine hK.out _ _ (HSd.out yc HBc.out) (fun hHeld => ?_); clear hK K; try simp only [V.pts]
     clear kC; refine V.wt1 9 (v := ?_) rfl (by kernel_rfl) (fun c a w h => h) (by rfl) ?_ hHeld ?_
     rotate_left
     ·(intro w hSw; (try dsimp only at hSw); go_simp; try with_reducible rfl)
     simp only [V.pts]; have ODyc := S.hid (own_nw ODyd.out HBc.out); have ORyc := S.hid (own_nw ORyd.out HBc.out); have HByc : Hid (Below W.heap.size W yc) := HByd.out.trans (HBc.out.mono HByd.out.size); obtain ⟨y7, hy7⟩ : ∃ y, yc.alloc (.cells #[.int .u16 (cv)] 23) = y := ⟨_, rfl⟩
     have b7 : Below yc.heap.size yc y7 := by rw [<- hy7]; exact P.bel_alloc yc _
     have v7 : y7.heap[yc.heap.size]? = some (.cells [.int .u16 (cv)].toArray 23 (0, 0)) := by rw [<- hy7]; exact heap_alloc_new yc _
     have cs7 : S.Cs y7 (.slice (some ⟨yc.heap.size, 0, none⟩) 1 1) 1 1 (S.en S.eU [cv]) := .inr ⟨_, _, rfl, rfl, fun j u hj => by rw [Addr.add_lit, Nat.zero_add]; exact S.cell_of y7 _ j _ _ u v7 hj, S.oneU _⟩; have od7 := own_nw ODyc.out b7; have or7 := own_nw ORyc.out b7; have z7 : W.heap.size <= y7.heap.size := Nat.le_trans HByc.out.size b7.size; have bd1 : (rn + 1) * 2 <= S.room := by unfold S.room; omega
     have bd2 : rn + 1 <= maxLen := by unfold maxLen; omega
     have HY7 : Hid _ := hy7; have HS7 := S.hid (HSd.out y7 (HBc.out.trans (b7.mono HBc.out.size))); have HB7 : Hid (Below W.heap.size W y7) := HByc.out.trans (b7.mono HByc.out.size); clear hy7 b7 v7; refine V.wrd 10 (by kernel_rfl) rfl fun K hK => ?_
     go_simp; refine hK.out _ _ (by first | exact HS7.out | (rw [HY7.out]; exact HS7.out)) (fun hHeld => ?_); clear hK K; try rw [HY7.out]
     try simp only [V.pts]
     refine V.wrd 11 (by kernel_rfl) rfl fun K hK => ?_
     rw [if_pos (by rfl)]; try rw [HY7.out]
     refine S.wp_append_row _ _ _ 43 23 _ 1 2 Tryz.underlying43 S.info32 rfl (by decide) rfl W.heap.size _ rn _ rfl od7 _ 1 _ rfl cs7 bd1 bd2 z7 (fun e8 y8 oe8 ge8 => ?_); obtain ⟨p8, c8, hd8⟩ := own_fm oe8; subst hd8; have hG : S.Grew y7 y8 (.slice pd rn cd1) (.slice p8 (rn + 1) c8) := ge8; have hki : y8.heap[gi]? = y7.heap[gi]? := hG.block gi (World.block_lt_of_cell? y7 _ (HS7.out.1)) (fun c => HNE.out gi rfl c.symm); have hkg : y8.heap[g]? = y7.heap[g]? := hG.block g (World.block_lt_of_cell? y7 _ (HS7.out.2)) (fun c => by have h1 := (World.ownsRow.lt od7 g c.symm).1; have h2 := HX0.out.lt; omega); have HS8 : Hid ((fun wz : World => wz.cell? ⟨gi, 0, none⟩ = some (.int .u16 a0) /\ wz.cell? ⟨g, 6, none⟩ = some (.pointer (some ⟨b, 0, none⟩))) y8) := ⟨V.cb hki HS7.out.1, V.cb hkg HS7.out.2⟩
     have HG8 := S.hid (hG); have HO8 : Hid _ := oe8; clear ge8 hG oe8 hki hkg; refine hK.out _ _ HS8.out (fun hHeld => ?_); clear hK K; try simp only [V.pts]
     refine V.wt1 12 (v := ?_) rfl (by kernel_rfl) (fun c a w h => h) (by rfl) ?_ hHeld ?_
     rotate_left
     ·(intro w hSw; (try dsimp only at hSw); go_simp; try with_reducible rfl)
     simp only [V.pts]; refine wpAnyH_done (by kernel_rfl) ?_ _; clear hHeld; have od8 := HO8.out; have gd8 := HG8.out; have hb8 : Below W.heap.size y7 y8 := gd8.below (fun k e => (World.ownsRow.lt od7 k e).1) z7; have or8 : y8.ownsRow W.heap.size 101 2 (.slice pr nr cr1) nr (S.en S.eK v.R) := own_ty or7 od7 gd8 (by decide)
     have HRA : Hid (RA W y8 g b kv F v (.slice p8 (rn + 1) c8) (.slice pr nr cr1) (v.D.take rn ++ [cv]) v.R) := by
      refine RA.of HX0.out (HB7.out.trans hb8) (S.own_sl S.hU (t := 23) (B := W.heap.size) ?_) (S.own_sl S.hK (t := 101) (B := W.heap.size) ?_) (fun k e => e.elim (fun e => World.ownsRow.lt od8 k e) (fun e => World.ownsRow.lt or8 k e))
      ·rw [List.length_append, HTL.out, S.en_append]; exact od8
      ·rw [HN.out.2.1]; exact or8
     clear od8 gd8 hb8 or8 od7 or7 z7 bd1 bd2 cs7 HS7 HS8 HSd HG8 HO8 HY7 HB7 ODyd ORyd HByd ODyc ORyc HByc HBc; obtain ⟨u4, u5, u1, f4, g4, f5, g5, f1, g1, hY⟩ := HRA.out.fin (nx) (by rw [List.length_append, HTL.out]; have := H0.out.2.1; simp only [lvN, List.length_cons, List.length_nil] at this ⊢; have h3 := HRN.out; have h4 := HN.out.2.2; simp only [tkN] at this h4; rw [HN.out.1] at this; omega) HX0.out.rl HPC.out (fun z hz => by rcases List.mem_append.1 hz with h | h; exact HCD.out z h; simp only [List.mem_cons, List.not_mem_nil, or_false] at h; rcases h with h <;> (rw [h]; exact HCC.out)) HCR.out; have HY : Hid _ := hY
     have hSt : ({ (dn 52 x (beh v.pc 52) v).v with pc := (dn 52 x (beh v.pc 52) v).on } : VS) = { v with D := v.D.take rn ++ [cv], R := v.R, pc := nx } := by
      have hpl : ({ (dn 52 x (beh v.pc 52) v).v with pc := (dn 52 x (beh v.pc 52) v).on } : VS) = _ := st_plain 52 (by decide) (by rfl) x (beh v.pc 52) v hf; rw [hpl, <- HNX.out]; have hrn' : v.D.length - tkN 52 = rn := by rw [HN.out.1, HN.out.2.2]; exact HRN.out
      have hII := HII.out; simp only [tkN] at hrn'
      simp [P.nD, P.nR, P.nM, P.rw_, P.rest, P.xAt, P.tops, hrn', hII, P.putN, P.retN, P.memN, C.isUn, C.isBi, HCV.out]
     have HST : Hid _ := hSt; clear hSt; clear hY; go_wp2; go_ret; refine ⟨rfl, ?_⟩; rw [HST.out]; exact HY.out
   ·as_aux_lemma =>
     have HOP : Hid (op = 51) := hop; clear hop; obtain rfl := HOP.out
     obtain ⟨a0, a1, hi⟩ : ∃ a0 a1, inn = [a0, a1] := by
      have h1 := HIL.out; have h2 := HN.out.2.2; simp only [tkN] at h2; rw [<- h2] at h1
      match inn, h1 with
      | [c0, c1], _ => exact ⟨c0, c1, rfl⟩
     subst hi; obtain rfl : 2 = tk := by have := HIL.out; simpa using this
     obtain ⟨gi, cq, hci, ce0⟩ := HRC.out.in 0 a0 rfl
     simp at hci
     obtain ⟨rfl, rfl⟩ := hci; obtain ⟨gi1, cq1, hci1, ce1⟩ := HRC.out.in 1 a1 rfl
     simp at hci1
     obtain ⟨rfl, rfl⟩ := hci1; obtain ⟨hA0, hB0⟩ := HCI.out a0 (by simp); obtain ⟨hA1, hB1⟩ := HCI.out a1 (by simp); have HGI : Hid (W.heap.size <= gi) := (World.ownsRow.lt HRC.out.i gi rfl).1; have c6 : y6.cell? ⟨g, 6, none⟩ = some (.pointer (some ⟨b, 0, none⟩)) := (HX0.out.below HRC.out.bel).c6; have HS : Hid (∀ X : World, Below y6.heap.size y6 X -> (fun wz : World => wz.cell? ⟨gi, 0, none⟩ = some (.int .u16 a0) /\ wz.cell? ⟨gi, 1, none⟩ = some (.int .u16 a1) /\ wz.cell? ⟨g, 6, none⟩ = some (.pointer (some ⟨b, 0, none⟩))) X) := fun X hX => ⟨V.cx hX ce0, V.cx hX ce1, V.cx hX c6⟩
     have HBd : Hid (Below y6.heap.size y6 y6.drew) := ⟨rfl, rfl, rfl, Nat.le_refl _, fun _ _ => rfl⟩
     clear ce0 ce1 c6; go_upto_region 65 with fail
     refine V.wrh HS.out HBd.out (by kernel_rfl) (fun hHeld => ?_); generalize y6.drew = yd at *
     have ODyd := S.hid (own_nw ODy6.out HBd.out); have ORyd := S.hid (own_nw ORy6.out HBd.out); have HByd : Hid (Below W.heap.size W yd) := HBy6.out.trans (HBd.out.mono HBy6.out.size); have HSd := S.hid (V.nx HS.out HBd.out); clear HS HDL HRL HBK ODy6 ORy6 HBy6 HRC HBd; have HMm : Hid (M.IsR yd F b v.m) := (HX0.out.below HByd.out).mem; have HSb0 := S.hid (HSd.out yd (Below.refl _ yd)); have HSb : Hid _ := HSb0.out; have ODyb : Hid _ := ODyd.out; have ORyb : Hid _ := ORyd.out; have HByb : Hid _ := HByd.out; have kS := M.rsetCell_any b a1 hA1 hB1 a0 hA0 hB0 yd HMm.out (by omega); refine wtk0 (is := [0, 1, 2, 3, 4, 5, 6, 7, 8, 9]) ?_
     iterate 10
      refine V.wt (v := ?_) rfl (by kernel_rfl) (fun c a w h => h) (by rfl) ?_ hHeld ?_
      rotate_left
      ·(intro w hSw; (try dsimp only at hSw); go_simp; try with_reducible rfl)
      simp only [V.pts]
     refine wtkE ?_; refine V.wrd 10 (by kernel_rfl) rfl fun K hK => ?_
     go_simp; refine (kS).mono ?_; rintro e ym ⟨rfl, hRD⟩; dsimp only; have HRD : Hid _ := hRD; have hki : ym.heap[gi]? = yd.heap[gi]? := hRD.2.block gi (World.block_lt_of_cell? yd _ (HSb.out.1)) (fun f => by have h1 := HX0.out.fb gi f; have h2 := HGI.out; omega); have hkg : ym.heap[g]? = yd.heap[g]? := hRD.2.block g (World.block_lt_of_cell? yd _ (HSb.out.2.2)) (fun f => HX0.out.fv f); have HSm : Hid ((fun wz : World => wz.cell? ⟨gi, 0, none⟩ = some (.int .u16 a0) /\ wz.cell? ⟨gi, 1, none⟩ = some (.int .u16 a1) /\ wz.cell? ⟨g, 6, none⟩ = some (.pointer (some ⟨b, 0, none⟩))) ym) := ⟨V.cb hki HSb.out.1, V.cb hki HSb.out.2.1, V.cb hkg HSb.out.2.2⟩
     clear hRD hki hkg; refine hK.out _ _ HSm.out (fun hHeld => ?_); clear hK K; try simp only [V.pts]
     refine wpAnyH_done (by kernel_rfl) ?_ _; clear hHeld; have HRA : Hid (RA W ym g b kv F { v with m := M.sc v.m a1 a0 } (.slice pd rn cd1) (.slice pr nr cr1) (v.D.take rn) v.R) := RA.mem HX0.out HByb.out (S.own_sl S.hU (t := 23) (B := W.heap.size) (by rw [HTL.out]; exact ODyb.out)) (S.own_sl S.hK (t := 101) (B := W.heap.size) (by rw [HN.out.2.1]; exact ORyb.out)) (fun k e => e.elim (fun e => World.ownsRow.lt ODyb.out k e) (fun e => World.ownsRow.lt ORyb.out k e)) HRD.out; clear HRD HSm HSb HSd HSb0 ODyb ORyb HByb HMm; obtain ⟨u4, u5, u1, f4, g4, f5, g5, f1, g1, hY⟩ := HRA.out.fin (nx) (by rw [HTL.out]; have := HX0.out.dl; rw [HN.out.1] at this; have := HRN.out; omega) HX0.out.rl HPC.out HCD.out HCR.out; have HY : Hid _ := hY
     have hSt : ({ (dn 51 x (beh v.pc 51) v).v with pc := (dn 51 x (beh v.pc 51) v).on } : VS) = { { v with m := M.sc v.m a1 a0 } with D := v.D.take rn, R := v.R, pc := nx } := by
      have hpl : ({ (dn 51 x (beh v.pc 51) v).v with pc := (dn 51 x (beh v.pc 51) v).on } : VS) = _ := st_plain 51 (by decide) (by rfl) x (beh v.pc 51) v hf; rw [hpl, <- HNX.out]; have hrn' : v.D.length - tkN 51 = rn := by rw [HN.out.1, HN.out.2.2]; exact HRN.out
      have hII := HII.out; simp only [tkN] at hrn'
      simp [P.nD, P.nR, P.nM, P.rw_, P.rest, P.xAt, P.tops, hrn', hII, P.putN, P.retN, P.memN, C.isUn, C.isBi]
     have HST : Hid _ := hSt; clear hSt; clear hY; go_wp2; go_ret; refine ⟨rfl, ?_⟩; rw [HST.out]; exact HY.out
   ·as_aux_lemma =>
     have HOP : Hid (op = 53) := hop; clear hop; obtain rfl := HOP.out
     obtain ⟨a0, a1, hi⟩ : ∃ a0 a1, inn = [a0, a1] := by
      have h1 := HIL.out; have h2 := HN.out.2.2; simp only [tkN] at h2; rw [<- h2] at h1
      match inn, h1 with
      | [c0, c1], _ => exact ⟨c0, c1, rfl⟩
     subst hi; obtain rfl : 2 = tk := by have := HIL.out; simpa using this
     obtain ⟨gi, cq, hci, ce0⟩ := HRC.out.in 0 a0 rfl
     simp at hci
     obtain ⟨rfl, rfl⟩ := hci; obtain ⟨gi1, cq1, hci1, ce1⟩ := HRC.out.in 1 a1 rfl
     simp at hci1
     obtain ⟨rfl, rfl⟩ := hci1; obtain ⟨hA0, hB0⟩ := HCI.out a0 (by simp); obtain ⟨hA1, hB1⟩ := HCI.out a1 (by simp); have HGI : Hid (W.heap.size <= gi) := (World.ownsRow.lt HRC.out.i gi rfl).1; have c6 : y6.cell? ⟨g, 6, none⟩ = some (.pointer (some ⟨b, 0, none⟩)) := (HX0.out.below HRC.out.bel).c6; have HS : Hid (∀ X : World, Below y6.heap.size y6 X -> (fun wz : World => wz.cell? ⟨gi, 0, none⟩ = some (.int .u16 a0) /\ wz.cell? ⟨gi, 1, none⟩ = some (.int .u16 a1) /\ wz.cell? ⟨g, 6, none⟩ = some (.pointer (some ⟨b, 0, none⟩))) X) := fun X hX => ⟨V.cx hX ce0, V.cx hX ce1, V.cx hX c6⟩
     have HBd : Hid (Below y6.heap.size y6 y6.drew) := ⟨rfl, rfl, rfl, Nat.le_refl _, fun _ _ => rfl⟩
     clear ce0 ce1 c6; go_upto_region 69 with fail
     refine V.wrh HS.out HBd.out (by kernel_rfl) (fun hHeld => ?_); generalize y6.drew = yd at *
     have ODyd := S.hid (own_nw ODy6.out HBd.out); have ORyd := S.hid (own_nw ORy6.out HBd.out); have HByd : Hid (Below W.heap.size W yd) := HBy6.out.trans (HBd.out.mono HBy6.out.size); have HSd := S.hid (V.nx HS.out HBd.out); clear HS HDL HRL HBK ODy6 ORy6 HBy6 HRC HBd; have HMm : Hid (M.IsR yd F b v.m) := (HX0.out.below HByd.out).mem; have HSb0 := S.hid (HSd.out yd (Below.refl _ yd)); have HSb : Hid _ := HSb0.out; have ODyb : Hid _ := ODyd.out; have ORyb : Hid _ := ORyd.out; have HByb : Hid _ := HByd.out; have wb8 : IntKind.u8.wrap a0 = M.bt (M.b8 a0) := by rw [M.u8_wrap, M.bt_b8]
     have kS := M.rstore_any b a1 hA1 hB1 (M.b8 a0) yd HMm.out (by omega); refine wtk0 (is := [0, 1, 2, 3, 4, 5, 6, 7, 8, 9, 10]) ?_
     iterate 11
      refine V.wt (v := ?_) rfl (by kernel_rfl) (fun c a w h => h) (by rfl) ?_ hHeld ?_
      rotate_left
      ·(intro w hSw; (try dsimp only at hSw); go_simp; try with_reducible rfl)
      simp only [V.pts]
     refine wtkE ?_; refine V.wrd 11 (by kernel_rfl) rfl fun K hK => ?_
     go_simp; refine (kS).mono ?_; rintro e ym ⟨rfl, hRD⟩; dsimp only; have HRD : Hid _ := hRD; have hki : ym.heap[gi]? = yd.heap[gi]? := hRD.2.block gi (World.block_lt_of_cell? yd _ (HSb.out.1)) (fun f => by have h1 := HX0.out.fb gi f; have h2 := HGI.out; omega); have hkg : ym.heap[g]? = yd.heap[g]? := hRD.2.block g (World.block_lt_of_cell? yd _ (HSb.out.2.2)) (fun f => HX0.out.fv f); have HSm : Hid ((fun wz : World => wz.cell? ⟨gi, 0, none⟩ = some (.int .u16 a0) /\ wz.cell? ⟨gi, 1, none⟩ = some (.int .u16 a1) /\ wz.cell? ⟨g, 6, none⟩ = some (.pointer (some ⟨b, 0, none⟩))) ym) := ⟨V.cb hki HSb.out.1, V.cb hki HSb.out.2.1, V.cb hkg HSb.out.2.2⟩
     clear hRD hki hkg; refine hK.out _ _ HSm.out (fun hHeld => ?_); clear hK K; try simp only [V.pts]
     refine wpAnyH_done (by kernel_rfl) ?_ _; clear hHeld; have HRA : Hid (RA W ym g b kv F { v with m := M.st v.m a1 (M.b8 a0) } (.slice pd rn cd1) (.slice pr nr cr1) (v.D.take rn) v.R) := RA.mem HX0.out HByb.out (S.own_sl S.hU (t := 23) (B := W.heap.size) (by rw [HTL.out]; exact ODyb.out)) (S.own_sl S.hK (t := 101) (B := W.heap.size) (by rw [HN.out.2.1]; exact ORyb.out)) (fun k e => e.elim (fun e => World.ownsRow.lt ODyb.out k e) (fun e => World.ownsRow.lt ORyb.out k e)) HRD.out; clear HRD HSm HSb HSd HSb0 ODyb ORyb HByb HMm; obtain ⟨u4, u5, u1, f4, g4, f5, g5, f1, g1, hY⟩ := HRA.out.fin (nx) (by rw [HTL.out]; have := HX0.out.dl; rw [HN.out.1] at this; have := HRN.out; omega) HX0.out.rl HPC.out HCD.out HCR.out; have HY : Hid _ := hY
     have hSt : ({ (dn 53 x (beh v.pc 53) v).v with pc := (dn 53 x (beh v.pc 53) v).on } : VS) = { { v with m := M.st v.m a1 (M.b8 a0) } with D := v.D.take rn, R := v.R, pc := nx } := by
      have hpl : ({ (dn 53 x (beh v.pc 53) v).v with pc := (dn 53 x (beh v.pc 53) v).on } : VS) = _ := st_plain 53 (by decide) (by rfl) x (beh v.pc 53) v hf; rw [hpl, <- HNX.out]; have hrn' : v.D.length - tkN 53 = rn := by rw [HN.out.1, HN.out.2.2]; exact HRN.out
      have hII := HII.out; simp only [tkN] at hrn'
      simp [P.nD, P.nR, P.nM, P.rw_, P.rest, P.xAt, P.tops, hrn', hII, P.putN, P.retN, P.memN, C.isUn, C.isBi]
     have HST : Hid _ := hSt; clear hSt; clear hY; go_wp2; go_ret; refine ⟨rfl, ?_⟩; rw [HST.out]; exact HY.out
   ·as_aux_lemma =>
     have HOP : Hid (op = 63) := hop; clear hop; obtain rfl := HOP.out
     obtain ⟨a0, hi⟩ : ∃ a0, inn = [a0] := by
      have h1 := HIL.out; have h2 := HN.out.2.2; simp only [tkN] at h2; rw [<- h2] at h1
      match inn, h1 with
      | [c0], _ => exact ⟨c0, rfl⟩
     subst hi; obtain rfl : 1 = tk := by have := HIL.out; simpa using this
     obtain ⟨gi, cq, hci, ce0⟩ := HRC.out.in 0 a0 rfl
     simp at hci
     obtain ⟨rfl, rfl⟩ := hci; obtain ⟨hA0, hB0⟩ := HCI.out a0 (by simp); have HGI : Hid (W.heap.size <= gi) := (World.ownsRow.lt HRC.out.i gi rfl).1; have c6 : y6.cell? ⟨g, 6, none⟩ = some (.pointer (some ⟨b, 0, none⟩)) := (HX0.out.below HRC.out.bel).c6; have HS : Hid (∀ X : World, Below y6.heap.size y6 X -> (fun wz : World => wz.cell? ⟨gi, 0, none⟩ = some (.int .u16 a0) /\ wz.cell? ⟨g, 6, none⟩ = some (.pointer (some ⟨b, 0, none⟩))) X) := fun X hX => ⟨V.cx hX ce0, V.cx hX c6⟩
     have HBd : Hid (Below y6.heap.size y6 y6.drew) := ⟨rfl, rfl, rfl, Nat.le_refl _, fun _ _ => rfl⟩
     clear ce0 c6; go_upto_region 89 with fail
     refine V.wrh HS.out HBd.out (by kernel_rfl) (fun hHeld => ?_); generalize y6.drew = yd at *
     have ODyd := S.hid (own_nw ODy6.out HBd.out); have ORyd := S.hid (own_nw ORy6.out HBd.out); have HByd : Hid (Below W.heap.size W yd) := HBy6.out.trans (HBd.out.mono HBy6.out.size); have HSd := S.hid (V.nx HS.out HBd.out); clear HS HDL HRL HBK ODy6 ORy6 HBy6 HRC HBd; have HMm : Hid (M.IsR yd F b v.m) := (HX0.out.below HByd.out).mem; have HSb0 := S.hid (HSd.out yd (Below.refl _ yd)); have HSb : Hid _ := HSb0.out; have ODyb : Hid _ := ODyd.out; have ORyb : Hid _ := ORyd.out; have HByb : Hid _ := HByd.out; have kS := M.rchoose_any b a0 yd HMm.out (by omega); refine wtk0 (is := [0, 1, 2, 3, 4, 5, 6]) ?_
     iterate 7
      refine V.wt (v := ?_) rfl (by kernel_rfl) (fun c a w h => h) (by rfl) ?_ hHeld ?_
      rotate_left
      ·(intro w hSw; (try dsimp only at hSw); go_simp; try with_reducible rfl)
      simp only [V.pts]
     refine wtkE ?_; refine V.wrd 7 (by kernel_rfl) rfl fun K hK => ?_
     go_simp; refine (kS).mono ?_; rintro e ym ⟨rfl, hRD⟩; dsimp only; have HRD : Hid _ := hRD; have hki : ym.heap[gi]? = yd.heap[gi]? := hRD.2.block gi (World.block_lt_of_cell? yd _ (HSb.out.1)) (fun f => by have h1 := HX0.out.fb gi f; have h2 := HGI.out; omega); have hkg : ym.heap[g]? = yd.heap[g]? := hRD.2.block g (World.block_lt_of_cell? yd _ (HSb.out.2)) (fun f => HX0.out.fv f); have HSm : Hid ((fun wz : World => wz.cell? ⟨gi, 0, none⟩ = some (.int .u16 a0) /\ wz.cell? ⟨g, 6, none⟩ = some (.pointer (some ⟨b, 0, none⟩))) ym) := ⟨V.cb hki HSb.out.1, V.cb hkg HSb.out.2⟩
     clear hRD hki hkg; refine hK.out _ _ HSm.out (fun hHeld => ?_); clear hK K; try simp only [V.pts]
     refine wpAnyH_done (by kernel_rfl) ?_ _; clear hHeld; have HRA : Hid (RA W ym g b kv F { v with m := M.st v.m 65280 (M.b8 a0) } (.slice pd rn cd1) (.slice pr nr cr1) (v.D.take rn) v.R) := RA.mem HX0.out HByb.out (S.own_sl S.hU (t := 23) (B := W.heap.size) (by rw [HTL.out]; exact ODyb.out)) (S.own_sl S.hK (t := 101) (B := W.heap.size) (by rw [HN.out.2.1]; exact ORyb.out)) (fun k e => e.elim (fun e => World.ownsRow.lt ODyb.out k e) (fun e => World.ownsRow.lt ORyb.out k e)) HRD.out; clear HRD HSm HSb HSd HSb0 ODyb ORyb HByb HMm; obtain ⟨u4, u5, u1, f4, g4, f5, g5, f1, g1, hY⟩ := HRA.out.fin (nx) (by rw [HTL.out]; have := HX0.out.dl; rw [HN.out.1] at this; have := HRN.out; omega) HX0.out.rl HPC.out HCD.out HCR.out; have HY : Hid _ := hY
     have hSt : ({ (dn 63 x (beh v.pc 63) v).v with pc := (dn 63 x (beh v.pc 63) v).on } : VS) = { { v with m := M.st v.m 65280 (M.b8 a0) } with D := v.D.take rn, R := v.R, pc := nx } := by
      have hpl : ({ (dn 63 x (beh v.pc 63) v).v with pc := (dn 63 x (beh v.pc 63) v).on } : VS) = _ := st_plain 63 (by decide) (by rfl) x (beh v.pc 63) v hf; rw [hpl, <- HNX.out]; have hrn' : v.D.length - tkN 63 = rn := by rw [HN.out.1, HN.out.2.2]; exact HRN.out
      have hII := HII.out; simp only [tkN] at hrn'
      simp [P.nD, P.nR, P.nM, P.rw_, P.rest, P.xAt, P.tops, hrn', hII, P.putN, P.retN, P.memN, C.isUn, C.isBi]
     have HST : Hid _ := hSt; clear hSt; clear hY; go_wp2; go_ret; refine ⟨rfl, ?_⟩; rw [HST.out]; exact HY.out
   ·as_aux_lemma =>
     have HOP : Hid (op = 54) := hop; clear hop; obtain rfl := HOP.out
     obtain ⟨a0, a1, hi⟩ : ∃ a0 a1, inn = [a0, a1] := by
      have h1 := HIL.out; have h2 := HN.out.2.2; simp only [tkN] at h2; rw [<- h2] at h1
      match inn, h1 with
      | [c0, c1], _ => exact ⟨c0, c1, rfl⟩
     subst hi; obtain rfl : 2 = tk := by have := HIL.out; simpa using this
     obtain ⟨gi, cq, hci, ce0⟩ := HRC.out.in 0 a0 rfl
     simp at hci
     obtain ⟨rfl, rfl⟩ := hci; obtain ⟨gi1, cq1, hci1, ce1⟩ := HRC.out.in 1 a1 rfl
     simp at hci1
     obtain ⟨rfl, rfl⟩ := hci1; obtain ⟨hA0, hB0⟩ := HCI.out a0 (by simp); obtain ⟨hA1, hB1⟩ := HCI.out a1 (by simp); have HGI : Hid (W.heap.size <= gi) := (World.ownsRow.lt HRC.out.i gi rfl).1; have c6 : y6.cell? ⟨g, 6, none⟩ = some (.pointer (some ⟨b, 0, none⟩)) := (HX0.out.below HRC.out.bel).c6; have HS : Hid (∀ X : World, Below y6.heap.size y6 X -> (fun wz : World => wz.cell? ⟨gi, 0, none⟩ = some (.int .u16 a0) /\ wz.cell? ⟨gi, 1, none⟩ = some (.int .u16 a1) /\ wz.cell? ⟨g, 6, none⟩ = some (.pointer (some ⟨b, 0, none⟩))) X) := fun X hX => ⟨V.cx hX ce0, V.cx hX ce1, V.cx hX c6⟩
     have HBd : Hid (Below y6.heap.size y6 y6.drew) := ⟨rfl, rfl, rfl, Nat.le_refl _, fun _ _ => rfl⟩
     clear ce0 ce1 c6; go_upto_region 71 with fail
     refine V.wrh HS.out HBd.out (by kernel_rfl) (fun hHeld => ?_); generalize y6.drew = yd at *
     have ODyd := S.hid (own_nw ODy6.out HBd.out); have ORyd := S.hid (own_nw ORy6.out HBd.out); have HByd : Hid (Below W.heap.size W yd) := HBy6.out.trans (HBd.out.mono HBy6.out.size); have HSd := S.hid (V.nx HS.out HBd.out); clear HS HDL HRL HBK ODy6 ORy6 HBy6 HRC HBd; have HMm : Hid (M.IsR yd F b v.m) := (HX0.out.below HByd.out).mem; have HSb0 := S.hid (HSd.out yd (Below.refl _ yd)); obtain ⟨cv, hcv⟩ : ∃ c, M.cl v.m a1 = c := ⟨_, rfl⟩
     have kC := M.rcell_any b a1 hA1 hB1 yd HMm.out; rw [hcv] at kC; obtain ⟨sm, hsm⟩ : ∃ s, (cv + a0) % 65536 = s := ⟨_, rfl⟩
     have wsm : IntKind.u16.wrap (cv + a0) = sm := by rw [M.u16_wrap]; exact hsm
     have hS0 : 0 <= sm := by omega
     have hS1 : sm < 65536 := by omega
     have HCV : Hid _ := And.intro hcv hsm; clear hcv; refine wtk0 (is := [0, 1, 2, 3, 4, 5, 6, 7, 8, 9, 10, 11, 12, 13, 15, 16, 17]) ?_
     iterate 17
      refine V.wt (v := ?_) rfl (by kernel_rfl) (fun c a w h => h) (by rfl) ?_ hHeld ?_
      rotate_left
      ·(intro w hSw; (try dsimp only at hSw); go_simp; try with_reducible rfl)
      simp only [V.pts]
     refine wtkE ?_; refine V.wrd 14 (by kernel_rfl) rfl fun K hK => ?_
     go_simp; refine (kC).mono ?_; rintro e yc ⟨rfl, hbc⟩; dsimp only; have HBc := S.hid (hbc); clear hbc; refine hK.out _ _ (HSd.out yc HBc.out) (fun hHeld => ?_); clear hK K; try simp only [V.pts]
     clear kC; have ODyb := S.hid (own_nw ODyd.out HBc.out); have ORyb := S.hid (own_nw ORyd.out HBc.out); have HByb : Hid (Below W.heap.size W yc) := HByd.out.trans (HBc.out.mono HByd.out.size); have HSb := S.hid (HSd.out yc HBc.out); have kS := M.rsetCell_any b a1 hA1 hB1 sm hS0 hS1 yc (HMm.out.below HBc.out) (by omega); refine V.wt1 18 (v := ?_) rfl (by kernel_rfl) (fun c a w h => h) (by rfl) ?_ hHeld ?_
     rotate_left
     ·(intro w hSw; (try dsimp only at hSw); go_simp; try with_reducible rfl)
     simp only [V.pts]; refine V.wrd 19 (by kernel_rfl) rfl fun K hK => ?_
     go_simp; refine (kS).mono ?_; rintro e ym ⟨rfl, hRD⟩; dsimp only; have HRD : Hid _ := hRD; have hki : ym.heap[gi]? = yc.heap[gi]? := hRD.2.block gi (World.block_lt_of_cell? yc _ (HSb.out.1)) (fun f => by have h1 := HX0.out.fb gi f; have h2 := HGI.out; omega); have hkg : ym.heap[g]? = yc.heap[g]? := hRD.2.block g (World.block_lt_of_cell? yc _ (HSb.out.2.2)) (fun f => HX0.out.fv f); have HSm : Hid ((fun wz : World => wz.cell? ⟨gi, 0, none⟩ = some (.int .u16 a0) /\ wz.cell? ⟨gi, 1, none⟩ = some (.int .u16 a1) /\ wz.cell? ⟨g, 6, none⟩ = some (.pointer (some ⟨b, 0, none⟩))) ym) := ⟨V.cb hki HSb.out.1, V.cb hki HSb.out.2.1, V.cb hkg HSb.out.2.2⟩
     clear hRD hki hkg; refine hK.out _ _ HSm.out (fun hHeld => ?_); clear hK K; try simp only [V.pts]
     refine wpAnyH_done (by kernel_rfl) ?_ _; clear hHeld; have HRA : Hid (RA W ym g b kv F { v with m := M.sc v.m a1 sm } (.slice pd rn cd1) (.slice pr nr cr1) (v.D.take rn) v.R) := RA.mem HX0.out HByb.out (S.own_sl S.hU (t := 23) (B := W.heap.size) (by rw [HTL.out]; exact ODyb.out)) (S.own_sl S.hK (t := 101) (B := W.heap.size) (by rw [HN.out.2.1]; exact ORyb.out)) (fun k e => e.elim (fun e => World.ownsRow.lt ODyb.out k e) (fun e => World.ownsRow.lt ORyb.out k e)) HRD.out; clear HRD HSm HSb HSd HSb0 ODyb ORyb HByb HMm; obtain ⟨u4, u5, u1, f4, g4, f5, g5, f1, g1, hY⟩ := HRA.out.fin (nx) (by rw [HTL.out]; have := HX0.out.dl; rw [HN.out.1] at this; have := HRN.out; omega) HX0.out.rl HPC.out HCD.out HCR.out; have HY : Hid _ := hY
     have hSt : ({ (dn 54 x (beh v.pc 54) v).v with pc := (dn 54 x (beh v.pc 54) v).on } : VS) = { { v with m := M.sc v.m a1 sm } with D := v.D.take rn, R := v.R, pc := nx } := by
      have hpl : ({ (dn 54 x (beh v.pc 54) v).v with pc := (dn 54 x (beh v.pc 54) v).on } : VS) = _ := st_plain 54 (by decide) (by rfl) x (beh v.pc 54) v hf; rw [hpl, <- HNX.out]; have hrn' : v.D.length - tkN 54 = rn := by rw [HN.out.1, HN.out.2.2]; exact HRN.out
      have hII := HII.out; simp only [tkN] at hrn'
      simp [P.nD, P.nR, P.nM, P.rw_, P.rest, P.xAt, P.tops, hrn', hII, P.putN, P.retN, P.memN, C.isUn, C.isBi, HCV.out.1, HCV.out.2]
     have HST : Hid _ := hSt; clear hSt; clear hY; go_wp2; go_ret; refine ⟨rfl, ?_⟩; rw [HST.out]; exact HY.out
   ·as_aux_lemma =>
     have HOP : Hid (op = 60) := hop; clear hop; obtain rfl := HOP.out
     obtain ⟨a0, a1, a2, hi⟩ : ∃ a0 a1 a2, inn = [a0, a1, a2] := by
      have h1 := HIL.out; have h2 := HN.out.2.2; simp only [tkN] at h2; rw [<- h2] at h1
      match inn, h1 with
      | [c0, c1, c2], _ => exact ⟨c0, c1, c2, rfl⟩
     subst hi; obtain rfl : 3 = tk := by have := HIL.out; simpa using this
     obtain ⟨gi, cq, hci, ce0⟩ := HRC.out.in 0 a0 rfl
     simp at hci
     obtain ⟨rfl, rfl⟩ := hci; obtain ⟨gi1, cq1, hci1, ce1⟩ := HRC.out.in 1 a1 rfl
     simp at hci1
     obtain ⟨rfl, rfl⟩ := hci1; obtain ⟨gi2, cq2, hci2, ce2⟩ := HRC.out.in 2 a2 rfl
     simp at hci2
     obtain ⟨rfl, rfl⟩ := hci2; obtain ⟨hA0, hB0⟩ := HCI.out a0 (by simp); obtain ⟨hA1, hB1⟩ := HCI.out a1 (by simp); obtain ⟨hA2, hB2⟩ := HCI.out a2 (by simp); have HGI : Hid (W.heap.size <= gi) := (World.ownsRow.lt HRC.out.i gi rfl).1; have c6 : y6.cell? ⟨g, 6, none⟩ = some (.pointer (some ⟨b, 0, none⟩)) := (HX0.out.below HRC.out.bel).c6; have HS : Hid (∀ X : World, Below y6.heap.size y6 X -> (fun wz : World => wz.cell? ⟨gi, 0, none⟩ = some (.int .u16 a0) /\ wz.cell? ⟨gi, 1, none⟩ = some (.int .u16 a1) /\ wz.cell? ⟨gi, 2, none⟩ = some (.int .u16 a2) /\ wz.cell? ⟨g, 6, none⟩ = some (.pointer (some ⟨b, 0, none⟩))) X) := fun X hX => ⟨V.cx hX ce0, V.cx hX ce1, V.cx hX ce2, V.cx hX c6⟩
     have HBd : Hid (Below y6.heap.size y6 y6.drew) := ⟨rfl, rfl, rfl, Nat.le_refl _, fun _ _ => rfl⟩
     clear ce0 ce1 ce2 c6; go_upto_region 83 with fail
     refine V.wrh HS.out HBd.out (by kernel_rfl) (fun hHeld => ?_); generalize y6.drew = yd at *
     have ODyd := S.hid (own_nw ODy6.out HBd.out); have ORyd := S.hid (own_nw ORy6.out HBd.out); have HByd : Hid (Below W.heap.size W yd) := HBy6.out.trans (HBd.out.mono HBy6.out.size); have HSd := S.hid (V.nx HS.out HBd.out); clear HS HDL HRL HBK ODy6 ORy6 HBy6 HRC HBd; have HMm : Hid (M.IsR yd F b v.m) := (HX0.out.below HByd.out).mem; have HSb0 := S.hid (HSd.out yd (Below.refl _ yd)); have HSb : Hid _ := HSb0.out; have ODyb : Hid _ := ODyd.out; have ORyb : Hid _ := ORyd.out; have HByb : Hid _ := HByd.out; have kS := M.rplot_any b a0 a1 a2 hA0 hB0 hA1 hB1 yd HMm.out (by omega); refine wtk0 (is := [0, 1, 2, 3, 4, 5, 6, 7, 8, 9, 10, 11, 12]) ?_
     iterate 13
      refine V.wt (v := ?_) rfl (by kernel_rfl) (fun c a w h => h) (by rfl) ?_ hHeld ?_
      rotate_left
      ·(intro w hSw; (try dsimp only at hSw); go_simp; try with_reducible rfl)
      simp only [V.pts]
     refine wtkE ?_; refine V.wrd 13 (by kernel_rfl) rfl fun K hK => ?_
     go_simp; refine (kS).mono ?_; rintro e ym ⟨rfl, hRD⟩; dsimp only; have HRD : Hid _ := hRD; have hki : ym.heap[gi]? = yd.heap[gi]? := hRD.2.block gi (World.block_lt_of_cell? yd _ (HSb.out.1)) (fun f => by have h1 := HX0.out.fb gi f; have h2 := HGI.out; omega); have hkg : ym.heap[g]? = yd.heap[g]? := hRD.2.block g (World.block_lt_of_cell? yd _ (HSb.out.2.2.2)) (fun f => HX0.out.fv f); have HSm : Hid ((fun wz : World => wz.cell? ⟨gi, 0, none⟩ = some (.int .u16 a0) /\ wz.cell? ⟨gi, 1, none⟩ = some (.int .u16 a1) /\ wz.cell? ⟨gi, 2, none⟩ = some (.int .u16 a2) /\ wz.cell? ⟨g, 6, none⟩ = some (.pointer (some ⟨b, 0, none⟩))) ym) := ⟨V.cb hki HSb.out.1, V.cb hki HSb.out.2.1, V.cb hki HSb.out.2.2.1, V.cb hkg HSb.out.2.2.2⟩
     clear hRD hki hkg; refine hK.out _ _ HSm.out (fun hHeld => ?_); clear hK K; try simp only [V.pts]
     refine wpAnyH_done (by kernel_rfl) ?_ _; clear hHeld; have HRA : Hid (RA W ym g b kv F { v with m := M.plt v.m a0 a1 a2 } (.slice pd rn cd1) (.slice pr nr cr1) (v.D.take rn) v.R) := RA.mem HX0.out HByb.out (S.own_sl S.hU (t := 23) (B := W.heap.size) (by rw [HTL.out]; exact ODyb.out)) (S.own_sl S.hK (t := 101) (B := W.heap.size) (by rw [HN.out.2.1]; exact ORyb.out)) (fun k e => e.elim (fun e => World.ownsRow.lt ODyb.out k e) (fun e => World.ownsRow.lt ORyb.out k e)) HRD.out; clear HRD HSm HSb HSd HSb0 ODyb ORyb HByb HMm; obtain ⟨u4, u5, u1, f4, g4, f5, g5, f1, g1, hY⟩ := HRA.out.fin (nx) (by rw [HTL.out]; have := HX0.out.dl; rw [HN.out.1] at this; have := HRN.out; omega) HX0.out.rl HPC.out HCD.out HCR.out; have HY : Hid _ := hY
     have hSt : ({ (dn 60 x (beh v.pc 60) v).v with pc := (dn 60 x (beh v.pc 60) v).on } : VS) = { { v with m := M.plt v.m a0 a1 a2 } with D := v.D.take rn, R := v.R, pc := nx } := by
      have hpl : ({ (dn 60 x (beh v.pc 60) v).v with pc := (dn 60 x (beh v.pc 60) v).on } : VS) = _ := st_plain 60 (by decide) (by rfl) x (beh v.pc 60) v hf; rw [hpl, <- HNX.out]; have hrn' : v.D.length - tkN 60 = rn := by rw [HN.out.1, HN.out.2.2]; exact HRN.out
      have hII := HII.out; simp only [tkN] at hrn'
      simp [P.nD, P.nR, P.nM, P.rw_, P.rest, P.xAt, P.tops, hrn', hII, P.putN, P.retN, P.memN, C.isUn, C.isBi]
     have HST : Hid _ := hSt; clear hSt; clear hY; go_wp2; go_ret; refine ⟨rfl, ?_⟩; rw [HST.out]; exact HY.out
   ·as_aux_lemma =>
     have HOP : Hid (op = 62) := hop; clear hop; obtain rfl := HOP.out
     obtain ⟨a0, a1, hi⟩ : ∃ a0 a1, inn = [a0, a1] := by
      have h1 := HIL.out; have h2 := HN.out.2.2; simp only [tkN] at h2; rw [<- h2] at h1
      match inn, h1 with
      | [c0, c1], _ => exact ⟨c0, c1, rfl⟩
     subst hi; obtain rfl : 2 = tk := by have := HIL.out; simpa using this
     obtain ⟨gi, cq, hci, ce0⟩ := HRC.out.in 0 a0 rfl
     simp at hci
     obtain ⟨rfl, rfl⟩ := hci; obtain ⟨gi1, cq1, hci1, ce1⟩ := HRC.out.in 1 a1 rfl
     simp at hci1
     obtain ⟨rfl, rfl⟩ := hci1; obtain ⟨hA0, hB0⟩ := HCI.out a0 (by simp); obtain ⟨hA1, hB1⟩ := HCI.out a1 (by simp); have HGI : Hid (W.heap.size <= gi) := (World.ownsRow.lt HRC.out.i gi rfl).1; have c6 : y6.cell? ⟨g, 6, none⟩ = some (.pointer (some ⟨b, 0, none⟩)) := (HX0.out.below HRC.out.bel).c6; have HS : Hid (∀ X : World, Below y6.heap.size y6 X -> (fun wz : World => wz.cell? ⟨gi, 0, none⟩ = some (.int .u16 a0) /\ wz.cell? ⟨gi, 1, none⟩ = some (.int .u16 a1) /\ wz.cell? ⟨g, 6, none⟩ = some (.pointer (some ⟨b, 0, none⟩))) X) := fun X hX => ⟨V.cx hX ce0, V.cx hX ce1, V.cx hX c6⟩
     have HBd : Hid (Below y6.heap.size y6 y6.drew) := ⟨rfl, rfl, rfl, Nat.le_refl _, fun _ _ => rfl⟩
     clear ce0 ce1 c6; go_upto_region 87 with fail
     refine V.wrh HS.out HBd.out (by kernel_rfl) (fun hHeld => ?_); generalize y6.drew = yd at *
     have ODyd := S.hid (own_nw ODy6.out HBd.out); have ORyd := S.hid (own_nw ORy6.out HBd.out); have HByd : Hid (Below W.heap.size W yd) := HBy6.out.trans (HBd.out.mono HBy6.out.size); have HSd := S.hid (V.nx HS.out HBd.out); clear HS HDL HRL HBK ODy6 ORy6 HBy6 HRC HBd; have HMm : Hid (M.IsR yd F b v.m) := (HX0.out.below HByd.out).mem; have HSb0 := S.hid (HSd.out yd (Below.refl _ yd)); have HSb : Hid _ := HSb0.out; have ODyb : Hid _ := ODyd.out; have ORyb : Hid _ := ORyd.out; have HByb : Hid _ := HByd.out; have wb8 : IntKind.u8.wrap a1 = M.bt (M.b8 a1) := by rw [M.u8_wrap, M.bt_b8]
     have kS := M.rplay_any b a0 hA0 hB0 (M.b8 a1) yd HMm.out (by omega); refine wtk0 (is := [0, 1, 2, 3, 4, 5, 6, 7, 8, 9, 10]) ?_
     iterate 11
      refine V.wt (v := ?_) rfl (by kernel_rfl) (fun c a w h => h) (by rfl) ?_ hHeld ?_
      rotate_left
      ·(intro w hSw; (try dsimp only at hSw); go_simp; try with_reducible rfl)
      simp only [V.pts]
     refine wtkE ?_; refine V.wrd 11 (by kernel_rfl) rfl fun K hK => ?_
     go_simp; refine (kS).mono ?_; rintro e ym ⟨rfl, hRD⟩; dsimp only; have HRD : Hid _ := hRD; have hki : ym.heap[gi]? = yd.heap[gi]? := hRD.2.block gi (World.block_lt_of_cell? yd _ (HSb.out.1)) (fun f => by have h1 := HX0.out.fb gi f; have h2 := HGI.out; omega); have hkg : ym.heap[g]? = yd.heap[g]? := hRD.2.block g (World.block_lt_of_cell? yd _ (HSb.out.2.2)) (fun f => HX0.out.fv f); have HSm : Hid ((fun wz : World => wz.cell? ⟨gi, 0, none⟩ = some (.int .u16 a0) /\ wz.cell? ⟨gi, 1, none⟩ = some (.int .u16 a1) /\ wz.cell? ⟨g, 6, none⟩ = some (.pointer (some ⟨b, 0, none⟩))) ym) := ⟨V.cb hki HSb.out.1, V.cb hki HSb.out.2.1, V.cb hkg HSb.out.2.2⟩
     clear hRD hki hkg; refine hK.out _ _ HSm.out (fun hHeld => ?_); clear hK K; try simp only [V.pts]
     refine wpAnyH_done (by kernel_rfl) ?_ _; clear hHeld; have HRA : Hid (RA W ym g b kv F { v with m := M.st (M.sc v.m 65284 a0) 65286 (M.b8 a1) } (.slice pd rn cd1) (.slice pr nr cr1) (v.D.take rn) v.R) := RA.mem HX0.out HByb.out (S.own_sl S.hU (t := 23) (B := W.heap.size) (by rw [HTL.out]; exact ODyb.out)) (S.own_sl S.hK (t := 101) (B := W.heap.size) (by rw [HN.out.2.1]; exact ORyb.out)) (fun k e => e.elim (fun e => World.ownsRow.lt ODyb.out k e) (fun e => World.ownsRow.lt ORyb.out k e)) HRD.out; clear HRD HSm HSb HSd HSb0 ODyb ORyb HByb HMm; obtain ⟨u4, u5, u1, f4, g4, f5, g5, f1, g1, hY⟩ := HRA.out.fin (nx) (by rw [HTL.out]; have := HX0.out.dl; rw [HN.out.1] at this; have := HRN.out; omega) HX0.out.rl HPC.out HCD.out HCR.out; have HY : Hid _ := hY
     have hSt : ({ (dn 62 x (beh v.pc 62) v).v with pc := (dn 62 x (beh v.pc 62) v).on } : VS) = { { v with m := M.st (M.sc v.m 65284 a0) 65286 (M.b8 a1) } with D := v.D.take rn, R := v.R, pc := nx } := by
      have hpl : ({ (dn 62 x (beh v.pc 62) v).v with pc := (dn 62 x (beh v.pc 62) v).on } : VS) = _ := st_plain 62 (by decide) (by rfl) x (beh v.pc 62) v hf; rw [hpl, <- HNX.out]; have hrn' : v.D.length - tkN 62 = rn := by rw [HN.out.1, HN.out.2.2]; exact HRN.out
      have hII := HII.out; simp only [tkN] at hrn'
      simp [P.nD, P.nR, P.nM, P.rw_, P.rest, P.xAt, P.tops, hrn', hII, P.putN, P.retN, P.memN, C.isUn, C.isBi]
     have HST : Hid _ := hSt; clear hSt; clear hY; go_wp2; go_ret; refine ⟨rfl, ?_⟩; rw [HST.out]; exact HY.out
end Go.Proofs.YteldjmecomngeaaGreat.V
