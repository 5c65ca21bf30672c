import Derived.Test.YteldjmecomngeaaGreatVRStK
namespace Go.Proofs.YteldjmecomngeaaGreat.V
open Go.RowKit
open Go.Proofs
set_option linter.unusedVariables false
set_option linter.unusedSimpArgs false
set_option maxHeartbeats 40000000
set_option maxRecDepth 100000
theorem rst_RHA (g b : Nat) (kv dv rv : Value) (F : Nat -> Prop) (v : VS) (op : Nat) (x : Int) (o1 : 1 <= op) (o2 : op <= 63) (hop : op = 9 \/ op = 13 \/ op = 20 \/ op = 10 \/ op = 4 \/ op = 11 \/ op = 2 \/ op = 3 \/ op = 17 \/ op = 1 \/ op = 55 \/ op = 12 \/ op = 14 \/ op = 15 \/ op = 16 \/ op = 18 \/ op = 19 \/ C.isUn op = true \/ C.isBi op = true) (hst : v.st = 1) (hlk : look v = ⟨op, x, 0⟩) (hf : rfa op v.D v.R = 0) (htn : v.m.tones.length <= 999000) (W : World) (h : RX W g b kv dv rv F v) :
  Calls Tryz.prog 38 #[.pointer (some ⟨g, 0, none⟩)] W fun e W' => e = .returned (.bool (op == 10)) /\ RY W W' g b kv F { (dn op x (beh v.pc op) v).v with pc := (dn op x (beh v.pc op) v).on } := by
 have HOP : Hid _ := hop
 clear hop
 obtain ⟨t1, t2, t3⟩ := tab_le op o1 o2
 have kT := fun w => tk_any op o1 o2 w
 have kO := fun w => opd_any op o1 o2 w
 rw [opB_eq op o1 o2] at kO
 have hpc := h.wf.pc0
 have hpc1 := h.wf.pc1
 have c2 := h.c2
 rw [hst] at c2
 have hdl := h.dl
 have hrl := h.rl
 obtain ⟨p, cd, hdv, hcd, _⟩ := h.d.ex
 obtain ⟨q, cr, hrv, hcr, _⟩ := h.r.ex
 subst hdv hrv
 have htk : tkN op <= v.D.length := by
  apply Decidable.byContradiction
  intro c; unfold rfa at hf; rw [if_pos (by omega)] at hf
  cases hf
 obtain ⟨nd, hnd⟩ : ∃ n, v.D.length = n := ⟨_, rfl⟩
 obtain ⟨nr, hnr⟩ : ∃ n, v.R.length = n := ⟨_, rfl⟩
 obtain ⟨tk, htk0⟩ : ∃ t, tkN op = t := ⟨_, rfl⟩
 rw [htk0] at kT t1 htk
 rw [hnd] at hdl htk hcd
 rw [hnr] at hrl hcr
 have HX0 : Hid _ := h
 have HN : Hid _ := And.intro hnd (And.intro hnr htk0)
 have kL := rlook_any g b kv _ _ F v W h
 rw [hlk] at kL
 obtain ⟨nx, hnx⟩ : ∃ nx, beh v.pc op = nx := ⟨_, rfl⟩
 have HNX : Hid _ := hnx
 clear h hnd hnr htk0 hnx
 go_enter Tryz.func38, Tryz.ntmps38
 go_wp2_with fail
 refine kL.mono ?_
 rintro e w1 ⟨rfl, hb1⟩
 have kF := faults_any g b kv _ _ F v op o1 o2 w1 (HX0.out.below hb1)
 rw [hf] at kF
 have HB1 : Hid _ := hb1
 clear hb1 kL c2
 go_wp2_with fail
 refine kF.mono ?_
 rintro e w2 ⟨rfl, hb2⟩
 have HB2 : Hid (Below W.heap.size W w2) := HB1.out.trans (hb2.mono HB1.out.size)
 have hx2 := HX0.out.below HB2.out
 have c1 := hx2.c1
 have c4 := hx2.c4
 have c5 := hx2.c5
 rw [HN.out.1] at c4
 rw [HN.out.2.1] at c5
 have HX2 : Hid _ := hx2
 clear hb2 kF HB1 hx2
 have u2 := u16_2 v.pc
 go_upto_if 48 with (refine (kO _).mono ?_; rintro e wx ⟨rfl, hwx⟩; rw [hwx]; clear hwx wx)
 go_cut [6] (fun s wz => s = .int .u16 nx /\ wz = w2)
 case first =>
  as_aux_lemma =>
   cases hrb : P.rb op with
   | true =>
    have e1 : nx = (v.pc + 4) % 65536 := by rw [<- HNX.out]; unfold beh; rw [hrb]; rfl
    have e2 : IntKind.u16.wrap ((v.pc + 2) % 65536 + 2) = nx := by rw [M.u16_wrap, e1]; omega
    have e3 : ((v.pc + 2) % 65536 + 2) % 65536 = nx := by rw [e1]; omega
    clear e1 kO; go_wp2; go_meet
    case rel => exact ⟨rfl, rfl⟩
   | false =>
    have e1 : (v.pc + 2) % 65536 = nx := by rw [<- HNX.out]; unfold beh; rw [hrb]; rfl
    have HE : Hid _ := e1; clear e1 kO; go_wp2; go_meet
    case rel => exact ⟨by rw [HE.out], rfl⟩
 case rest =>
  as_aux_lemma =>
   obtain ⟨rfl, hwz⟩ := hcut; subst hwz; clear kO u2; have w13 : IntKind.i64.wrap ((nd : Int) - (tk : Int)) = ((nd - tk : Nat) : Int) := by rw [IntWalk.i64_in _ (by omega)]; omega
   have hmk : ∀ X : World, Below wc.heap.size wc X -> (fun wz : World => wz.cell? ⟨g, 4, none⟩ = some (.slice p nd cd)) X := fun X hX => by show X.cell? ⟨g, 4, none⟩ = some (.slice p nd cd); rw [hX.cell (World.block_lt_of_cell? wc _ c4)]; exact c4
   have HMK : Hid _ := hmk; have HB0 : Hid (Below wc.heap.size wc wc.drew) := ⟨rfl, rfl, rfl, Nat.le_refl _, fun _ _ => rfl⟩
   clear hmk; go_upto_region 13 with fail
   refine V.wrh HMK.out HB0.out (by kernel_rfl) (fun hHeld => ?_); generalize wc.drew = y0 at *
   refine wtk0 (is := [0, 1, 2, 3, 4, 5, 6]) ?_
   iterate 7
    refine V.wt (v := ?_) rfl (by kernel_rfl) (fun c a w h => h) (by rfl) ?_ hHeld ?_
    rotate_left
    ·(intro w hSw; (try dsimp only at hSw); go_simp; try with_reducible rfl)
    simp only [V.pts]
   refine wtkE ?_; refine V.wrd 7 (by kernel_rfl) rfl fun K hK => ?_
   go_simp; refine (kT _).mono ?_; rintro e wx ⟨rfl, hwx⟩; dsimp only; rw [hwx]; clear hwx wx; refine hK.out _ _ (HMK.out _ HB0.out) (fun hHeld => ?_); clear hK K; try simp only [V.pts]
   refine wtk0 (is := [8, 9]) ?_
   iterate 2
    refine V.wt (v := ?_) rfl (by kernel_rfl) (fun c a w h => h) (by rfl) ?_ hHeld ?_
    rotate_left
    ·(intro w hSw; (try dsimp only at hSw); go_simp; try with_reducible rfl)
    simp only [V.pts]
   refine wtkE ?_; refine wpAnyH_done (by kernel_rfl) ?_ _; clear hHeld; have HBy : Hid (Below W.heap.size W y0) := HB2.out.trans (HB0.out.mono HB2.out.size); have hxy := HX0.out.below HBy.out; have d4 := hxy.c4; have d5 := hxy.c5; rw [HN.out.1] at d4; rw [HN.out.2.1] at d5; obtain ⟨rn, hrn⟩ : ∃ rn, nd - tk = rn := ⟨_, rfl⟩
   obtain ⟨inn, hinn⟩ : ∃ inn, v.D.drop rn = inn := ⟨_, rfl⟩
   rw [hrn] at w13 ⊢; obtain ⟨ps, hps⟩ : ∃ ps, (if cd = rn then p else p.map (·.add rn)) = ps := ⟨_, rfl⟩
   obtain ⟨cps, hcps⟩ : ∃ c, cd - rn = c := ⟨_, rfl⟩
   have hti : nd - rn = tk := by omega
   have s14 : ∀ X : World, (Instr.sliceAt 43 (.slice p nd cd) (some (.int .i64 (rn : Int))) none none).run Tryz.prog X = .ok (.slice ps tk cps) X := fun X => by
    rw [su_from X p nd cd rn (rn : Int) rfl (by omega), hps, hti, hcps]
   have s15 := fun (X : World) => su_to X p nd cd rn (rn : Int) rfl (by omega)
   have HRN : Hid _ := hrn; clear c1 c4 c5 HMK hxy kT; obtain ⟨y1, hy1⟩ : ∃ y, y0.alloc (.cells #[] 23) = y := ⟨_, rfl⟩
   have b1 : Below y0.heap.size y0 y1 := by rw [<- hy1]; exact P.bel_alloc y0 _
   have own1 := S.own_empty y0 23 1; rw [hy1] at own1; have lsD := (HX0.out.below (HBy.out.trans (b1.mono HBy.out.size))).d; rw [HN.out.1] at lsD
   have cs1 : S.Cs y1 (.slice ps tk cps) 1 tk (S.en S.eU inn) := by
    have := cs_from (l := v.D) (by rw [HN.out.1]; exact lsD) rn (by rw [HN.out.1]; omega); rw [HN.out.1, hps, hti, hcps, hinn] at this; exact this
   have z1 : y0.heap.size <= y1.heap.size := b1.size; have e4 : y1.cell? ⟨g, 4, none⟩ = some (.slice p nd cd) := by rw [b1.cell (World.block_lt_of_cell? y0 _ d4)]; exact d4
   have e4' : (y0.alloc (.cells #[] 23)).cell? ⟨g, 4, none⟩ = some (.slice p nd cd) := by rw [hy1]; exact e4
   have HY1 : Hid _ := hy1; have HB1 : Hid _ := b1; have bound1 : (0 + tk) * 2 <= S.room := by unfold S.room; omega
   have bound2 : 0 + tk <= maxLen := by unfold maxLen; omega
   clear hy1 b1 lsD; go_upto_region 14 with fail
   go_wp2_with (first | (at_builtin; rw [HY1.out]; refine S.wpList_append_row _ rfl _ _ 43 23 _ 1 2 Tryz.underlying43 S.info32 rfl (by decide) rfl y0.heap.size _ 0 [] rfl own1 _ tk _ rfl cs1 bound1 bound2 z1 ?_))
   intro iv y2 oi gi; try simp only [Nat.zero_add, List.nil_append] at oi
   clear e4 e4' own1 cs1 z1 bound1 bound2 s14; obtain ⟨pi, ci, hiv⟩ := own_fm oi; subst hiv; have b2 : Below y0.heap.size y0 y2 := gi.belowAll (fun g e => by rw [show g = y0.heap.size by simpa [Value.ownBlock] using e.symm]; exact Nat.le_refl _) HB1.out (Nat.le_refl _); have hW0 := HBy.out.size; have OI := S.hid (S.own_mono oi hW0); have HBy2 : Hid (Below W.heap.size W y2) := HBy.out.trans (b2.mono HBy.out.size); clear oi gi b2 d4; obtain ⟨y3, hy3⟩ : ∃ y, y2.alloc (.cells #[] 23) = y := ⟨_, rfl⟩
   have b3 : Below y2.heap.size y2 y3 := by rw [<- hy3]; exact P.bel_alloc y2 _
   have own3 := S.own_empty y2 23 1; rw [hy3] at own3; have hx3 := HX0.out.below (HBy2.out.trans (b3.mono HBy2.out.size)); have cs3 : S.Cs y3 (.slice p rn cd) 1 rn (S.en S.eU (v.D.take rn)) := cs_to hx3.d rn (by rw [HN.out.1]; omega); have z3 : y2.heap.size <= y3.heap.size := b3.size; have e4' : (y2.alloc (.cells #[] 23)).cell? ⟨g, 4, none⟩ = some (.slice p nd cd) := by rw [hy3]; have := hx3.c4; rw [HN.out.1] at this; exact this
   have HY3 : Hid _ := hy3; have HB3 : Hid _ := b3; have bound1 : (0 + rn) * 2 <= S.room := by unfold S.room; omega
   have bound2 : 0 + rn <= maxLen := by unfold maxLen; omega
   clear hy3 b3 hx3; go_upto_region 15 with fail
   go_wp2_with (first | (at_builtin; rw [HY3.out]; refine S.wpList_append_row _ rfl _ _ 43 23 _ 1 2 Tryz.underlying43 S.info32 rfl (by decide) rfl y2.heap.size _ 0 [] rfl own3 _ rn _ rfl cs3 bound1 bound2 z3 ?_))
   intro d1 y4 od gd; try simp only [Nat.zero_add, List.nil_append] at od
   clear e4' own3 cs3 z3 bound1 bound2 s15; obtain ⟨pd, cd1, hd1⟩ := own_fm od; subst hd1; have b4 : Below y2.heap.size y2 y4 := gd.belowAll (fun g e => by rw [show g = y2.heap.size by simpa [Value.ownBlock] using e.symm]; exact Nat.le_refl _) HB3.out (Nat.le_refl _); have HNE : Hid (∀ k, Value.ownBlock (.slice pi tk ci) = some k -> ¬ Value.ownBlock (.slice pd rn cd1) = some k) := fun k e c => by have h1 := (World.ownsRow.lt OI.out k e).2; have h2 := (World.ownsRow.lt od k c).1; omega
   have OD := S.hid (S.own_mono od HBy2.out.size); have OI := S.hid (own_nw OI.out b4); have HBy4 : Hid (Below W.heap.size W y4) := HBy2.out.trans (b4.mono HBy2.out.size); clear od gd b4; obtain ⟨y5, hy5⟩ : ∃ y, y4.alloc (.cells #[] 101) = y := ⟨_, rfl⟩
   have b5 : Below y4.heap.size y4 y5 := by rw [<- hy5]; exact P.bel_alloc y4 _
   have own5 := S.own_empty y4 101 2; rw [hy5] at own5; have hx5 := HX0.out.below (HBy4.out.trans (b5.mono HBy4.out.size)); have cs5 : S.Cs y5 (.slice q nr cr) 2 nr (S.en S.eK v.R) := by have := S.Ls.cs S.hK (by decide) S.oneK hx5.r; rw [HN.out.2.1] at this; exact this
   have z5 : y4.heap.size <= y5.heap.size := b5.size; have e5' : (y4.alloc (.cells #[] 101)).cell? ⟨g, 5, none⟩ = some (.slice q nr cr) := by rw [hy5]; have := hx5.c5; rw [HN.out.2.1] at this; exact this
   have HY5 : Hid _ := hy5; have HB5 : Hid _ := b5; have bound1 : (0 + nr) * 16 <= S.room := by unfold S.room; omega
   have bound2 : 0 + nr <= maxLen := by unfold maxLen; omega
   clear hy5 b5 hx5 d5; go_upto_region 16 with fail
   go_wp2_with (first | (at_builtin; rw [HY5.out]; refine S.wpList_append_row _ rfl _ _ 44 101 _ 2 16 Tryz.underlying44 S.info43 rfl (by decide) rfl y4.heap.size _ 0 [] rfl own5 _ nr _ rfl cs5 bound1 bound2 z5 ?_))
   intro r1 y6 orr gr; try simp only [Nat.zero_add, List.nil_append] at orr
   clear e5' own5 cs5 z5 bound1 bound2; obtain ⟨pr, cr1, hr1⟩ := own_fm orr; subst hr1; have b6 : Below y4.heap.size y4 y6 := gr.belowAll (fun g e => by rw [show g = y4.heap.size by simpa [Value.ownBlock] using e.symm]; exact Nat.le_refl _) HB5.out (Nat.le_refl _)
   have HRC : Hid (RC W y6 (.slice pi tk ci) (.slice pd rn cd1) (.slice pr nr cr1) inn (v.D.take rn) v.R) := by
    have h1 : inn.length = tk := by rw [<- hinn, List.length_drop, HN.out.1]; omega
    have h2 : (v.D.take rn).length = rn := by rw [List.length_take, HN.out.1]; omega
    refine ⟨HBy4.out.trans (b6.mono HBy4.out.size), ?_, ?_, ?_⟩
    ·rw [h1]; exact own_nw OI.out b6
    ·rw [h2]; exact own_nw OD.out b6
    ·rw [HN.out.2.1]; exact S.own_mono orr HBy4.out.size
   have HII : Hid (v.D.drop rn = inn) := hinn; clear orr gr b6 OI OD HBy HBy2 HBy4 HB0 HB1 HB2 HB3 HB5 HX2 HY1 HY3 HY5 w13 hinn hps hcps; have wtop : IntKind.i64.wrap ((nr : Int) - 1) = (nr : Int) - 1 := IntWalk.i64_in _ (by omega); go_upto_region 18 with fail
   have hgo := HX0.out.lt; have HDL := S.hid (S.own_sl S.hU HRC.out.d); have HRL := S.hid (S.own_sl S.hK HRC.out.r); have HBK : Hid (∀ k, (Value.ownBlock (.slice pd rn cd1) = some k \/ Value.ownBlock (.slice pr nr cr1) = some k) -> W.heap.size <= k /\ k < y6.heap.size) := fun k e => e.elim (fun e => World.ownsRow.lt HRC.out.d k e) (fun e => World.ownsRow.lt HRC.out.r k e)
   have HPC : Hid (C.C nx) := by rw [<- HNX.out]; unfold beh; split <;> exact rng _
   have HCD : Hid (∀ x ∈ v.D.take rn, C.C x) := fun x hx => HX0.out.wf.d x (List.mem_of_mem_take hx)
   have HCI : Hid (∀ x ∈ inn, C.C x) := fun x hx => HX0.out.wf.d x (by rw [<- HII.out] at hx; exact List.mem_of_mem_drop hx)
   have HCR : Hid (∀ q ∈ v.R, C.C q.2) := HX0.out.wf.r; have H0 : Hid _ := rfa0 hf; have htl : (v.D.take rn).length = rn := by rw [List.length_take, HN.out.1]; have := HRN.out; omega
   have HTL : Hid _ := htl; have hil : inn.length = tk := by rw [<- HII.out, List.length_drop, HN.out.1]; have := HRN.out; have h2 := H0.out.1; rw [HN.out.1, HN.out.2.2] at h2; omega
   have HIL : Hid _ := hil; clear htl hil; have HXC : Hid (C.C x) := by have := look_c v HX0.out.wf; rw [hlk] at this; exact this
   have ODy6 : Hid (y6.ownsRow W.heap.size 23 1 (.slice pd rn cd1) rn (S.en S.eU (v.D.take rn))) := by have := HRC.out.d; rw [HTL.out] at this; exact this
   have ORy6 : Hid (y6.ownsRow W.heap.size 101 2 (.slice pr nr cr1) nr (S.en S.eK v.R)) := by have := HRC.out.r; rw [HN.out.2.1] at this; exact this
   have HBy6 : Hid (Below W.heap.size W y6) := HRC.out.bel; have HP := HOP.out; clear HOP
   rcases HP with hop | hop | hop | hop | hop | hop | hop | hop | hop | hop | hop | hop | hop | hop | hop | hop | hop | hop | hop
   ·as_aux_lemma =>
     have HOP : Hid (op = 9) := hop; clear hop; obtain rfl := HOP.out; have HRA := S.hid (RA.of HX0.out HRC.out.bel HDL.out HRL.out HBK.out); obtain ⟨u4, u5, u1, f4, g4, f5, g5, f1, g1, hY⟩ := HRA.out.fin (nx) (by rw [HTL.out]; have := HX0.out.dl; rw [HN.out.1] at this; omega) HX0.out.rl HPC.out HCD.out HCR.out; have HY : Hid _ := hY
     have hSt : ({ (dn 9 x (beh v.pc 9) v).v with pc := (dn 9 x (beh v.pc 9) v).on } : VS) = { v with D := v.D.take rn, R := v.R, pc := nx } := by
      have hpl : ({ (dn 9 x (beh v.pc 9) v).v with pc := (dn 9 x (beh v.pc 9) v).on } : VS) = _ := st_plain 9 (by decide) (by rfl) x (beh v.pc 9) v hf; rw [hpl, <- HNX.out]; have hrn' : v.D.length - tkN 9 = rn := by rw [HN.out.1, HN.out.2.2]; exact HRN.out
      have hII := HII.out; simp only [tkN] at hrn'
      simp [P.nD, P.nR, P.nM, P.rw_, P.rest, P.xAt, P.tops, hrn', hII, P.putN, P.retN, P.memN, C.isUn, C.isBi]
     have HST : Hid _ := hSt; clear hSt; clear hY; go_wp2; go_ret; refine ⟨rfl, ?_⟩; rw [HST.out]; exact HY.out
   ·as_aux_lemma =>
     have HOP : Hid (op = 13) := hop; clear hop; obtain rfl := HOP.out; have HRA := S.hid (RA.of HX0.out HRC.out.bel HDL.out HRL.out HBK.out); obtain ⟨u4, u5, u1, f4, g4, f5, g5, f1, g1, hY⟩ := HRA.out.fin (nx) (by rw [HTL.out]; have := HX0.out.dl; rw [HN.out.1] at this; have := HRN.out; omega) HX0.out.rl HPC.out HCD.out HCR.out; have HY : Hid _ := hY
     have hSt : ({ (dn 13 x (beh v.pc 13) v).v with pc := (dn 13 x (beh v.pc 13) v).on } : VS) = { v with D := v.D.take rn, R := v.R, pc := nx } := by
      have hpl : ({ (dn 13 x (beh v.pc 13) v).v with pc := (dn 13 x (beh v.pc 13) v).on } : VS) = _ := st_plain 13 (by decide) (by rfl) x (beh v.pc 13) v hf; rw [hpl, <- HNX.out]; have hrn' : v.D.length - tkN 13 = rn := by rw [HN.out.1, HN.out.2.2]; exact HRN.out
      have hII := HII.out; simp only [tkN] at hrn'
      simp [P.nD, P.nR, P.nM, P.rw_, P.rest, P.xAt, P.tops, hrn', hII, P.putN, P.retN, P.memN, C.isUn, C.isBi]
     have HST : Hid _ := hSt; clear hSt; clear hY; go_wp2; go_ret; refine ⟨rfl, ?_⟩; rw [HST.out]; exact HY.out
   ·as_aux_lemma =>
     have HOP : Hid (op = 20) := hop; clear hop; obtain rfl := HOP.out; have HRA := S.hid (RA.of HX0.out HRC.out.bel HDL.out HRL.out HBK.out); obtain ⟨u4, u5, u1, f4, g4, f5, g5, f1, g1, hY⟩ := HRA.out.fin (nx) (by rw [HTL.out]; have := HX0.out.dl; rw [HN.out.1] at this; have := HRN.out; omega) HX0.out.rl HPC.out HCD.out HCR.out; have HY : Hid _ := hY
     have hSt : ({ (dn 20 x (beh v.pc 20) v).v with pc := (dn 20 x (beh v.pc 20) v).on } : VS) = { v with D := v.D.take rn, R := v.R, pc := nx } := by
      have hpl : ({ (dn 20 x (beh v.pc 20) v).v with pc := (dn 20 x (beh v.pc 20) v).on } : VS) = _ := st_plain 20 (by decide) (by rfl) x (beh v.pc 20) v hf; rw [hpl, <- HNX.out]; have hrn' : v.D.length - tkN 20 = rn := by rw [HN.out.1, HN.out.2.2]; exact HRN.out
      have hII := HII.out; simp only [tkN] at hrn'
      simp [P.nD, P.nR, P.nM, P.rw_, P.rest, P.xAt, P.tops, hrn', hII, P.putN, P.retN, P.memN, C.isUn, C.isBi]
     have HST : Hid _ := hSt; clear hSt; clear hY; go_wp2; go_ret; refine ⟨rfl, ?_⟩; rw [HST.out]; exact HY.out
   ·as_aux_lemma =>
     have HOP : Hid (op = 10) := hop; clear hop; obtain rfl := HOP.out; have HRA := S.hid (RA.of HX0.out HRC.out.bel HDL.out HRL.out HBK.out); obtain ⟨u4, u5, u1, f4, g4, f5, g5, f1, g1, hY⟩ := HRA.out.fin (nx) (by rw [HTL.out]; have := HX0.out.dl; rw [HN.out.1] at this; have := HRN.out; omega) HX0.out.rl HPC.out HCD.out HCR.out; have HY : Hid _ := hY
     have hSt : ({ (dn 10 x (beh v.pc 10) v).v with pc := (dn 10 x (beh v.pc 10) v).on } : VS) = { v with D := v.D.take rn, R := v.R, pc := nx } := by
      have hrn' : rn = v.D.length := by rw [HN.out.1]; have := HN.out.2.2; simp only [tkN] at this; have := HRN.out; omega
      have e : dn 10 x (beh v.pc 10) v = ⟨beh v.pc 10, 0, v⟩ := rfl; rw [e, hrn', List.take_length, <- HNX.out]
     have HST : Hid _ := hSt; clear hSt; clear hY; go_wp2; go_ret; refine ⟨rfl, ?_⟩; rw [HST.out]; exact HY.out
   ·as_aux_lemma =>
     have HOP : Hid (op = 4) := hop; clear hop; obtain rfl := HOP.out; have HRA := S.hid (RA.of HX0.out HRC.out.bel HDL.out HRL.out HBK.out); obtain ⟨u4, u5, u1, f4, g4, f5, g5, f1, g1, hY⟩ := HRA.out.fin (x) (by rw [HTL.out]; have := HX0.out.dl; rw [HN.out.1] at this; have := HRN.out; omega) HX0.out.rl HXC.out HCD.out HCR.out; have HY : Hid _ := hY
     have hSt : ({ (dn 4 x (beh v.pc 4) v).v with pc := (dn 4 x (beh v.pc 4) v).on } : VS) = { v with D := v.D.take rn, R := v.R, pc := x } := by
      have hrn' : rn = v.D.length := by rw [HN.out.1]; have := HN.out.2.2; simp only [tkN] at this; have := HRN.out; omega
      have e : dn 4 x (beh v.pc 4) v = ⟨x, 0, v⟩ := rfl; rw [e, hrn', List.take_length]
     have HST : Hid _ := hSt; clear hSt; clear hY; go_wp2; go_ret; refine ⟨rfl, ?_⟩; rw [HST.out]; exact HY.out
   ·as_aux_lemma =>
     have HOP : Hid (op = 11) := hop; clear hop; obtain rfl := HOP.out; have HRA0 := S.hid (RA.of HX0.out HRC.out.bel HDL.out HRL.out HBK.out); obtain ⟨u2, f2, g2⟩ := HRA0.out.c2; go_upto_region 94 with fail
     have HRA := S.hid (HRA0.out.st2); clear f2 g2; generalize y6.setCell ⟨g, 2, none⟩ (.int .i64 2) = y9 at *
     obtain ⟨u4, u5, u1, f4, g4, f5, g5, f1, g1, hY⟩ := HRA.out.fin (nx) (by rw [HTL.out]; have := HX0.out.dl; rw [HN.out.1] at this; have := HRN.out; omega) HX0.out.rl HPC.out HCD.out HCR.out; have HY : Hid _ := hY
     have hSt : ({ (dn 11 x (beh v.pc 11) v).v with pc := (dn 11 x (beh v.pc 11) v).on } : VS) = { { v with st := 2 } with D := v.D.take rn, R := v.R, pc := nx } := by
      have hrn' : rn = v.D.length := by rw [HN.out.1]; have := HN.out.2.2; simp only [tkN] at this; have := HRN.out; omega
      have e : dn 11 x (beh v.pc 11) v = ⟨beh v.pc 11, 0, { v with st := 2 }⟩ := rfl; rw [e, hrn', List.take_length, <- HNX.out]
     have HST : Hid _ := hSt; clear hSt; clear hY; go_wp2; go_ret; refine ⟨rfl, ?_⟩; rw [HST.out]; exact HY.out
   ·as_aux_lemma =>
     have HOP : Hid (op = 2) := hop; clear hop; obtain rfl := HOP.out; obtain ⟨y7, hy7⟩ : ∃ y, y6.alloc (.cells #[.int .u16 (x)] 23) = y := ⟨_, rfl⟩
     have b7 : Below y6.heap.size y6 y7 := by rw [<- hy7]; exact P.bel_alloc y6 _
     have v7 : y7.heap[y6.heap.size]? = some (.cells [.int .u16 (x)].toArray 23 (0, 0)) := by rw [<- hy7]; exact heap_alloc_new y6 _
     have cs7 : S.Cs y7 (.slice (some ⟨y6.heap.size, 0, none⟩) 1 1) 1 1 (S.en S.eU [x]) := .inr ⟨_, _, rfl, rfl, fun j u hj => by rw [Addr.add_lit, Nat.zero_add]; exact S.cell_of y7 _ j _ _ u v7 hj, S.oneU _⟩; have od7 := own_nw ODy6.out b7; have or7 := own_nw ORy6.out b7; have z7 : W.heap.size <= y7.heap.size := Nat.le_trans HBy6.out.size b7.size; have bd1 : (rn + 1) * 2 <= S.room := by unfold S.room; omega
     have bd2 : rn + 1 <= maxLen := by unfold maxLen; omega
     have HY7 : Hid _ := hy7; have HB7 : Hid (Below W.heap.size W y7) := HBy6.out.trans (b7.mono HBy6.out.size); clear hy7 b7 v7; go_upto_region 27 with fail
     go_wp2_with (first | (at_builtin; rw [HY7.out]; refine S.wpList_append_row _ rfl _ _ 43 23 _ 1 2 Tryz.underlying43 S.info32 rfl (by decide) rfl W.heap.size _ rn _ rfl od7 _ 1 _ rfl cs7 bd1 bd2 z7 ?_))
     intro d2 y8 od8 gd8; obtain ⟨p8, c8, hd8'⟩ := own_fm od8; subst hd8'; have hb8 : Below W.heap.size y7 y8 := gd8.below (fun k e => (World.ownsRow.lt od7 k e).1) z7; have or8 : y8.ownsRow W.heap.size 101 2 (.slice pr nr cr1) nr (S.en S.eK v.R) := own_ty or7 od7 gd8 (by decide)
     have HRA : Hid (RA W y8 g b kv F v (.slice p8 (rn + 1) c8) (.slice pr nr cr1) (v.D.take rn ++ [x]) v.R) := by
      refine RA.of HX0.out (HB7.out.trans hb8) (S.own_sl S.hU (t := 23) (B := W.heap.size) ?_) (S.own_sl S.hK (t := 101) (B := W.heap.size) ?_) (fun k e => e.elim (fun e => World.ownsRow.lt od8 k e) (fun e => World.ownsRow.lt or8 k e))
      ·rw [List.length_append, HTL.out, S.en_append]; exact od8
      ·rw [HN.out.2.1]; exact or8
     clear od8 gd8 hb8 or8 od7 or7 z7 bd1 bd2 cs7; obtain ⟨u4, u5, u1, f4, g4, f5, g5, f1, g1, hY⟩ := HRA.out.fin (nx) (by rw [List.length_append, HTL.out]; have := H0.out.2.1; simp only [lvN, List.length_cons, List.length_nil] at this ⊢; have h3 := HRN.out; have h4 := HN.out.2.2; simp only [tkN] at this h4; rw [HN.out.1] at this; omega) HX0.out.rl HPC.out (fun z hz => by rcases List.mem_append.1 hz with h | h; exact HCD.out z h; simp at h; rw [h]; exact HXC.out) HCR.out; have HY : Hid _ := hY
     have hSt : ({ (dn 2 x (beh v.pc 2) v).v with pc := (dn 2 x (beh v.pc 2) v).on } : VS) = { v with D := v.D.take rn ++ [x], R := v.R, pc := nx } := by
      have h2 := H0.out.2.1; have hrn' : v.D.length - 0 = rn := by rw [HN.out.1]; have := HN.out.2.2; simp only [tkN] at this; have := HRN.out; omega
      have e : dn 2 x (beh v.pc 2) v = ⟨beh v.pc 2, 0, { v with D := v.D ++ [x] }⟩ := by
       show (if 256 < v.D.length + 1 then _ else _) = _
       rw [if_neg (by simp only [tkN, lvN] at h2; omega)]
      rw [e, <- HNX.out, <- hrn', Nat.sub_zero, List.take_length]
     have HST : Hid _ := hSt; clear hSt; clear hY; go_wp2; go_ret; refine ⟨rfl, ?_⟩; rw [HST.out]; exact HY.out
   ·as_aux_lemma =>
     have HOP : Hid (op = 3) := hop; clear hop; obtain rfl := HOP.out; obtain ⟨y7, hy7⟩ : ∃ y, y6.alloc (.cells #[.int .u16 (x)] 23) = y := ⟨_, rfl⟩
     have b7 : Below y6.heap.size y6 y7 := by rw [<- hy7]; exact P.bel_alloc y6 _
     have v7 : y7.heap[y6.heap.size]? = some (.cells [.int .u16 (x)].toArray 23 (0, 0)) := by rw [<- hy7]; exact heap_alloc_new y6 _
     have cs7 : S.Cs y7 (.slice (some ⟨y6.heap.size, 0, none⟩) 1 1) 1 1 (S.en S.eU [x]) := .inr ⟨_, _, rfl, rfl, fun j u hj => by rw [Addr.add_lit, Nat.zero_add]; exact S.cell_of y7 _ j _ _ u v7 hj, S.oneU _⟩; have od7 := own_nw ODy6.out b7; have or7 := own_nw ORy6.out b7; have z7 : W.heap.size <= y7.heap.size := Nat.le_trans HBy6.out.size b7.size; have bd1 : (rn + 1) * 2 <= S.room := by unfold S.room; omega
     have bd2 : rn + 1 <= maxLen := by unfold maxLen; omega
     have HY7 : Hid _ := hy7; have HB7 : Hid (Below W.heap.size W y7) := HBy6.out.trans (b7.mono HBy6.out.size); clear hy7 b7 v7; go_upto_region 27 with fail
     go_wp2_with (first | (at_builtin; rw [HY7.out]; refine S.wpList_append_row _ rfl _ _ 43 23 _ 1 2 Tryz.underlying43 S.info32 rfl (by decide) rfl W.heap.size _ rn _ rfl od7 _ 1 _ rfl cs7 bd1 bd2 z7 ?_))
     intro d2 y8 od8 gd8; obtain ⟨p8, c8, hd8'⟩ := own_fm od8; subst hd8'; have hb8 : Below W.heap.size y7 y8 := gd8.below (fun k e => (World.ownsRow.lt od7 k e).1) z7; have or8 : y8.ownsRow W.heap.size 101 2 (.slice pr nr cr1) nr (S.en S.eK v.R) := own_ty or7 od7 gd8 (by decide)
     have HRA : Hid (RA W y8 g b kv F v (.slice p8 (rn + 1) c8) (.slice pr nr cr1) (v.D.take rn ++ [x]) v.R) := by
      refine RA.of HX0.out (HB7.out.trans hb8) (S.own_sl S.hU (t := 23) (B := W.heap.size) ?_) (S.own_sl S.hK (t := 101) (B := W.heap.size) ?_) (fun k e => e.elim (fun e => World.ownsRow.lt od8 k e) (fun e => World.ownsRow.lt or8 k e))
      ·rw [List.length_append, HTL.out, S.en_append]; exact od8
      ·rw [HN.out.2.1]; exact or8
     clear od8 gd8 hb8 or8 od7 or7 z7 bd1 bd2 cs7; obtain ⟨u4, u5, u1, f4, g4, f5, g5, f1, g1, hY⟩ := HRA.out.fin (nx) (by rw [List.length_append, HTL.out]; have := H0.out.2.1; simp only [lvN, List.length_cons, List.length_nil] at this ⊢; have h3 := HRN.out; have h4 := HN.out.2.2; simp only [tkN] at this h4; rw [HN.out.1] at this; omega) HX0.out.rl HPC.out (fun z hz => by rcases List.mem_append.1 hz with h | h; exact HCD.out z h; simp at h; rw [h]; exact HXC.out) HCR.out; have HY : Hid _ := hY
     have hSt : ({ (dn 3 x (beh v.pc 3) v).v with pc := (dn 3 x (beh v.pc 3) v).on } : VS) = { v with D := v.D.take rn ++ [x], R := v.R, pc := nx } := by
      have h2 := H0.out.2.1; have hrn' : v.D.length - 0 = rn := by rw [HN.out.1]; have := HN.out.2.2; simp only [tkN] at this; have := HRN.out; omega
      have e : dn 3 x (beh v.pc 3) v = ⟨beh v.pc 3, 0, { v with D := v.D ++ [x] }⟩ := by
       show (if 256 < v.D.length + 1 then _ else _) = _
       rw [if_neg (by simp only [tkN, lvN] at h2; omega)]
      rw [e, <- HNX.out, <- hrn', Nat.sub_zero, List.take_length]
     have HST : Hid _ := hSt; clear hSt; clear hY; go_wp2; go_ret; refine ⟨rfl, ?_⟩; rw [HST.out]; exact HY.out
   ·as_aux_lemma =>
     have HOP : Hid (op = 17) := hop; clear hop; obtain rfl := HOP.out
     obtain ⟨a0, a1, hi⟩ : ∃ a0 a1, inn = [a0, a1] := by
      have h1 := HIL.out; have h2 := HN.out.2.2; simp only [tkN] at h2; rw [<- h2] at h1
      match inn, h1 with
      | [a, c], _ => exact ⟨a, c, rfl⟩
     subst hi; obtain rfl : 2 = tk := by have := HIL.out; simpa using this
     obtain ⟨gi, ci', hci, ce1⟩ := HRC.out.in 1 a1 rfl
     simp at hci
     obtain ⟨rfl, rfl⟩ := hci; obtain ⟨y7, hy7⟩ : ∃ y, y6.alloc (.cells #[.int .u16 (a1)] 23) = y := ⟨_, rfl⟩
     have b7 : Below y6.heap.size y6 y7 := by rw [<- hy7]; exact P.bel_alloc y6 _
     have v7 : y7.heap[y6.heap.size]? = some (.cells [.int .u16 (a1)].toArray 23 (0, 0)) := by rw [<- hy7]; exact heap_alloc_new y6 _
     have cs7 : S.Cs y7 (.slice (some ⟨y6.heap.size, 0, none⟩) 1 1) 1 1 (S.en S.eU [a1]) := .inr ⟨_, _, rfl, rfl, fun j u hj => by rw [Addr.add_lit, Nat.zero_add]; exact S.cell_of y7 _ j _ _ u v7 hj, S.oneU _⟩; have od7 := own_nw ODy6.out b7; have or7 := own_nw ORy6.out b7; have z7 : W.heap.size <= y7.heap.size := Nat.le_trans HBy6.out.size b7.size; have bd1 : (rn + 1) * 2 <= S.room := by unfold S.room; omega
     have bd2 : rn + 1 <= maxLen := by unfold maxLen; omega
     have HY7 : Hid _ := hy7; have HB7 : Hid (Below W.heap.size W y7) := HBy6.out.trans (b7.mono HBy6.out.size); clear hy7 b7 v7; go_upto_region 57 with fail
     go_wp2_with (first | (at_builtin; rw [HY7.out]; refine S.wpList_append_row _ rfl _ _ 43 23 _ 1 2 Tryz.underlying43 S.info32 rfl (by decide) rfl W.heap.size _ rn _ rfl od7 _ 1 _ rfl cs7 bd1 bd2 z7 ?_))
     intro d2 y8 od8 gd8; obtain ⟨p8, c8, hd8'⟩ := own_fm od8; subst hd8'; have hb8 : Below W.heap.size y7 y8 := gd8.below (fun k e => (World.ownsRow.lt od7 k e).1) z7; have or8 : y8.ownsRow W.heap.size 101 2 (.slice pr nr cr1) nr (S.en S.eK v.R) := own_ty or7 od7 gd8 (by decide)
     have HRA : Hid (RA W y8 g b kv F v (.slice p8 (rn + 1) c8) (.slice pr nr cr1) (v.D.take rn ++ [a1]) v.R) := by
      refine RA.of HX0.out (HB7.out.trans hb8) (S.own_sl S.hU (t := 23) (B := W.heap.size) ?_) (S.own_sl S.hK (t := 101) (B := W.heap.size) ?_) (fun k e => e.elim (fun e => World.ownsRow.lt od8 k e) (fun e => World.ownsRow.lt or8 k e))
      ·rw [List.length_append, HTL.out, S.en_append]; exact od8
      ·rw [HN.out.2.1]; exact or8
     clear od8 gd8 hb8 or8 od7 or7 z7 bd1 bd2 cs7; obtain ⟨u4, u5, u1, f4, g4, f5, g5, f1, g1, hY⟩ := HRA.out.fin (nx) (by rw [List.length_append, HTL.out]; have := H0.out.2.1; simp only [lvN, List.length_cons, List.length_nil] at this ⊢; have h3 := HRN.out; have h4 := HN.out.2.2; simp only [tkN] at this h4; rw [HN.out.1] at this; omega) HX0.out.rl HPC.out (fun z hz => by rcases List.mem_append.1 hz with h | h; exact HCD.out z h; simp at h; rw [h]; exact HCI.out a1 (by simp)) HCR.out; have HY : Hid _ := hY
     have hSt : ({ (dn 17 x (beh v.pc 17) v).v with pc := (dn 17 x (beh v.pc 17) v).on } : VS) = { v with D := v.D.take rn ++ [a1], R := v.R, pc := nx } := by
      have hpl : ({ (dn 17 x (beh v.pc 17) v).v with pc := (dn 17 x (beh v.pc 17) v).on } : VS) = _ := st_plain 17 (by decide) (by rfl) x (beh v.pc 17) v hf; rw [hpl, <- HNX.out]; have hrn' : v.D.length - tkN 17 = rn := by rw [HN.out.1, HN.out.2.2]; exact HRN.out
      have hII := HII.out; simp only [tkN] at hrn'
      simp [P.nD, P.nR, P.nM, P.rw_, P.rest, P.xAt, P.tops, hrn', hII, P.putN, P.retN, P.memN, C.isUn, C.isBi]
     have HST : Hid _ := hSt; clear hSt; clear hY; go_wp2; go_ret; refine ⟨rfl, ?_⟩; rw [HST.out]; exact HY.out
   ·as_aux_lemma =>
     have HOP : Hid (op = 1) := hop; clear hop; obtain rfl := HOP.out; obtain ⟨y7, hy7⟩ : ∃ y, y6.alloc (.cells #[.int .i64 1, .int .u16 (nx)] 101) = y := ⟨_, rfl⟩
     have b7 : Below y6.heap.size y6 y7 := by rw [<- hy7]; exact P.bel_alloc y6 _
     have v7 : y7.heap[y6.heap.size]? = some (.cells [.int .i64 1, .int .u16 (nx)].toArray 101 (0, 0)) := by rw [<- hy7]; exact heap_alloc_new y6 _
     have cs7 : S.Cs y7 (.slice (some ⟨y6.heap.size, 0, none⟩) 1 1) 2 1 (S.en S.eK [(1, nx)]) := .inr ⟨_, _, rfl, rfl, fun j u hj => by rw [Addr.add_lit, Nat.zero_add]; exact S.cell_of y7 _ j _ _ u v7 hj, S.oneK _⟩; have od7 := own_nw ODy6.out b7; have or7 := own_nw ORy6.out b7; have z7 : W.heap.size <= y7.heap.size := Nat.le_trans HBy6.out.size b7.size; have bd1 : (nr + 1) * 16 <= S.room := by unfold S.room; omega
     have bd2 : nr + 1 <= maxLen := by unfold maxLen; omega
     have HY7 : Hid _ := hy7; have HB7 : Hid (Below W.heap.size W y7) := HBy6.out.trans (b7.mono HBy6.out.size); clear hy7 b7 v7; go_upto_region 23 with fail
     go_wp2_with (first | (at_builtin; rw [HY7.out]; refine S.wpList_append_row _ rfl _ _ 44 101 _ 2 16 Tryz.underlying44 S.info43 rfl (by decide) rfl W.heap.size _ nr _ rfl or7 _ 1 _ rfl cs7 bd1 bd2 z7 ?_))
     intro r2 y8 or8 gr8; obtain ⟨p8, c8, hr8'⟩ := own_fm or8; subst hr8'; have hb8 : Below W.heap.size y7 y8 := gr8.below (fun k e => (World.ownsRow.lt or7 k e).1) z7; have od8 : y8.ownsRow W.heap.size 23 1 (.slice pd rn cd1) rn (S.en S.eU (v.D.take rn)) := own_ty od7 or7 gr8 (by decide)
     have HRA : Hid (RA W y8 g b kv F v (.slice pd rn cd1) (.slice p8 (nr + 1) c8) (v.D.take rn) (v.R ++ [(1, nx)])) := by
      refine RA.of HX0.out (HB7.out.trans hb8) (S.own_sl S.hU (t := 23) (B := W.heap.size) ?_) (S.own_sl S.hK (t := 101) (B := W.heap.size) ?_) (fun k e => e.elim (fun e => World.ownsRow.lt od8 k e) (fun e => World.ownsRow.lt or8 k e))
      ·rw [HTL.out]; exact od8
      ·rw [List.length_append, HN.out.2.1, S.en_append]; exact or8
     clear or8 gr8 hb8 od8 od7 or7 z7 bd1 bd2 cs7; obtain ⟨u4, u5, u1, f4, g4, f5, g5, f1, g1, hY⟩ := HRA.out.fin (x) (by rw [HTL.out]; have := HX0.out.dl; rw [HN.out.1] at this; have := HRN.out; omega) (by rw [List.length_append, HN.out.2.1]; have := H0.out.2.2.2; rw [HN.out.2.1] at this; simp only [puN, List.length_cons, List.length_nil] at this ⊢; omega) HXC.out HCD.out (fun z hz => by rcases List.mem_append.1 hz with h | h; exact HCR.out z h; simp at h; rw [h]; exact HPC.out); have HY : Hid _ := hY
     have hSt : ({ (dn 1 x (beh v.pc 1) v).v with pc := (dn 1 x (beh v.pc 1) v).on } : VS) = { v with D := v.D.take rn, R := v.R ++ [(1, nx)], pc := x } := by
      have h2 := H0.out.2.2.2; have hrn' : rn = v.D.length := by rw [HN.out.1]; have := HN.out.2.2; simp only [tkN] at this; have := HRN.out; omega
      have e : dn 1 x (beh v.pc 1) v = ⟨x, 0, { v with R := v.R ++ [(1, beh v.pc 1)] }⟩ := by
       show (if 128 < v.R.length + 1 then _ else _) = _
       rw [if_neg (by simp only [puN] at h2; omega)]
      rw [e, hrn', List.take_length, <- HNX.out]
     have HST : Hid _ := hSt; clear hSt; clear hY; go_wp2; go_ret; refine ⟨rfl, ?_⟩; rw [HST.out]; exact HY.out
   ·as_aux_lemma =>
     have HOP : Hid (op = 55) := hop; clear hop; obtain rfl := HOP.out
     obtain ⟨a0, hi⟩ : ∃ a0, inn = [a0] := by
      have h1 := HIL.out; have h2 := HN.out.2.2; simp only [tkN] at h2; rw [<- h2] at h1
      match inn, h1 with
      | [a], _ => exact ⟨a, rfl⟩
     subst hi; obtain rfl : 1 = tk := by have := HIL.out; simpa using this
     obtain ⟨gi, ci', hci, ce0⟩ := HRC.out.in 0 a0 rfl
     simp at hci
     obtain ⟨rfl, rfl⟩ := hci; obtain ⟨y7, hy7⟩ : ∃ y, y6.alloc (.cells #[.int .i64 4, .int .u16 (a0)] 101) = y := ⟨_, rfl⟩
     have b7 : Below y6.heap.size y6 y7 := by rw [<- hy7]; exact P.bel_alloc y6 _
     have v7 : y7.heap[y6.heap.size]? = some (.cells [.int .i64 4, .int .u16 (a0)].toArray 101 (0, 0)) := by rw [<- hy7]; exact heap_alloc_new y6 _
     have cs7 : S.Cs y7 (.slice (some ⟨y6.heap.size, 0, none⟩) 1 1) 2 1 (S.en S.eK [(4, a0)]) := .inr ⟨_, _, rfl, rfl, fun j u hj => by rw [Addr.add_lit, Nat.zero_add]; exact S.cell_of y7 _ j _ _ u v7 hj, S.oneK _⟩; have od7 := own_nw ODy6.out b7; have or7 := own_nw ORy6.out b7; have z7 : W.heap.size <= y7.heap.size := Nat.le_trans HBy6.out.size b7.size; have bd1 : (nr + 1) * 16 <= S.room := by unfold S.room; omega
     have bd2 : nr + 1 <= maxLen := by unfold maxLen; omega
     have HY7 : Hid _ := hy7; have HB7 : Hid (Below W.heap.size W y7) := HBy6.out.trans (b7.mono HBy6.out.size); clear hy7 b7 v7; go_upto_region 73 with fail
     go_wp2_with (first | (at_builtin; rw [HY7.out]; refine S.wpList_append_row _ rfl _ _ 44 101 _ 2 16 Tryz.underlying44 S.info43 rfl (by decide) rfl W.heap.size _ nr _ rfl or7 _ 1 _ rfl cs7 bd1 bd2 z7 ?_))
     intro r2 y8 or8 gr8; obtain ⟨p8, c8, hr8'⟩ := own_fm or8; subst hr8'; have hb8 : Below W.heap.size y7 y8 := gr8.below (fun k e => (World.ownsRow.lt or7 k e).1) z7; have od8 : y8.ownsRow W.heap.size 23 1 (.slice pd rn cd1) rn (S.en S.eU (v.D.take rn)) := own_ty od7 or7 gr8 (by decide)
     have HRA : Hid (RA W y8 g b kv F v (.slice pd rn cd1) (.slice p8 (nr + 1) c8) (v.D.take rn) (v.R ++ [(4, a0)])) := by
      refine RA.of HX0.out (HB7.out.trans hb8) (S.own_sl S.hU (t := 23) (B := W.heap.size) ?_) (S.own_sl S.hK (t := 101) (B := W.heap.size) ?_) (fun k e => e.elim (fun e => World.ownsRow.lt od8 k e) (fun e => World.ownsRow.lt or8 k e))
      ·rw [HTL.out]; exact od8
      ·rw [List.length_append, HN.out.2.1, S.en_append]; exact or8
     clear or8 gr8 hb8 od8 od7 or7 z7 bd1 bd2 cs7; obtain ⟨u4, u5, u1, f4, g4, f5, g5, f1, g1, hY⟩ := HRA.out.fin (nx) (by rw [HTL.out]; have := HX0.out.dl; rw [HN.out.1] at this; have := HRN.out; omega) (by rw [List.length_append, HN.out.2.1]; have := H0.out.2.2.2; rw [HN.out.2.1] at this; simp only [puN, List.length_cons, List.length_nil] at this ⊢; omega) HPC.out HCD.out (fun z hz => by rcases List.mem_append.1 hz with h | h; exact HCR.out z h; simp at h; rw [h]; exact HCI.out a0 (by simp)); have HY : Hid _ := hY
     have hSt : ({ (dn 55 x (beh v.pc 55) v).v with pc := (dn 55 x (beh v.pc 55) v).on } : VS) = { v with D := v.D.take rn, R := v.R ++ [(4, a0)], pc := nx } := by
      have hpl : ({ (dn 55 x (beh v.pc 55) v).v with pc := (dn 55 x (beh v.pc 55) v).on } : VS) = _ := st_plain 55 (by decide) (by rfl) x (beh v.pc 55) v hf; rw [hpl, <- HNX.out]; have hrn' : v.D.length - tkN 55 = rn := by rw [HN.out.1, HN.out.2.2]; exact HRN.out
      have hII := HII.out; simp only [tkN] at hrn'
      simp [P.nD, P.nR, P.nM, P.rw_, P.rest, P.xAt, P.tops, hrn', hII, P.putN, P.retN, P.memN, C.isUn, C.isBi]
     have HST : Hid _ := hSt; clear hSt; clear hY; go_wp2; go_ret; refine ⟨rfl, ?_⟩; rw [HST.out]; exact HY.out
   ·as_aux_lemma =>
     have HOP : Hid (op = 12) := hop; clear hop; obtain rfl := HOP.out
     obtain ⟨a0, hi⟩ : ∃ a0, inn = [a0] := by
      have h1 := HIL.out; have h2 := HN.out.2.2; simp only [tkN] at h2; rw [<- h2] at h1
      match inn, h1 with
      | [c0], _ => exact ⟨c0, rfl⟩
     subst hi; obtain rfl : 1 = tk := by have := HIL.out; simpa using this
     obtain ⟨gi, cq, hci, ce0⟩ := HRC.out.in 0 a0 rfl
     simp at hci
     obtain ⟨rfl, rfl⟩ := hci; have HS : Hid (∀ X : World, Below y6.heap.size y6 X -> (fun wz : World => wz.cell? ⟨gi, 0, none⟩ = some (.int .u16 a0)) X) := fun X hX => V.cx hX ce0
     have HBd : Hid (Below y6.heap.size y6 y6.drew) := ⟨rfl, rfl, rfl, Nat.le_refl _, fun _ _ => rfl⟩
     clear ce0; go_upto_region 49 with fail
     refine V.wrh HS.out HBd.out (by kernel_rfl) (fun hHeld => ?_); generalize y6.drew = yd at *
     have ODyd := S.hid (own_nw ODy6.out HBd.out); have ORyd := S.hid (own_nw ORy6.out HBd.out); have HByd : Hid (Below W.heap.size W yd) := HBy6.out.trans (HBd.out.mono HBy6.out.size); have HSd := S.hid (V.nx HS.out HBd.out); clear HS HDL HRL HBK ODy6 ORy6 HBy6 HRC HBd; obtain ⟨y7, hy7⟩ : ∃ y, yd.alloc (.cells #[.int .u16 (a0), .int .u16 (a0)] 23) = y := ⟨_, rfl⟩
     have b7 : Below yd.heap.size yd y7 := by rw [<- hy7]; exact P.bel_alloc yd _
     have v7 : y7.heap[yd.heap.size]? = some (.cells [.int .u16 (a0), .int .u16 (a0)].toArray 23 (0, 0)) := by rw [<- hy7]; exact heap_alloc_new yd _
     have cs7 : S.Cs y7 (.slice (some ⟨yd.heap.size, 0, none⟩) 2 2) 1 2 (S.en S.eU [a0, a0]) := .inr ⟨_, _, rfl, rfl, fun j u hj => by rw [Addr.add_lit, Nat.zero_add]; exact S.cell_of y7 _ j _ _ u v7 hj, S.oneU _⟩; have od7 := own_nw ODyd.out b7; have or7 := own_nw ORyd.out b7; have z7 : W.heap.size <= y7.heap.size := Nat.le_trans HByd.out.size b7.size; have bd1 : (rn + 2) * 2 <= S.room := by unfold S.room; omega
     have bd2 : rn + 2 <= maxLen := by unfold maxLen; omega
     have HY7 : Hid _ := hy7; have HS7 := S.hid (HSd.out y7 b7); have HB7 : Hid (Below W.heap.size W y7) := HByd.out.trans (b7.mono HByd.out.size); clear hy7 b7 v7; refine wtk0 (is := [0, 1, 2, 3, 4, 5, 6]) ?_
     iterate 7
      refine V.wt (v := ?_) rfl (by kernel_rfl) (fun c a w h => h) (by rfl) ?_ hHeld ?_
      rotate_left
      ·(intro w hSw; (try dsimp only at hSw); go_simp; try with_reducible rfl)
      simp only [V.pts]
     refine wtkE ?_; refine V.wrd 7 (by kernel_rfl) rfl fun K hK => ?_
     go_simp; refine hK.out _ _ (by first | exact HS7.out | (rw [HY7.out]; exact HS7.out)) (fun hHeld => ?_); clear hK K; try rw [HY7.out]
     try simp only [V.pts]
     refine V.wrd 8 (by kernel_rfl) rfl fun K hK => ?_
     rw [if_pos (by rfl)]; try rw [HY7.out]
     refine S.wp_append_row _ _ _ 43 23 _ 1 2 Tryz.underlying43 S.info32 rfl (by decide) rfl W.heap.size _ rn _ rfl od7 _ 2 _ rfl cs7 bd1 bd2 z7 (fun e8 y8 oe8 ge8 => ?_); obtain ⟨p8, c8, hd8⟩ := own_fm oe8; subst hd8; have hG : S.Grew y7 y8 (.slice pd rn cd1) (.slice p8 (rn + 2) c8) := ge8; have hki : y8.heap[gi]? = y7.heap[gi]? := hG.block gi (World.block_lt_of_cell? y7 _ (HS7.out)) (fun c => HNE.out gi rfl c.symm); have HS8 := S.hid (V.cb hki HS7.out); have HG8 := S.hid (hG); have HO8 : Hid _ := oe8; clear ge8 hG oe8 hki; refine hK.out _ _ HS8.out (fun hHeld => ?_); clear hK K; try simp only [V.pts]
     refine V.wt1 9 (v := ?_) rfl (by kernel_rfl) (fun c a w h => h) (by rfl) ?_ hHeld ?_
     rotate_left
     ·(intro w hSw; (try dsimp only at hSw); go_simp; try with_reducible rfl)
     simp only [V.pts]; refine wpAnyH_done (by kernel_rfl) ?_ _; clear hHeld; have od8 := HO8.out; have gd8 := HG8.out; have hb8 : Below W.heap.size y7 y8 := gd8.below (fun k e => (World.ownsRow.lt od7 k e).1) z7; have or8 : y8.ownsRow W.heap.size 101 2 (.slice pr nr cr1) nr (S.en S.eK v.R) := own_ty or7 od7 gd8 (by decide)
     have HRA : Hid (RA W y8 g b kv F v (.slice p8 (rn + 2) c8) (.slice pr nr cr1) (v.D.take rn ++ [a0, a0]) v.R) := by
      refine RA.of HX0.out (HB7.out.trans hb8) (S.own_sl S.hU (t := 23) (B := W.heap.size) ?_) (S.own_sl S.hK (t := 101) (B := W.heap.size) ?_) (fun k e => e.elim (fun e => World.ownsRow.lt od8 k e) (fun e => World.ownsRow.lt or8 k e))
      ·rw [List.length_append, HTL.out, S.en_append]; exact od8
      ·rw [HN.out.2.1]; exact or8
     clear od8 gd8 hb8 or8 od7 or7 z7 bd1 bd2 cs7 HS7 HS8 HSd HG8 HO8 HY7 HB7 ODyd ORyd HByd; obtain ⟨u4, u5, u1, f4, g4, f5, g5, f1, g1, hY⟩ := HRA.out.fin (nx) (by rw [List.length_append, HTL.out]; have := H0.out.2.1; simp only [lvN, List.length_cons, List.length_nil] at this ⊢; have h3 := HRN.out; have h4 := HN.out.2.2; simp only [tkN] at this h4; rw [HN.out.1] at this; omega) HX0.out.rl HPC.out (fun z hz => by rcases List.mem_append.1 hz with h | h; exact HCD.out z h; simp only [List.mem_cons, List.not_mem_nil, or_false] at h; rcases h with h | h <;> (rw [h]; exact HCI.out _ (by simp))) HCR.out; have HY : Hid _ := hY
     have hSt : ({ (dn 12 x (beh v.pc 12) v).v with pc := (dn 12 x (beh v.pc 12) v).on } : VS) = { v with D := v.D.take rn ++ [a0, a0], R := v.R, pc := nx } := by
      have hpl : ({ (dn 12 x (beh v.pc 12) v).v with pc := (dn 12 x (beh v.pc 12) v).on } : VS) = _ := st_plain 12 (by decide) (by rfl) x (beh v.pc 12) v hf; rw [hpl, <- HNX.out]; have hrn' : v.D.length - tkN 12 = rn := by rw [HN.out.1, HN.out.2.2]; exact HRN.out
      have hII := HII.out; simp only [tkN] at hrn'
      simp [P.nD, P.nR, P.nM, P.rw_, P.rest, P.xAt, P.tops, hrn', hII, P.putN, P.retN, P.memN, C.isUn, C.isBi]
     have HST : Hid _ := hSt; clear hSt; clear hY; go_wp2; go_ret; refine ⟨rfl, ?_⟩; rw [HST.out]; exact HY.out
   ·as_aux_lemma =>
     have HOP : Hid (op = 14) := hop; clear hop; obtain rfl := HOP.out
     obtain ⟨a0, a1, hi⟩ : ∃ a0 a1, inn = [a0, a1] := by
      have h1 := HIL.out; have h2 := HN.out.2.2; simp only [tkN] at h2; rw [<- h2] at h1
      match inn, h1 with
      | [c0, c1], _ => exact ⟨c0, c1, rfl⟩
     subst hi; obtain rfl : 2 = tk := by have := HIL.out; simpa using this
     obtain ⟨gi, cq, hci, ce0⟩ := HRC.out.in 0 a0 rfl
     simp at hci
     obtain ⟨rfl, rfl⟩ := hci; obtain ⟨gi1, cq1, hci1, ce1⟩ := HRC.out.in 1 a1 rfl
     simp at hci1
     obtain ⟨rfl, rfl⟩ := hci1; have HS : Hid (∀ X : World, Below y6.heap.size y6 X -> (fun wz : World => wz.cell? ⟨gi, 0, none⟩ = some (.int .u16 a0) /\ wz.cell? ⟨gi, 1, none⟩ = some (.int .u16 a1)) X) := fun X hX => ⟨V.cx hX ce0, V.cx hX ce1⟩
     have HBd : Hid (Below y6.heap.size y6 y6.drew) := ⟨rfl, rfl, rfl, Nat.le_refl _, fun _ _ => rfl⟩
     clear ce0 ce1; go_upto_region 51 with fail
     refine V.wrh HS.out HBd.out (by kernel_rfl) (fun hHeld => ?_); generalize y6.drew = yd at *
     have ODyd := S.hid (own_nw ODy6.out HBd.out); have ORyd := S.hid (own_nw ORy6.out HBd.out); have HByd : Hid (Below W.heap.size W yd) := HBy6.out.trans (HBd.out.mono HBy6.out.size); have HSd := S.hid (V.nx HS.out HBd.out); clear HS HDL HRL HBK ODy6 ORy6 HBy6 HRC HBd; obtain ⟨y7, hy7⟩ : ∃ y, yd.alloc (.cells #[.int .u16 (a1), .int .u16 (a0)] 23) = y := ⟨_, rfl⟩
     have b7 : Below yd.heap.size yd y7 := by rw [<- hy7]; exact P.bel_alloc yd _
     have v7 : y7.heap[yd.heap.size]? = some (.cells [.int .u16 (a1), .int .u16 (a0)].toArray 23 (0, 0)) := by rw [<- hy7]; exact heap_alloc_new yd _
     have cs7 : S.Cs y7 (.slice (some ⟨yd.heap.size, 0, none⟩) 2 2) 1 2 (S.en S.eU [a1, a0]) := .inr ⟨_, _, rfl, rfl, fun j u hj => by rw [Addr.add_lit, Nat.zero_add]; exact S.cell_of y7 _ j _ _ u v7 hj, S.oneU _⟩; have od7 := own_nw ODyd.out b7; have or7 := own_nw ORyd.out b7; have z7 : W.heap.size <= y7.heap.size := Nat.le_trans HByd.out.size b7.size; have bd1 : (rn + 2) * 2 <= S.room := by unfold S.room; omega
     have bd2 : rn + 2 <= maxLen := by unfold maxLen; omega
     have HY7 : Hid _ := hy7; have HS7 := S.hid (HSd.out y7 b7); have HB7 : Hid (Below W.heap.size W y7) := HByd.out.trans (b7.mono HByd.out.size); clear hy7 b7 v7; refine wtk0 (is := [0, 1, 2, 3, 4, 5, 6]) ?_
     iterate 7
      refine V.wt (v := ?_) rfl (by kernel_rfl) (fun c a w h => h) (by rfl) ?_ hHeld ?_
      rotate_left
      ·(intro w hSw; (try dsimp only at hSw); go_simp; try with_reducible rfl)
      simp only [V.pts]
     refine wtkE ?_; refine V.wrd 7 (by kernel_rfl) rfl fun K hK => ?_
     go_simp; refine hK.out _ _ (by first | exact HS7.out | (rw [HY7.out]; exact HS7.out)) (fun hHeld => ?_); clear hK K; try rw [HY7.out]
     try simp only [V.pts]
     refine V.wrd 8 (by kernel_rfl) rfl fun K hK => ?_
     rw [if_pos (by rfl)]; try rw [HY7.out]
     refine S.wp_append_row _ _ _ 43 23 _ 1 2 Tryz.underlying43 S.info32 rfl (by decide) rfl W.heap.size _ rn _ rfl od7 _ 2 _ rfl cs7 bd1 bd2 z7 (fun e8 y8 oe8 ge8 => ?_); obtain ⟨p8, c8, hd8⟩ := own_fm oe8; subst hd8; have hG : S.Grew y7 y8 (.slice pd rn cd1) (.slice p8 (rn + 2) c8) := ge8; have hki : y8.heap[gi]? = y7.heap[gi]? := hG.block gi (World.block_lt_of_cell? y7 _ (HS7.out.1)) (fun c => HNE.out gi rfl c.symm); have HS8 : Hid ((fun wz : World => wz.cell? ⟨gi, 0, none⟩ = some (.int .u16 a0) /\ wz.cell? ⟨gi, 1, none⟩ = some (.int .u16 a1)) y8) := ⟨V.cb hki HS7.out.1, V.cb hki HS7.out.2⟩
     have HG8 := S.hid (hG); have HO8 : Hid _ := oe8; clear ge8 hG oe8 hki; refine hK.out _ _ HS8.out (fun hHeld => ?_); clear hK K; try simp only [V.pts]
     refine V.wt1 9 (v := ?_) rfl (by kernel_rfl) (fun c a w h => h) (by rfl) ?_ hHeld ?_
     rotate_left
     ·(intro w hSw; (try dsimp only at hSw); go_simp; try with_reducible rfl)
     simp only [V.pts]; refine wpAnyH_done (by kernel_rfl) ?_ _; clear hHeld; have od8 := HO8.out; have gd8 := HG8.out; have hb8 : Below W.heap.size y7 y8 := gd8.below (fun k e => (World.ownsRow.lt od7 k e).1) z7; have or8 : y8.ownsRow W.heap.size 101 2 (.slice pr nr cr1) nr (S.en S.eK v.R) := own_ty or7 od7 gd8 (by decide)
     have HRA : Hid (RA W y8 g b kv F v (.slice p8 (rn + 2) c8) (.slice pr nr cr1) (v.D.take rn ++ [a1, a0]) v.R) := by
      refine RA.of HX0.out (HB7.out.trans hb8) (S.own_sl S.hU (t := 23) (B := W.heap.size) ?_) (S.own_sl S.hK (t := 101) (B := W.heap.size) ?_) (fun k e => e.elim (fun e => World.ownsRow.lt od8 k e) (fun e => World.ownsRow.lt or8 k e))
      ·rw [List.length_append, HTL.out, S.en_append]; exact od8
      ·rw [HN.out.2.1]; exact or8
     clear od8 gd8 hb8 or8 od7 or7 z7 bd1 bd2 cs7 HS7 HS8 HSd HG8 HO8 HY7 HB7 ODyd ORyd HByd; obtain ⟨u4, u5, u1, f4, g4, f5, g5, f1, g1, hY⟩ := HRA.out.fin (nx) (by rw [List.length_append, HTL.out]; have := H0.out.2.1; simp only [lvN, List.length_cons, List.length_nil] at this ⊢; have h3 := HRN.out; have h4 := HN.out.2.2; simp only [tkN] at this h4; rw [HN.out.1] at this; omega) HX0.out.rl HPC.out (fun z hz => by rcases List.mem_append.1 hz with h | h; exact HCD.out z h; simp only [List.mem_cons, List.not_mem_nil, or_false] at h; rcases h with h | h <;> (rw [h]; exact HCI.out _ (by simp))) HCR.out; have HY : Hid _ := hY
     have hSt : ({ (dn 14 x (beh v.pc 14) v).v with pc := (dn 14 x (beh v.pc 14) v).on } : VS) = { v with D := v.D.take rn ++ [a1, a0], R := v.R, pc := nx } := by
      have hpl : ({ (dn 14 x (beh v.pc 14) v).v with pc := (dn 14 x (beh v.pc 14) v).on } : VS) = _ := st_plain 14 (by decide) (by rfl) x (beh v.pc 14) v hf; rw [hpl, <- HNX.out]; have hrn' : v.D.length - tkN 14 = rn := by rw [HN.out.1, HN.out.2.2]; exact HRN.out
      have hII := HII.out; simp only [tkN] at hrn'
      simp [P.nD, P.nR, P.nM, P.rw_, P.rest, P.xAt, P.tops, hrn', hII, P.putN, P.retN, P.memN, C.isUn, C.isBi]
     have HST : Hid _ := hSt; clear hSt; clear hY; go_wp2; go_ret; refine ⟨rfl, ?_⟩; rw [HST.out]; exact HY.out
   ·as_aux_lemma =>
     have HOP : Hid (op = 15) := hop; clear hop; obtain rfl := HOP.out
     obtain ⟨a0, a1, hi⟩ : ∃ a0 a1, inn = [a0, a1] := by
      have h1 := HIL.out; have h2 := HN.out.2.2; simp only [tkN] at h2; rw [<- h2] at h1
      match inn, h1 with
      | [c0, c1], _ => exact ⟨c0, c1, rfl⟩
     subst hi; obtain rfl : 2 = tk := by have := HIL.out; simpa using this
     obtain ⟨gi, cq, hci, ce0⟩ := HRC.out.in 0 a0 rfl
     simp at hci
     obtain ⟨rfl, rfl⟩ := hci; obtain ⟨gi1, cq1, hci1, ce1⟩ := HRC.out.in 1 a1 rfl
     simp at hci1
     obtain ⟨rfl, rfl⟩ := hci1; have HS : Hid (∀ X : World, Below y6.heap.size y6 X -> (fun wz : World => wz.cell? ⟨gi, 0, none⟩ = some (.int .u16 a0) /\ wz.cell? ⟨gi, 1, none⟩ = some (.int .u16 a1)) X) := fun X hX => ⟨V.cx hX ce0, V.cx hX ce1⟩
     have HBd : Hid (Below y6.heap.size y6 y6.drew) := ⟨rfl, rfl, rfl, Nat.le_refl _, fun _ _ => rfl⟩
     clear ce0 ce1; go_upto_region 53 with fail
     refine V.wrh HS.out HBd.out (by kernel_rfl) (fun hHeld => ?_); generalize y6.drew = yd at *
     have ODyd := S.hid (own_nw ODy6.out HBd.out); have ORyd := S.hid (own_nw ORy6.out HBd.out); have HByd : Hid (Below W.heap.size W yd) := HBy6.out.trans (HBd.out.mono HBy6.out.size); have HSd := S.hid (V.nx HS.out HBd.out); clear HS HDL HRL HBK ODy6 ORy6 HBy6 HRC HBd; obtain ⟨y7, hy7⟩ : ∃ y, yd.alloc (.cells #[.int .u16 (a0), .int .u16 (a1), .int .u16 (a0)] 23) = y := ⟨_, rfl⟩
     have b7 : Below yd.heap.size yd y7 := by rw [<- hy7]; exact P.bel_alloc yd _
     have v7 : y7.heap[yd.heap.size]? = some (.cells [.int .u16 (a0), .int .u16 (a1), .int .u16 (a0)].toArray 23 (0, 0)) := by rw [<- hy7]; exact heap_alloc_new yd _
     have cs7 : S.Cs y7 (.slice (some ⟨yd.heap.size, 0, none⟩) 3 3) 1 3 (S.en S.eU [a0, a1, a0]) := .inr ⟨_, _, rfl, rfl, fun j u hj => by rw [Addr.add_lit, Nat.zero_add]; exact S.cell_of y7 _ j _ _ u v7 hj, S.oneU _⟩; have od7 := own_nw ODyd.out b7; have or7 := own_nw ORyd.out b7; have z7 : W.heap.size <= y7.heap.size := Nat.le_trans HByd.out.size b7.size; have bd1 : (rn + 3) * 2 <= S.room := by unfold S.room; omega
     have bd2 : rn + 3 <= maxLen := by unfold maxLen; omega
     have HY7 : Hid _ := hy7; have HS7 := S.hid (HSd.out y7 b7); have HB7 : Hid (Below W.heap.size W y7) := HByd.out.trans (b7.mono HByd.out.size); clear hy7 b7 v7; refine wtk0 (is := [0, 1, 2, 3, 4, 5, 6, 7, 8, 9]) ?_
     iterate 10
      refine V.wt (v := ?_) rfl (by kernel_rfl) (fun c a w h => h) (by rfl) ?_ hHeld ?_
      rotate_left
      ·(intro w hSw; (try dsimp only at hSw); go_simp; try with_reducible rfl)
      simp only [V.pts]
     refine wtkE ?_; refine V.wrd 10 (by kernel_rfl) rfl fun K hK => ?_
     go_simp; refine hK.out _ _ (by first | exact HS7.out | (rw [HY7.out]; exact HS7.out)) (fun hHeld => ?_); clear hK K; try rw [HY7.out]
     try simp only [V.pts]
     refine V.wrd 11 (by kernel_rfl) rfl fun K hK => ?_
     rw [if_pos (by rfl)]; try rw [HY7.out]
     refine S.wp_append_row _ _ _ 43 23 _ 1 2 Tryz.underlying43 S.info32 rfl (by decide) rfl W.heap.size _ rn _ rfl od7 _ 3 _ rfl cs7 bd1 bd2 z7 (fun e8 y8 oe8 ge8 => ?_); obtain ⟨p8, c8, hd8⟩ := own_fm oe8; subst hd8; have hG : S.Grew y7 y8 (.slice pd rn cd1) (.slice p8 (rn + 3) c8) := ge8; have hki : y8.heap[gi]? = y7.heap[gi]? := hG.block gi (World.block_lt_of_cell? y7 _ (HS7.out.1)) (fun c => HNE.out gi rfl c.symm); have HS8 : Hid ((fun wz : World => wz.cell? ⟨gi, 0, none⟩ = some (.int .u16 a0) /\ wz.cell? ⟨gi, 1, none⟩ = some (.int .u16 a1)) y8) := ⟨V.cb hki HS7.out.1, V.cb hki HS7.out.2⟩
     have HG8 := S.hid (hG); have HO8 : Hid _ := oe8; clear ge8 hG oe8 hki; refine hK.out _ _ HS8.out (fun hHeld => ?_); clear hK K; try simp only [V.pts]
     refine V.wt1 12 (v := ?_) rfl (by kernel_rfl) (fun c a w h => h) (by rfl) ?_ hHeld ?_
     rotate_left
     ·(intro w hSw; (try dsimp only at hSw); go_simp; try with_reducible rfl)
     simp only [V.pts]; refine wpAnyH_done (by kernel_rfl) ?_ _; clear hHeld; have od8 := HO8.out; have gd8 := HG8.out; have hb8 : Below W.heap.size y7 y8 := gd8.below (fun k e => (World.ownsRow.lt od7 k e).1) z7; have or8 : y8.ownsRow W.heap.size 101 2 (.slice pr nr cr1) nr (S.en S.eK v.R) := own_ty or7 od7 gd8 (by decide)
     have HRA : Hid (RA W y8 g b kv F v (.slice p8 (rn + 3) c8) (.slice pr nr cr1) (v.D.take rn ++ [a0, a1, a0]) v.R) := by
      refine RA.of HX0.out (HB7.out.trans hb8) (S.own_sl S.hU (t := 23) (B := W.heap.size) ?_) (S.own_sl S.hK (t := 101) (B := W.heap.size) ?_) (fun k e => e.elim (fun e => World.ownsRow.lt od8 k e) (fun e => World.ownsRow.lt or8 k e))
      ·rw [List.length_append, HTL.out, S.en_append]; exact od8
      ·rw [HN.out.2.1]; exact or8
     clear od8 gd8 hb8 or8 od7 or7 z7 bd1 bd2 cs7 HS7 HS8 HSd HG8 HO8 HY7 HB7 ODyd ORyd HByd; obtain ⟨u4, u5, u1, f4, g4, f5, g5, f1, g1, hY⟩ := HRA.out.fin (nx) (by rw [List.length_append, HTL.out]; have := H0.out.2.1; simp only [lvN, List.length_cons, List.length_nil] at this ⊢; have h3 := HRN.out; have h4 := HN.out.2.2; simp only [tkN] at this h4; rw [HN.out.1] at this; omega) HX0.out.rl HPC.out (fun z hz => by rcases List.mem_append.1 hz with h | h; exact HCD.out z h; simp only [List.mem_cons, List.not_mem_nil, or_false] at h; rcases h with h | h | h <;> (rw [h]; exact HCI.out _ (by simp))) HCR.out; have HY : Hid _ := hY
     have hSt : ({ (dn 15 x (beh v.pc 15) v).v with pc := (dn 15 x (beh v.pc 15) v).on } : VS) = { v with D := v.D.take rn ++ [a0, a1, a0], R := v.R, pc := nx } := by
      have hpl : ({ (dn 15 x (beh v.pc 15) v).v with pc := (dn 15 x (beh v.pc 15) v).on } : VS) = _ := st_plain 15 (by decide) (by rfl) x (beh v.pc 15) v hf; rw [hpl, <- HNX.out]; have hrn' : v.D.length - tkN 15 = rn := by rw [HN.out.1, HN.out.2.2]; exact HRN.out
      have hII := HII.out; simp only [tkN] at hrn'
      simp [P.nD, P.nR, P.nM, P.rw_, P.rest, P.xAt, P.tops, hrn', hII, P.putN, P.retN, P.memN, C.isUn, C.isBi]
     have HST : Hid _ := hSt; clear hSt; clear hY; go_wp2; go_ret; refine ⟨rfl, ?_⟩; rw [HST.out]; exact HY.out
   ·as_aux_lemma =>
     have HOP : Hid (op = 16) := hop; clear hop; obtain rfl := HOP.out
     obtain ⟨a0, a1, a2, hi⟩ : ∃ a0 a1 a2, inn = [a0, a1, a2] := by
      have h1 := HIL.out; have h2 := HN.out.2.2; simp only [tkN] at h2; rw [<- h2] at h1
      match inn, h1 with
      | [c0, c1, c2], _ => exact ⟨c0, c1, c2, rfl⟩
     subst hi; obtain rfl : 3 = tk := by have := HIL.out; simpa using this
     obtain ⟨gi, cq, hci, ce0⟩ := HRC.out.in 0 a0 rfl
     simp at hci
     obtain ⟨rfl, rfl⟩ := hci; obtain ⟨gi1, cq1, hci1, ce1⟩ := HRC.out.in 1 a1 rfl
     simp at hci1
     obtain ⟨rfl, rfl⟩ := hci1; obtain ⟨gi2, cq2, hci2, ce2⟩ := HRC.out.in 2 a2 rfl
     simp at hci2
     obtain ⟨rfl, rfl⟩ := hci2; have HS : Hid (∀ X : World, Below y6.heap.size y6 X -> (fun wz : World => wz.cell? ⟨gi, 0, none⟩ = some (.int .u16 a0) /\ wz.cell? ⟨gi, 1, none⟩ = some (.int .u16 a1) /\ wz.cell? ⟨gi, 2, none⟩ = some (.int .u16 a2)) X) := fun X hX => ⟨V.cx hX ce0, V.cx hX ce1, V.cx hX ce2⟩
     have HBd : Hid (Below y6.heap.size y6 y6.drew) := ⟨rfl, rfl, rfl, Nat.le_refl _, fun _ _ => rfl⟩
     clear ce0 ce1 ce2; go_upto_region 55 with fail
     refine V.wrh HS.out HBd.out (by kernel_rfl) (fun hHeld => ?_); generalize y6.drew = yd at *
     have ODyd := S.hid (own_nw ODy6.out HBd.out); have ORyd := S.hid (own_nw ORy6.out HBd.out); have HByd : Hid (Below W.heap.size W yd) := HBy6.out.trans (HBd.out.mono HBy6.out.size); have HSd := S.hid (V.nx HS.out HBd.out); clear HS HDL HRL HBK ODy6 ORy6 HBy6 HRC HBd; obtain ⟨y7, hy7⟩ : ∃ y, yd.alloc (.cells #[.int .u16 (a1), .int .u16 (a2), .int .u16 (a0)] 23) = y := ⟨_, rfl⟩
     have b7 : Below yd.heap.size yd y7 := by rw [<- hy7]; exact P.bel_alloc yd _
     have v7 : y7.heap[yd.heap.size]? = some (.cells [.int .u16 (a1), .int .u16 (a2), .int .u16 (a0)].toArray 23 (0, 0)) := by rw [<- hy7]; exact heap_alloc_new yd _
     have cs7 : S.Cs y7 (.slice (some ⟨yd.heap.size, 0, none⟩) 3 3) 1 3 (S.en S.eU [a1, a2, a0]) := .inr ⟨_, _, rfl, rfl, fun j u hj => by rw [Addr.add_lit, Nat.zero_add]; exact S.cell_of y7 _ j _ _ u v7 hj, S.oneU _⟩; have od7 := own_nw ODyd.out b7; have or7 := own_nw ORyd.out b7; have z7 : W.heap.size <= y7.heap.size := Nat.le_trans HByd.out.size b7.size; have bd1 : (rn + 3) * 2 <= S.room := by unfold S.room; omega
     have bd2 : rn + 3 <= maxLen := by unfold maxLen; omega
     have HY7 : Hid _ := hy7; have HS7 := S.hid (HSd.out y7 b7); have HB7 : Hid (Below W.heap.size W y7) := HByd.out.trans (b7.mono HByd.out.size); clear hy7 b7 v7; refine wtk0 (is := [0, 1, 2, 3, 4, 5, 6, 7, 8, 9]) ?_
     iterate 10
      refine V.wt (v := ?_) rfl (by kernel_rfl) (fun c a w h => h) (by rfl) ?_ hHeld ?_
      rotate_left
      ·(intro w hSw; (try dsimp only at hSw); go_simp; try with_reducible rfl)
      simp only [V.pts]
     refine wtkE ?_; refine V.wrd 10 (by kernel_rfl) rfl fun K hK => ?_
     go_simp; refine hK.out _ _ (by first | exact HS7.out | (rw [HY7.out]; exact HS7.out)) (fun hHeld => ?_); clear hK K; try rw [HY7.out]
     try simp only [V.pts]
     refine V.wrd 11 (by kernel_rfl) rfl fun K hK => ?_
     rw [if_pos (by rfl)]; try rw [HY7.out]
     refine S.wp_append_row _ _ _ 43 23 _ 1 2 Tryz.underlying43 S.info32 rfl (by decide) rfl W.heap.size _ rn _ rfl od7 _ 3 _ rfl cs7 bd1 bd2 z7 (fun e8 y8 oe8 ge8 => ?_); obtain ⟨p8, c8, hd8⟩ := own_fm oe8; subst hd8; have hG : S.Grew y7 y8 (.slice pd rn cd1) (.slice p8 (rn + 3) c8) := ge8; have hki : y8.heap[gi]? = y7.heap[gi]? := hG.block gi (World.block_lt_of_cell? y7 _ (HS7.out.1)) (fun c => HNE.out gi rfl c.symm); have HS8 : Hid ((fun wz : World => wz.cell? ⟨gi, 0, none⟩ = some (.int .u16 a0) /\ wz.cell? ⟨gi, 1, none⟩ = some (.int .u16 a1) /\ wz.cell? ⟨gi, 2, none⟩ = some (.int .u16 a2)) y8) := ⟨V.cb hki HS7.out.1, V.cb hki HS7.out.2.1, V.cb hki HS7.out.2.2⟩
     have HG8 := S.hid (hG); have HO8 : Hid _ := oe8; clear ge8 hG oe8 hki; refine hK.out _ _ HS8.out (fun hHeld => ?_); clear hK K; try simp only [V.pts]
     refine V.wt1 12 (v := ?_) rfl (by kernel_rfl) (fun c a w h => h) (by rfl) ?_ hHeld ?_
     rotate_left
     ·(intro w hSw; (try dsimp only at hSw); go_simp; try with_reducible rfl)
     simp only [V.pts]; refine wpAnyH_done (by kernel_rfl) ?_ _; clear hHeld; have od8 := HO8.out; have gd8 := HG8.out; have hb8 : Below W.heap.size y7 y8 := gd8.below (fun k e => (World.ownsRow.lt od7 k e).1) z7; have or8 : y8.ownsRow W.heap.size 101 2 (.slice pr nr cr1) nr (S.en S.eK v.R) := own_ty or7 od7 gd8 (by decide)
     have HRA : Hid (RA W y8 g b kv F v (.slice p8 (rn + 3) c8) (.slice pr nr cr1) (v.D.take rn ++ [a1, a2, a0]) v.R) := by
      refine RA.of HX0.out (HB7.out.trans hb8) (S.own_sl S.hU (t := 23) (B := W.heap.size) ?_) (S.own_sl S.hK (t := 101) (B := W.heap.size) ?_) (fun k e => e.elim (fun e => World.ownsRow.lt od8 k e) (fun e => World.ownsRow.lt or8 k e))
      ·rw [List.length_append, HTL.out, S.en_append]; exact od8
      ·rw [HN.out.2.1]; exact or8
     clear od8 gd8 hb8 or8 od7 or7 z7 bd1 bd2 cs7 HS7 HS8 HSd HG8 HO8 HY7 HB7 ODyd ORyd HByd; obtain ⟨u4, u5, u1, f4, g4, f5, g5, f1, g1, hY⟩ := HRA.out.fin (nx) (by rw [List.length_append, HTL.out]; have := H0.out.2.1; simp only [lvN, List.length_cons, List.length_nil] at this ⊢; have h3 := HRN.out; have h4 := HN.out.2.2; simp only [tkN] at this h4; rw [HN.out.1] at this; omega) HX0.out.rl HPC.out (fun z hz => by rcases List.mem_append.1 hz with h | h; exact HCD.out z h; simp only [List.mem_cons, List.not_mem_nil, or_false] at h; rcases h with h | h | h <;> (rw [h]; exact HCI.out _ (by simp))) HCR.out; have HY : Hid _ := hY
     have hSt : ({ (dn 16 x (beh v.pc 16) v).v with pc := (dn 16 x (beh v.pc 16) v).on } : VS) = { v with D := v.D.take rn ++ [a1, a2, a0], R := v.R, pc := nx } := by
      have hpl : ({ (dn 16 x (beh v.pc 16) v).v with pc := (dn 16 x (beh v.pc 16) v).on } : VS) = _ := st_plain 16 (by decide) (by rfl) x (beh v.pc 16) v hf; rw [hpl, <- HNX.out]; have hrn' : v.D.length - tkN 16 = rn := by rw [HN.out.1, HN.out.2.2]; exact HRN.out
      have hII := HII.out; simp only [tkN] at hrn'
      simp [P.nD, P.nR, P.nM, P.rw_, P.rest, P.xAt, P.tops, hrn', hII, P.putN, P.retN, P.memN, C.isUn, C.isBi]
     have HST : Hid _ := hSt; clear hSt; clear hY; go_wp2; go_ret; refine ⟨rfl, ?_⟩; rw [HST.out]; exact HY.out
   ·as_aux_lemma =>
     have HOP : Hid (op = 18) := hop; clear hop; obtain rfl := HOP.out
     obtain ⟨a0, a1, hi⟩ : ∃ a0 a1, inn = [a0, a1] := by
      have h1 := HIL.out; have h2 := HN.out.2.2; simp only [tkN] at h2; rw [<- h2] at h1
      match inn, h1 with
      | [c0, c1], _ => exact ⟨c0, c1, rfl⟩
     subst hi; obtain rfl : 2 = tk := by have := HIL.out; simpa using this
     obtain ⟨gi, cq, hci, ce0⟩ := HRC.out.in 0 a0 rfl
     simp at hci
     obtain ⟨rfl, rfl⟩ := hci; obtain ⟨gi1, cq1, hci1, ce1⟩ := HRC.out.in 1 a1 rfl
     simp at hci1
     obtain ⟨rfl, rfl⟩ := hci1; have HS : Hid (∀ X : World, Below y6.heap.size y6 X -> (fun wz : World => wz.cell? ⟨gi, 0, none⟩ = some (.int .u16 a0) /\ wz.cell? ⟨gi, 1, none⟩ = some (.int .u16 a1)) X) := fun X hX => ⟨V.cx hX ce0, V.cx hX ce1⟩
     have HBd : Hid (Below y6.heap.size y6 y6.drew) := ⟨rfl, rfl, rfl, Nat.le_refl _, fun _ _ => rfl⟩
     clear ce0 ce1; go_upto_region 59 with fail
     refine V.wrh HS.out HBd.out (by kernel_rfl) (fun hHeld => ?_); generalize y6.drew = yd at *
     have ODyd := S.hid (own_nw ODy6.out HBd.out); have ORyd := S.hid (own_nw ORy6.out HBd.out); have HByd : Hid (Below W.heap.size W yd) := HBy6.out.trans (HBd.out.mono HBy6.out.size); have HSd := S.hid (V.nx HS.out HBd.out); clear HS HDL HRL HBK ODy6 ORy6 HBy6 HRC HBd; obtain ⟨y7, hy7⟩ : ∃ y, yd.alloc (.cells #[.int .u16 (a1), .int .u16 (a0), .int .u16 (a1)] 23) = y := ⟨_, rfl⟩
     have b7 : Below yd.heap.size yd y7 := by rw [<- hy7]; exact P.bel_alloc yd _
     have v7 : y7.heap[yd.heap.size]? = some (.cells [.int .u16 (a1), .int .u16 (a0), .int .u16 (a1)].toArray 23 (0, 0)) := by rw [<- hy7]; exact heap_alloc_new yd _
     have cs7 : S.Cs y7 (.slice (some ⟨yd.heap.size, 0, none⟩) 3 3) 1 3 (S.en S.eU [a1, a0, a1]) := .inr ⟨_, _, rfl, rfl, fun j u hj => by rw [Addr.add_lit, Nat.zero_add]; exact S.cell_of y7 _ j _ _ u v7 hj, S.oneU _⟩; have od7 := own_nw ODyd.out b7; have or7 := own_nw ORyd.out b7; have z7 : W.heap.size <= y7.heap.size := Nat.le_trans HByd.out.size b7.size; have bd1 : (rn + 3) * 2 <= S.room := by unfold S.room; omega
     have bd2 : rn + 3 <= maxLen := by unfold maxLen; omega
     have HY7 : Hid _ := hy7; have HS7 := S.hid (HSd.out y7 b7); have HB7 : Hid (Below W.heap.size W y7) := HByd.out.trans (b7.mono HByd.out.size); clear hy7 b7 v7; refine wtk0 (is := [0, 1, 2, 3, 4, 5, 6, 7, 8, 9]) ?_
     iterate 10
      refine V.wt (v := ?_) rfl (by kernel_rfl) (fun c a w h => h) (by rfl) ?_ hHeld ?_
      rotate_left
      ·(intro w hSw; (try dsimp only at hSw); go_simp; try with_reducible rfl)
      simp only [V.pts]
     refine wtkE ?_; refine V.wrd 10 (by kernel_rfl) rfl fun K hK => ?_
     go_simp; refine hK.out _ _ (by first | exact HS7.out | (rw [HY7.out]; exact HS7.out)) (fun hHeld => ?_); clear hK K; try rw [HY7.out]
     try simp only [V.pts]
     refine V.wrd 11 (by kernel_rfl) rfl fun K hK => ?_
     rw [if_pos (by rfl)]; try rw [HY7.out]
     refine S.wp_append_row _ _ _ 43 23 _ 1 2 Tryz.underlying43 S.info32 rfl (by decide) rfl W.heap.size _ rn _ rfl od7 _ 3 _ rfl cs7 bd1 bd2 z7 (fun e8 y8 oe8 ge8 => ?_); obtain ⟨p8, c8, hd8⟩ := own_fm oe8; subst hd8; have hG : S.Grew y7 y8 (.slice pd rn cd1) (.slice p8 (rn + 3) c8) := ge8; have hki : y8.heap[gi]? = y7.heap[gi]? := hG.block gi (World.block_lt_of_cell? y7 _ (HS7.out.1)) (fun c => HNE.out gi rfl c.symm); have HS8 : Hid ((fun wz : World => wz.cell? ⟨gi, 0, none⟩ = some (.int .u16 a0) /\ wz.cell? ⟨gi, 1, none⟩ = some (.int .u16 a1)) y8) := ⟨V.cb hki HS7.out.1, V.cb hki HS7.out.2⟩
     have HG8 := S.hid (hG); have HO8 : Hid _ := oe8; clear ge8 hG oe8 hki; refine hK.out _ _ HS8.out (fun hHeld => ?_); clear hK K; try simp only [V.pts]
     refine V.wt1 12 (v := ?_) rfl (by kernel_rfl) (fun c a w h => h) (by rfl) ?_ hHeld ?_
     rotate_left
     ·(intro w hSw; (try dsimp only at hSw); go_simp; try with_reducible rfl)
     simp only [V.pts]; refine wpAnyH_done (by kernel_rfl) ?_ _; clear hHeld; have od8 := HO8.out; have gd8 := HG8.out; have hb8 : Below W.heap.size y7 y8 := gd8.below (fun k e => (World.ownsRow.lt od7 k e).1) z7; have or8 : y8.ownsRow W.heap.size 101 2 (.slice pr nr cr1) nr (S.en S.eK v.R) := own_ty or7 od7 gd8 (by decide)
     have HRA : Hid (RA W y8 g b kv F v (.slice p8 (rn + 3) c8) (.slice pr nr cr1) (v.D.take rn ++ [a1, a0, a1]) v.R) := by
      refine RA.of HX0.out (HB7.out.trans hb8) (S.own_sl S.hU (t := 23) (B := W.heap.size) ?_) (S.own_sl S.hK (t := 101) (B := W.heap.size) ?_) (fun k e => e.elim (fun e => World.ownsRow.lt od8 k e) (fun e => World.ownsRow.lt or8 k e))
      ·rw [List.length_append, HTL.out, S.en_append]; exact od8
      ·rw [HN.out.2.1]; exact or8
     clear od8 gd8 hb8 or8 od7 or7 z7 bd1 bd2 cs7 HS7 HS8 HSd HG8 HO8 HY7 HB7 ODyd ORyd HByd; obtain ⟨u4, u5, u1, f4, g4, f5, g5, f1, g1, hY⟩ := HRA.out.fin (nx) (by rw [List.length_append, HTL.out]; have := H0.out.2.1; simp only [lvN, List.length_cons, List.length_nil] at this ⊢; have h3 := HRN.out; have h4 := HN.out.2.2; simp only [tkN] at this h4; rw [HN.out.1] at this; omega) HX0.out.rl HPC.out (fun z hz => by rcases List.mem_append.1 hz with h | h; exact HCD.out z h; simp only [List.mem_cons, List.not_mem_nil, or_false] at h; rcases h with h | h | h <;> (rw [h]; exact HCI.out _ (by simp))) HCR.out; have HY : Hid _ := hY
     have hSt : ({ (dn 18 x (beh v.pc 18) v).v with pc := (dn 18 x (beh v.pc 18) v).on } : VS) = { v with D := v.D.take rn ++ [a1, a0, a1], R := v.R, pc := nx } := by
      have hpl : ({ (dn 18 x (beh v.pc 18) v).v with pc := (dn 18 x (beh v.pc 18) v).on } : VS) = _ := st_plain 18 (by decide) (by rfl) x (beh v.pc 18) v hf; rw [hpl, <- HNX.out]; have hrn' : v.D.length - tkN 18 = rn := by rw [HN.out.1, HN.out.2.2]; exact HRN.out
      have hII := HII.out; simp only [tkN] at hrn'
      simp [P.nD, P.nR, P.nM, P.rw_, P.rest, P.xAt, P.tops, hrn', hII, P.putN, P.retN, P.memN, C.isUn, C.isBi]
     have HST : Hid _ := hSt; clear hSt; clear hY; go_wp2; go_ret; refine ⟨rfl, ?_⟩; rw [HST.out]; exact HY.out
   ·as_aux_lemma =>
     have HOP : Hid (op = 19) := hop; clear hop; obtain rfl := HOP.out
     obtain ⟨a0, a1, hi⟩ : ∃ a0 a1, inn = [a0, a1] := by
      have h1 := HIL.out; have h2 := HN.out.2.2; simp only [tkN] at h2; rw [<- h2] at h1
      match inn, h1 with
      | [c0, c1], _ => exact ⟨c0, c1, rfl⟩
     subst hi; obtain rfl : 2 = tk := by have := HIL.out; simpa using this
     obtain ⟨gi, cq, hci, ce0⟩ := HRC.out.in 0 a0 rfl
     simp at hci
     obtain ⟨rfl, rfl⟩ := hci; obtain ⟨gi1, cq1, hci1, ce1⟩ := HRC.out.in 1 a1 rfl
     simp at hci1
     obtain ⟨rfl, rfl⟩ := hci1; have HS : Hid (∀ X : World, Below y6.heap.size y6 X -> (fun wz : World => wz.cell? ⟨gi, 0, none⟩ = some (.int .u16 a0) /\ wz.cell? ⟨gi, 1, none⟩ = some (.int .u16 a1)) X) := fun X hX => ⟨V.cx hX ce0, V.cx hX ce1⟩
     have HBd : Hid (Below y6.heap.size y6 y6.drew) := ⟨rfl, rfl, rfl, Nat.le_refl _, fun _ _ => rfl⟩
     clear ce0 ce1; go_upto_region 61 with fail
     refine V.wrh HS.out HBd.out (by kernel_rfl) (fun hHeld => ?_); generalize y6.drew = yd at *
     have ODyd := S.hid (own_nw ODy6.out HBd.out); have ORyd := S.hid (own_nw ORy6.out HBd.out); have HByd : Hid (Below W.heap.size W yd) := HBy6.out.trans (HBd.out.mono HBy6.out.size); have HSd := S.hid (V.nx HS.out HBd.out); clear HS HDL HRL HBK ODy6 ORy6 HBy6 HRC HBd; obtain ⟨y7, hy7⟩ : ∃ y, yd.alloc (.cells #[.int .u16 (a0), .int .u16 (a1), .int .u16 (a0), .int .u16 (a1)] 23) = y := ⟨_, rfl⟩
     have b7 : Below yd.heap.size yd y7 := by rw [<- hy7]; exact P.bel_alloc yd _
     have v7 : y7.heap[yd.heap.size]? = some (.cells [.int .u16 (a0), .int .u16 (a1), .int .u16 (a0), .int .u16 (a1)].toArray 23 (0, 0)) := by rw [<- hy7]; exact heap_alloc_new yd _
     have cs7 : S.Cs y7 (.slice (some ⟨yd.heap.size, 0, none⟩) 4 4) 1 4 (S.en S.eU [a0, a1, a0, a1]) := .inr ⟨_, _, rfl, rfl, fun j u hj => by rw [Addr.add_lit, Nat.zero_add]; exact S.cell_of y7 _ j _ _ u v7 hj, S.oneU _⟩; have od7 := own_nw ODyd.out b7; have or7 := own_nw ORyd.out b7; have z7 : W.heap.size <= y7.heap.size := Nat.le_trans HByd.out.size b7.size; have bd1 : (rn + 4) * 2 <= S.room := by unfold S.room; omega
     have bd2 : rn + 4 <= maxLen := by unfold maxLen; omega
     have HY7 : Hid _ := hy7; have HS7 := S.hid (HSd.out y7 b7); have HB7 : Hid (Below W.heap.size W y7) := HByd.out.trans (b7.mono HByd.out.size); clear hy7 b7 v7; refine wtk0 (is := [0, 1, 2, 3, 4, 5, 6, 7, 8, 9, 10, 11, 12]) ?_
     iterate 13
      refine V.wt (v := ?_) rfl (by kernel_rfl) (fun c a w h => h) (by rfl) ?_ hHeld ?_
      rotate_left
      ·(intro w hSw; (try dsimp only at hSw); go_simp; try with_reducible rfl)
      simp only [V.pts]
     refine wtkE ?_; refine V.wrd 13 (by kernel_rfl) rfl fun K hK => ?_
     go_simp; refine hK.out _ _ (by first | exact HS7.out | (rw [HY7.out]; exact HS7.out)) (fun hHeld => ?_); clear hK K; try rw [HY7.out]
     try simp only [V.pts]
     refine V.wrd 14 (by kernel_rfl) rfl fun K hK => ?_
     rw [if_pos (by rfl)]; try rw [HY7.out]
     refine S.wp_append_row _ _ _ 43 23 _ 1 2 Tryz.underlying43 S.info32 rfl (by decide) rfl W.heap.size _ rn _ rfl od7 _ 4 _ rfl cs7 bd1 bd2 z7 (fun e8 y8 oe8 ge8 => ?_); obtain ⟨p8, c8, hd8⟩ := own_fm oe8; subst hd8; have hG : S.Grew y7 y8 (.slice pd rn cd1) (.slice p8 (rn + 4) c8) := ge8; have hki : y8.heap[gi]? = y7.heap[gi]? := hG.block gi (World.block_lt_of_cell? y7 _ (HS7.out.1)) (fun c => HNE.out gi rfl c.symm); have HS8 : Hid ((fun wz : World => wz.cell? ⟨gi, 0, none⟩ = some (.int .u16 a0) /\ wz.cell? ⟨gi, 1, none⟩ = some (.int .u16 a1)) y8) := ⟨V.cb hki HS7.out.1, V.cb hki HS7.out.2⟩
     have HG8 := S.hid (hG); have HO8 : Hid _ := oe8; clear ge8 hG oe8 hki; refine hK.out _ _ HS8.out (fun hHeld => ?_); clear hK K; try simp only [V.pts]
     refine V.wt1 15 (v := ?_) rfl (by kernel_rfl) (fun c a w h => h) (by rfl) ?_ hHeld ?_
     rotate_left
     ·(intro w hSw; (try dsimp only at hSw); go_simp; try with_reducible rfl)
     simp only [V.pts]; refine wpAnyH_done (by kernel_rfl) ?_ _; clear hHeld; have od8 := HO8.out; have gd8 := HG8.out; have hb8 : Below W.heap.size y7 y8 := gd8.below (fun k e => (World.ownsRow.lt od7 k e).1) z7; have or8 : y8.ownsRow W.heap.size 101 2 (.slice pr nr cr1) nr (S.en S.eK v.R) := own_ty or7 od7 gd8 (by decide)
     have HRA : Hid (RA W y8 g b kv F v (.slice p8 (rn + 4) c8) (.slice pr nr cr1) (v.D.take rn ++ [a0, a1, a0, a1]) v.R) := by
      refine RA.of HX0.out (HB7.out.trans hb8) (S.own_sl S.hU (t := 23) (B := W.heap.size) ?_) (S.own_sl S.hK (t := 101) (B := W.heap.size) ?_) (fun k e => e.elim (fun e => World.ownsRow.lt od8 k e) (fun e => World.ownsRow.lt or8 k e))
      ·rw [List.length_append, HTL.out, S.en_append]; exact od8
      ·rw [HN.out.2.1]; exact or8
     clear od8 gd8 hb8 or8 od7 or7 z7 bd1 bd2 cs7 HS7 HS8 HSd HG8 HO8 HY7 HB7 ODyd ORyd HByd; obtain ⟨u4, u5, u1, f4, g4, f5, g5, f1, g1, hY⟩ := HRA.out.fin (nx) (by rw [List.length_append, HTL.out]; have := H0.out.2.1; simp only [lvN, List.length_cons, List.length_nil] at this ⊢; have h3 := HRN.out; have h4 := HN.out.2.2; simp only [tkN] at this h4; rw [HN.out.1] at this; omega) HX0.out.rl HPC.out (fun z hz => by rcases List.mem_append.1 hz with h | h; exact HCD.out z h; simp only [List.mem_cons, List.not_mem_nil, or_false] at h; rcases h with h | h | h | h <;> (rw [h]; exact HCI.out _ (by simp))) HCR.out; have HY : Hid _ := hY
     have hSt : ({ (dn 19 x (beh v.pc 19) v).v with pc := (dn 19 x (beh v.pc 19) v).on } : VS) = { v with D := v.D.take rn ++ [a0, a1, a0, a1], R := v.R, pc := nx } := by
      have hpl : ({ (dn 19 x (beh v.pc 19) v).v with pc := (dn 19 x (beh v.pc 19) v).on } : VS) = _ := st_plain 19 (by decide) (by rfl) x (beh v.pc 19) v hf; rw [hpl, <- HNX.out]; have hrn' : v.D.length - tkN 19 = rn := by rw [HN.out.1, HN.out.2.2]; exact HRN.out
      have hII := HII.out; simp only [tkN] at hrn'
      simp [P.nD, P.nR, P.nM, P.rw_, P.rest, P.xAt, P.tops, hrn', hII, P.putN, P.retN, P.memN, C.isUn, C.isBi]
     have HST : Hid _ := hSt; clear hSt; clear hY; go_wp2; go_ret; refine ⟨rfl, ?_⟩; rw [HST.out]; exact HY.out
   ·as_aux_lemma =>
     have HOP : Hid (C.isUn op = true) := hop; clear hop; have HPL : Hid (Pl1 op) := un_pl HOP.out
     obtain ⟨a0, hi⟩ : ∃ a0, inn = [a0] := by
      have h1 := HIL.out; have h2 := HN.out.2.2; rw [HPL.out.tk] at h2; rw [<- h2] at h1
      match inn, h1 with
      | [c0], _ => exact ⟨c0, rfl⟩
     subst hi; obtain rfl : 1 = tk := by have := HIL.out; simpa using this
     obtain ⟨gi, cq, hci, ce0⟩ := HRC.out.in 0 a0 rfl
     simp at hci
     obtain ⟨rfl, rfl⟩ := hci; have hA := HCI.out a0 (by simp); obtain ⟨cv, hcv⟩ : ∃ c, C.un op a0 = c := ⟨_, rfl⟩
     have kC := fun w => one_any op HOP.out a0 hA w
     rw [hcv] at kC; have kT : ∀ w, Calls Tryz.prog 67 #[.int .i64 (op : Int)] w fun e w' => e = .returned (.int .i64 1) /\ w' = w := fun w => by have := tk_any op o1 o2 w; rw [HPL.out.tk] at this; exact this
     have HCC : Hid (C.C cv) := by rw [<- hcv]; exact C.C_cl _
     have HCV : Hid _ := hcv; clear hcv hA; have n1 : ((op : Int) == 1) = false := by rw [beq_eq_false_iff_ne]; intro c; have hop := HOP.out; rw [c] at hop; exact absurd hop (by decide)
     go_upto_region 25 with fail
     clear n1; have n2 : ((op : Int) == 2) = false := by rw [beq_eq_false_iff_ne]; intro c; have hop := HOP.out; rw [c] at hop; exact absurd hop (by decide)
     have n3 : ((op : Int) == 3) = false := by rw [beq_eq_false_iff_ne]; intro c; have hop := HOP.out; rw [c] at hop; exact absurd hop (by decide)
     go_upto_region 28 with fail
     clear n2 n3; have n4 : ((op : Int) == 4) = false := by rw [beq_eq_false_iff_ne]; intro c; have hop := HOP.out; rw [c] at hop; exact absurd hop (by decide)
     go_upto_region 30 with fail
     clear n4; have n5 : ((op : Int) == 5) = false := by rw [beq_eq_false_iff_ne]; intro c; have hop := HOP.out; rw [c] at hop; exact absurd hop (by decide)
     go_upto_region 33 with fail
     clear n5; have n6 : ((op : Int) == 6) = false := by rw [beq_eq_false_iff_ne]; intro c; have hop := HOP.out; rw [c] at hop; exact absurd hop (by decide)
     go_upto_region 35 with fail
     clear n6; have n7 : ((op : Int) == 7) = false := by rw [beq_eq_false_iff_ne]; intro c; have hop := HOP.out; rw [c] at hop; exact absurd hop (by decide)
     go_upto_region 41 with fail
     clear n7; have n8 : ((op : Int) == 8) = false := by rw [beq_eq_false_iff_ne]; intro c; have hop := HOP.out; rw [c] at hop; exact absurd hop (by decide)
     go_upto_region 46 with fail
     clear n8; have n11 : ((op : Int) == 11) = false := by rw [beq_eq_false_iff_ne]; intro c; have hop := HOP.out; rw [c] at hop; exact absurd hop (by decide)
     go_upto_region 48 with fail
     clear n11; have n12 : ((op : Int) == 12) = false := by rw [beq_eq_false_iff_ne]; intro c; have hop := HOP.out; rw [c] at hop; exact absurd hop (by decide)
     go_upto_region 50 with fail
     clear n12; have n14 : ((op : Int) == 14) = false := by rw [beq_eq_false_iff_ne]; intro c; have hop := HOP.out; rw [c] at hop; exact absurd hop (by decide)
     go_upto_region 52 with fail
     clear n14; have n15 : ((op : Int) == 15) = false := by rw [beq_eq_false_iff_ne]; intro c; have hop := HOP.out; rw [c] at hop; exact absurd hop (by decide)
     go_upto_region 54 with fail
     clear n15; have n16 : ((op : Int) == 16) = false := by rw [beq_eq_false_iff_ne]; intro c; have hop := HOP.out; rw [c] at hop; exact absurd hop (by decide)
     go_upto_region 56 with fail
     clear n16; have n17 : ((op : Int) == 17) = false := by rw [beq_eq_false_iff_ne]; intro c; have hop := HOP.out; rw [c] at hop; exact absurd hop (by decide)
     go_upto_region 58 with fail
     clear n17; have n18 : ((op : Int) == 18) = false := by rw [beq_eq_false_iff_ne]; intro c; have hop := HOP.out; rw [c] at hop; exact absurd hop (by decide)
     go_upto_region 60 with fail
     clear n18; have n19 : ((op : Int) == 19) = false := by rw [beq_eq_false_iff_ne]; intro c; have hop := HOP.out; rw [c] at hop; exact absurd hop (by decide)
     go_upto_region 62 with fail
     clear n19; have n50 : ((op : Int) == 50) = false := by rw [beq_eq_false_iff_ne]; intro c; have hop := HOP.out; rw [c] at hop; exact absurd hop (by decide)
     go_upto_region 64 with fail
     clear n50; have n51 : ((op : Int) == 51) = false := by rw [beq_eq_false_iff_ne]; intro c; have hop := HOP.out; rw [c] at hop; exact absurd hop (by decide)
     go_upto_region 66 with fail
     clear n51; have n52 : ((op : Int) == 52) = false := by rw [beq_eq_false_iff_ne]; intro c; have hop := HOP.out; rw [c] at hop; exact absurd hop (by decide)
     go_upto_region 68 with fail
     clear n52; have n53 : ((op : Int) == 53) = false := by rw [beq_eq_false_iff_ne]; intro c; have hop := HOP.out; rw [c] at hop; exact absurd hop (by decide)
     go_upto_region 70 with fail
     clear n53; have n54 : ((op : Int) == 54) = false := by rw [beq_eq_false_iff_ne]; intro c; have hop := HOP.out; rw [c] at hop; exact absurd hop (by decide)
     go_upto_region 72 with fail
     clear n54; have n55 : ((op : Int) == 55) = false := by rw [beq_eq_false_iff_ne]; intro c; have hop := HOP.out; rw [c] at hop; exact absurd hop (by decide)
     go_upto_region 74 with fail
     clear n55; have n56 : ((op : Int) == 56) = false := by rw [beq_eq_false_iff_ne]; intro c; have hop := HOP.out; rw [c] at hop; exact absurd hop (by decide)
     go_upto_region 77 with fail
     clear n56; have n57 : ((op : Int) == 57) = false := by rw [beq_eq_false_iff_ne]; intro c; have hop := HOP.out; rw [c] at hop; exact absurd hop (by decide)
     have n58 : ((op : Int) == 58) = false := by rw [beq_eq_false_iff_ne]; intro c; have hop := HOP.out; rw [c] at hop; exact absurd hop (by decide)
     go_upto_region 80 with fail
     clear n57 n58; have n59 : ((op : Int) == 59) = false := by rw [beq_eq_false_iff_ne]; intro c; have hop := HOP.out; rw [c] at hop; exact absurd hop (by decide)
     go_upto_region 82 with fail
     clear n59; have n60 : ((op : Int) == 60) = false := by rw [beq_eq_false_iff_ne]; intro c; have hop := HOP.out; rw [c] at hop; exact absurd hop (by decide)
     go_upto_region 84 with fail
     clear n60; have n61 : ((op : Int) == 61) = false := by rw [beq_eq_false_iff_ne]; intro c; have hop := HOP.out; rw [c] at hop; exact absurd hop (by decide)
     go_upto_region 86 with fail
     clear n61; have n62 : ((op : Int) == 62) = false := by rw [beq_eq_false_iff_ne]; intro c; have hop := HOP.out; rw [c] at hop; exact absurd hop (by decide)
     go_upto_region 88 with fail
     clear n62; have n63 : ((op : Int) == 63) = false := by rw [beq_eq_false_iff_ne]; intro c; have hop := HOP.out; rw [c] at hop; exact absurd hop (by decide)
     go_upto_region 90 with fail
     clear n63; have n9 : ((op : Int) == 9) = false := by rw [beq_eq_false_iff_ne]; intro c; have hop := HOP.out; rw [c] at hop; exact absurd hop (by decide)
     have n10 : ((op : Int) == 10) = false := by rw [beq_eq_false_iff_ne]; intro c; have hop := HOP.out; rw [c] at hop; exact absurd hop (by decide)
     have n13 : ((op : Int) == 13) = false := by rw [beq_eq_false_iff_ne]; intro c; have hop := HOP.out; rw [c] at hop; exact absurd hop (by decide)
     have n20 : ((op : Int) == 20) = false := by rw [beq_eq_false_iff_ne]; intro c; have hop := HOP.out; rw [c] at hop; exact absurd hop (by decide)
     go_upto_region 19 with fail
     clear n9 n10 n13 n20; have n10 : ((op : Int) == 10) = false := by rw [beq_eq_false_iff_ne]; intro c; have hop := HOP.out; rw [c] at hop; exact absurd hop (by decide)
     have HQ10 : Hid ((op == 10) = false) := by show (op == 10) = false; rw [beq_eq_false_iff_ne]; intro c; rw [beq_eq_false_iff_ne] at n10; omega
     obtain ⟨y7, hy7⟩ : ∃ y, y6.alloc (.cells #[.int .u16 (cv)] 23) = y := ⟨_, rfl⟩
     have b7 : Below y6.heap.size y6 y7 := by rw [<- hy7]; exact P.bel_alloc y6 _
     have v7 : y7.heap[y6.heap.size]? = some (.cells [.int .u16 (cv)].toArray 23 (0, 0)) := by rw [<- hy7]; exact heap_alloc_new y6 _
     have cs7 : S.Cs y7 (.slice (some ⟨y6.heap.size, 0, none⟩) 1 1) 1 1 (S.en S.eU [cv]) := .inr ⟨_, _, rfl, rfl, fun j u hj => by rw [Addr.add_lit, Nat.zero_add]; exact S.cell_of y7 _ j _ _ u v7 hj, S.oneU _⟩; have od7 := own_nw ODy6.out b7; have or7 := own_nw ORy6.out b7; have z7 : W.heap.size <= y7.heap.size := Nat.le_trans HBy6.out.size b7.size; have bd1 : (rn + 1) * 2 <= S.room := by unfold S.room; omega
     have bd2 : rn + 1 <= maxLen := by unfold maxLen; omega
     have HY7 : Hid _ := hy7; have HB7 : Hid (Below W.heap.size W y7) := HBy6.out.trans (b7.mono HBy6.out.size); clear hy7 b7 v7; go_wp2_with fail
     refine (kT _).mono ?_; rintro e wx ⟨rfl, hwx⟩; rw [hwx]; clear hwx wx; go_upto_region 20 with fail
     go_wp2_with fail
     refine (kC _).mono ?_; rintro e wx ⟨rfl, hwx⟩; rw [hwx]; clear hwx wx; go_wp2_with (first | (at_builtin; rw [HY7.out]; refine S.wpList_append_row _ rfl _ _ 43 23 _ 1 2 Tryz.underlying43 S.info32 rfl (by decide) rfl W.heap.size _ rn _ rfl od7 _ 1 _ rfl cs7 bd1 bd2 z7 ?_))
     intro d2 y8 od8 gd8; obtain ⟨p8, c8, hd8'⟩ := own_fm od8; subst hd8'; have hb8 : Below W.heap.size y7 y8 := gd8.below (fun k e => (World.ownsRow.lt od7 k e).1) z7; have or8 : y8.ownsRow W.heap.size 101 2 (.slice pr nr cr1) nr (S.en S.eK v.R) := own_ty or7 od7 gd8 (by decide)
     have HRA : Hid (RA W y8 g b kv F v (.slice p8 (rn + 1) c8) (.slice pr nr cr1) (v.D.take rn ++ [cv]) v.R) := by
      refine RA.of HX0.out (HB7.out.trans hb8) (S.own_sl S.hU (t := 23) (B := W.heap.size) ?_) (S.own_sl S.hK (t := 101) (B := W.heap.size) ?_) (fun k e => e.elim (fun e => World.ownsRow.lt od8 k e) (fun e => World.ownsRow.lt or8 k e))
      ·rw [List.length_append, HTL.out, S.en_append]; exact od8
      ·rw [HN.out.2.1]; exact or8
     clear od8 gd8 hb8 or8 od7 or7 z7 bd1 bd2 cs7; clear kC kT; obtain ⟨u4, u5, u1, f4, g4, f5, g5, f1, g1, hY⟩ := HRA.out.fin (nx) (by rw [List.length_append, HTL.out]; have := H0.out.2.1; rw [HPL.out.lv, HPL.out.tk, HN.out.1] at this; simp only [List.length_cons, List.length_nil]; have h3 := HRN.out; omega) HX0.out.rl HPC.out (fun z hz => by rcases List.mem_append.1 hz with h | h; exact HCD.out z h; simp only [List.mem_cons, List.not_mem_nil, or_false] at h; rcases h with h <;> (rw [h]; exact HCC.out)) HCR.out; have HY : Hid _ := hY
     have hSt : ({ (dn op x (beh v.pc op) v).v with pc := (dn op x (beh v.pc op) v).on } : VS) = { v with D := v.D.take rn ++ [cv], R := v.R, pc := nx } := by
      have hpl : ({ (dn op x (beh v.pc op) v).v with pc := (dn op x (beh v.pc op) v).on } : VS) = _ := st_plain op o2 HPL.out.pl x (beh v.pc op) v hf; rw [hpl, <- HNX.out]; have hrn' : v.D.length - 1 = rn := by rw [HN.out.1]; have := HRN.out; omega
      have hII := HII.out; simp only [P.nD, P.nR, P.nM, HPL.out.rw, HPL.out.put, HPL.out.ret, HPL.out.mem, P.rest, P.xAt, P.tops, hrn', hII]
      simp [HCV.out]
     have HST : Hid _ := hSt; clear hSt; clear hY; go_wp2; go_ret; refine ⟨by rw [HQ10.out]; rfl, ?_⟩; rw [HST.out]; exact HY.out
   ·as_aux_lemma =>
     have HOP : Hid (C.isBi op = true) := hop; clear hop; have HPL : Hid (Pl2 op) := bi_pl HOP.out
     obtain ⟨a0, a1, hi⟩ : ∃ a0 a1, inn = [a0, a1] := by
      have h1 := HIL.out; have h2 := HN.out.2.2; rw [HPL.out.tk] at h2; rw [<- h2] at h1
      match inn, h1 with
      | [c0, c1], _ => exact ⟨c0, c1, rfl⟩
     subst hi; obtain rfl : 2 = tk := by have := HIL.out; simpa using this
     obtain ⟨gi, cq, hci, ce0⟩ := HRC.out.in 0 a0 rfl
     simp at hci
     obtain ⟨rfl, rfl⟩ := hci; obtain ⟨gi1, cq1, hci1, ce1⟩ := HRC.out.in 1 a1 rfl
     simp at hci1
     obtain ⟨rfl, rfl⟩ := hci1; have hA := HCI.out a0 (by simp); have hB := HCI.out a1 (by simp); obtain ⟨cv, hcv⟩ : ∃ c, C.bi op a0 a1 = c := ⟨_, rfl⟩
     have kC := fun w => two_any op HOP.out a0 a1 hA hB w
     rw [hcv] at kC; have kT : ∀ w, Calls Tryz.prog 67 #[.int .i64 (op : Int)] w fun e w' => e = .returned (.int .i64 2) /\ w' = w := fun w => by have := tk_any op o1 o2 w; rw [HPL.out.tk] at this; exact this
     have HCC : Hid (C.C cv) := by rw [<- hcv]; exact C.C_cl _
     have HCV : Hid _ := hcv; clear hcv hA hB; have n1 : ((op : Int) == 1) = false := by rw [beq_eq_false_iff_ne]; intro c; have hop := HOP.out; rw [c] at hop; exact absurd hop (by decide)
     go_upto_region 25 with fail
     clear n1; have n2 : ((op : Int) == 2) = false := by rw [beq_eq_false_iff_ne]; intro c; have hop := HOP.out; rw [c] at hop; exact absurd hop (by decide)
     have n3 : ((op : Int) == 3) = false := by rw [beq_eq_false_iff_ne]; intro c; have hop := HOP.out; rw [c] at hop; exact absurd hop (by decide)
     go_upto_region 28 with fail
     clear n2 n3; have n4 : ((op : Int) == 4) = false := by rw [beq_eq_false_iff_ne]; intro c; have hop := HOP.out; rw [c] at hop; exact absurd hop (by decide)
     go_upto_region 30 with fail
     clear n4; have n5 : ((op : Int) == 5) = false := by rw [beq_eq_false_iff_ne]; intro c; have hop := HOP.out; rw [c] at hop; exact absurd hop (by decide)
     go_upto_region 33 with fail
     clear n5; have n6 : ((op : Int) == 6) = false := by rw [beq_eq_false_iff_ne]; intro c; have hop := HOP.out; rw [c] at hop; exact absurd hop (by decide)
     go_upto_region 35 with fail
     clear n6; have n7 : ((op : Int) == 7) = false := by rw [beq_eq_false_iff_ne]; intro c; have hop := HOP.out; rw [c] at hop; exact absurd hop (by decide)
     go_upto_region 41 with fail
     clear n7; have n8 : ((op : Int) == 8) = false := by rw [beq_eq_false_iff_ne]; intro c; have hop := HOP.out; rw [c] at hop; exact absurd hop (by decide)
     go_upto_region 46 with fail
     clear n8; have n11 : ((op : Int) == 11) = false := by rw [beq_eq_false_iff_ne]; intro c; have hop := HOP.out; rw [c] at hop; exact absurd hop (by decide)
     go_upto_region 48 with fail
     clear n11; have n12 : ((op : Int) == 12) = false := by rw [beq_eq_false_iff_ne]; intro c; have hop := HOP.out; rw [c] at hop; exact absurd hop (by decide)
     go_upto_region 50 with fail
     clear n12; have n14 : ((op : Int) == 14) = false := by rw [beq_eq_false_iff_ne]; intro c; have hop := HOP.out; rw [c] at hop; exact absurd hop (by decide)
     go_upto_region 52 with fail
     clear n14; have n15 : ((op : Int) == 15) = false := by rw [beq_eq_false_iff_ne]; intro c; have hop := HOP.out; rw [c] at hop; exact absurd hop (by decide)
     go_upto_region 54 with fail
     clear n15; have n16 : ((op : Int) == 16) = false := by rw [beq_eq_false_iff_ne]; intro c; have hop := HOP.out; rw [c] at hop; exact absurd hop (by decide)
     go_upto_region 56 with fail
     clear n16; have n17 : ((op : Int) == 17) = false := by rw [beq_eq_false_iff_ne]; intro c; have hop := HOP.out; rw [c] at hop; exact absurd hop (by decide)
     go_upto_region 58 with fail
     clear n17; have n18 : ((op : Int) == 18) = false := by rw [beq_eq_false_iff_ne]; intro c; have hop := HOP.out; rw [c] at hop; exact absurd hop (by decide)
     go_upto_region 60 with fail
     clear n18; have n19 : ((op : Int) == 19) = false := by rw [beq_eq_false_iff_ne]; intro c; have hop := HOP.out; rw [c] at hop; exact absurd hop (by decide)
     go_upto_region 62 with fail
     clear n19; have n50 : ((op : Int) == 50) = false := by rw [beq_eq_false_iff_ne]; intro c; have hop := HOP.out; rw [c] at hop; exact absurd hop (by decide)
     go_upto_region 64 with fail
     clear n50; have n51 : ((op : Int) == 51) = false := by rw [beq_eq_false_iff_ne]; intro c; have hop := HOP.out; rw [c] at hop; exact absurd hop (by decide)
     go_upto_region 66 with fail
     clear n51; have n52 : ((op : Int) == 52) = false := by rw [beq_eq_false_iff_ne]; intro c; have hop := HOP.out; rw [c] at hop; exact absurd hop (by decide)
     go_upto_region 68 with fail
     clear n52; have n53 : ((op : Int) == 53) = false := by rw [beq_eq_false_iff_ne]; intro c; have hop := HOP.out; rw [c] at hop; exact absurd hop (by decide)
     go_upto_region 70 with fail
     clear n53; have n54 : ((op : Int) == 54) = false := by rw [beq_eq_false_iff_ne]; intro c; have hop := HOP.out; rw [c] at hop; exact absurd hop (by decide)
     go_upto_region 72 with fail
     clear n54; have n55 : ((op : Int) == 55) = false := by rw [beq_eq_false_iff_ne]; intro c; have hop := HOP.out; rw [c] at hop; exact absurd hop (by decide)
     go_upto_region 74 with fail
     clear n55; have n56 : ((op : Int) == 56) = false := by rw [beq_eq_false_iff_ne]; intro c; have hop := HOP.out; rw [c] at hop; exact absurd hop (by decide)
     go_upto_region 77 with fail
     clear n56; have n57 : ((op : Int) == 57) = false := by rw [beq_eq_false_iff_ne]; intro c; have hop := HOP.out; rw [c] at hop; exact absurd hop (by decide)
     have n58 : ((op : Int) == 58) = false := by rw [beq_eq_false_iff_ne]; intro c; have hop := HOP.out; rw [c] at hop; exact absurd hop (by decide)
     go_upto_region 80 with fail
     clear n57 n58; have n59 : ((op : Int) == 59) = false := by rw [beq_eq_false_iff_ne]; intro c; have hop := HOP.out; rw [c] at hop; exact absurd hop (by decide)
     go_upto_region 82 with fail
     clear n59; have n60 : ((op : Int) == 60) = false := by rw [beq_eq_false_iff_ne]; intro c; have hop := HOP.out; rw [c] at hop; exact absurd hop (by decide)
     go_upto_region 84 with fail
     clear n60; have n61 : ((op : Int) == 61) = false := by rw [beq_eq_false_iff_ne]; intro c; have hop := HOP.out; rw [c] at hop; exact absurd hop (by decide)
     go_upto_region 86 with fail
     clear n61; have n62 : ((op : Int) == 62) = false := by rw [beq_eq_false_iff_ne]; intro c; have hop := HOP.out; rw [c] at hop; exact absurd hop (by decide)
     go_upto_region 88 with fail
     clear n62; have n63 : ((op : Int) == 63) = false := by rw [beq_eq_false_iff_ne]; intro c; have hop := HOP.out; rw [c] at hop; exact absurd hop (by decide)
     go_upto_region 90 with fail
     clear n63; have n9 : ((op : Int) == 9) = false := by rw [beq_eq_false_iff_ne]; intro c; have hop := HOP.out; rw [c] at hop; exact absurd hop (by decide)
     have n10 : ((op : Int) == 10) = false := by rw [beq_eq_false_iff_ne]; intro c; have hop := HOP.out; rw [c] at hop; exact absurd hop (by decide)
     have n13 : ((op : Int) == 13) = false := by rw [beq_eq_false_iff_ne]; intro c; have hop := HOP.out; rw [c] at hop; exact absurd hop (by decide)
     have n20 : ((op : Int) == 20) = false := by rw [beq_eq_false_iff_ne]; intro c; have hop := HOP.out; rw [c] at hop; exact absurd hop (by decide)
     go_upto_region 19 with fail
     clear n9 n10 n13 n20; have n10 : ((op : Int) == 10) = false := by rw [beq_eq_false_iff_ne]; intro c; have hop := HOP.out; rw [c] at hop; exact absurd hop (by decide)
     have HQ10 : Hid ((op == 10) = false) := by show (op == 10) = false; rw [beq_eq_false_iff_ne]; intro c; rw [beq_eq_false_iff_ne] at n10; omega
     have HS : Hid (∀ X : World, Below y6.heap.size y6 X -> (fun wz : World => wz.cell? ⟨gi, 0, none⟩ = some (.int .u16 a0) /\ wz.cell? ⟨gi, 1, none⟩ = some (.int .u16 a1)) X) := fun X hX => ⟨V.cx hX ce0, V.cx hX ce1⟩
     have HBd : Hid (Below y6.heap.size y6 y6.drew) := ⟨rfl, rfl, rfl, Nat.le_refl _, fun _ _ => rfl⟩
     clear ce0 ce1; go_wp2_with fail
     refine (kT _).mono ?_; rintro e wx ⟨rfl, hwx⟩; rw [hwx]; clear hwx wx; go_upto_region 21 with fail
     refine V.wrh HS.out HBd.out (by kernel_rfl) (fun hHeld => ?_); generalize y6.drew = yd at *
     have ODyd := S.hid (own_nw ODy6.out HBd.out); have ORyd := S.hid (own_nw ORy6.out HBd.out); have HByd : Hid (Below W.heap.size W yd) := HBy6.out.trans (HBd.out.mono HBy6.out.size); have HSd := S.hid (V.nx HS.out HBd.out); clear HS HDL HRL HBK ODy6 ORy6 HBy6 HRC HBd; clear kT; obtain ⟨y7, hy7⟩ : ∃ y, yd.alloc (.cells #[.int .u16 (cv)] 23) = y := ⟨_, rfl⟩
     have b7 : Below yd.heap.size yd y7 := by rw [<- hy7]; exact P.bel_alloc yd _
     have v7 : y7.heap[yd.heap.size]? = some (.cells [.int .u16 (cv)].toArray 23 (0, 0)) := by rw [<- hy7]; exact heap_alloc_new yd _
     have cs7 : S.Cs y7 (.slice (some ⟨yd.heap.size, 0, none⟩) 1 1) 1 1 (S.en S.eU [cv]) := .inr ⟨_, _, rfl, rfl, fun j u hj => by rw [Addr.add_lit, Nat.zero_add]; exact S.cell_of y7 _ j _ _ u v7 hj, S.oneU _⟩; have od7 := own_nw ODyd.out b7; have or7 := own_nw ORyd.out b7; have z7 : W.heap.size <= y7.heap.size := Nat.le_trans HByd.out.size b7.size; have bd1 : (rn + 1) * 2 <= S.room := by unfold S.room; omega
     have bd2 : rn + 1 <= maxLen := by unfold maxLen; omega
     have HY7 : Hid _ := hy7; have HS7 := S.hid (HSd.out y7 b7); have HB7 : Hid (Below W.heap.size W y7) := HByd.out.trans (b7.mono HByd.out.size); clear hy7 b7 v7; refine wtk0 (is := [0, 1, 2, 3, 4, 5, 6, 7]) ?_
     iterate 8
      refine V.wt (v := ?_) rfl (by kernel_rfl) (fun c a w h => h) (by rfl) ?_ hHeld ?_
      rotate_left
      ·(intro w hSw; (try dsimp only at hSw); go_simp; try with_reducible rfl)
      simp only [V.pts]
     refine wtkE ?_; refine V.wrd 8 (by kernel_rfl) rfl fun K hK => ?_
     go_simp; refine (kC _).mono ?_; rintro e wx ⟨rfl, hwx⟩; dsimp only; rw [hwx]; clear hwx wx; refine hK.out _ _ (HSd.out yd (Below.refl _ yd)) (fun hHeld => ?_); clear hK K; try simp only [V.pts]
     clear kC; refine V.wrd 9 (by kernel_rfl) rfl fun K hK => ?_
     go_simp; refine hK.out _ _ (by first | exact HS7.out | (rw [HY7.out]; exact HS7.out)) (fun hHeld => ?_); clear hK K; try rw [HY7.out]
     try simp only [V.pts]
     refine V.wrd 10 (by kernel_rfl) rfl fun K hK => ?_
     rw [if_pos (by rfl)]; try rw [HY7.out]
     refine S.wp_append_row _ _ _ 43 23 _ 1 2 Tryz.underlying43 S.info32 rfl (by decide) rfl W.heap.size _ rn _ rfl od7 _ 1 _ rfl cs7 bd1 bd2 z7 (fun e8 y8 oe8 ge8 => ?_); obtain ⟨p8, c8, hd8⟩ := own_fm oe8; subst hd8; have hG : S.Grew y7 y8 (.slice pd rn cd1) (.slice p8 (rn + 1) c8) := ge8; have hki : y8.heap[gi]? = y7.heap[gi]? := hG.block gi (World.block_lt_of_cell? y7 _ (HS7.out.1)) (fun c => HNE.out gi rfl c.symm); have HS8 : Hid ((fun wz : World => wz.cell? ⟨gi, 0, none⟩ = some (.int .u16 a0) /\ wz.cell? ⟨gi, 1, none⟩ = some (.int .u16 a1)) y8) := ⟨V.cb hki HS7.out.1, V.cb hki HS7.out.2⟩
     have HG8 := S.hid (hG); have HO8 : Hid _ := oe8; clear ge8 hG oe8 hki; refine hK.out _ _ HS8.out (fun hHeld => ?_); clear hK K; try simp only [V.pts]
     refine V.wt1 11 (v := ?_) rfl (by kernel_rfl) (fun c a w h => h) (by rfl) ?_ hHeld ?_
     rotate_left
     ·(intro w hSw; (try dsimp only at hSw); go_simp; try with_reducible rfl)
     simp only [V.pts]; refine wpAnyH_done (by kernel_rfl) ?_ _; clear hHeld; have od8 := HO8.out; have gd8 := HG8.out; have hb8 : Below W.heap.size y7 y8 := gd8.below (fun k e => (World.ownsRow.lt od7 k e).1) z7; have or8 : y8.ownsRow W.heap.size 101 2 (.slice pr nr cr1) nr (S.en S.eK v.R) := own_ty or7 od7 gd8 (by decide)
     have HRA : Hid (RA W y8 g b kv F v (.slice p8 (rn + 1) c8) (.slice pr nr cr1) (v.D.take rn ++ [cv]) v.R) := by
      refine RA.of HX0.out (HB7.out.trans hb8) (S.own_sl S.hU (t := 23) (B := W.heap.size) ?_) (S.own_sl S.hK (t := 101) (B := W.heap.size) ?_) (fun k e => e.elim (fun e => World.ownsRow.lt od8 k e) (fun e => World.ownsRow.lt or8 k e))
      ·rw [List.length_append, HTL.out, S.en_append]; exact od8
      ·rw [HN.out.2.1]; exact or8
     clear od8 gd8 hb8 or8 od7 or7 z7 bd1 bd2 cs7 HS7 HS8 HSd HG8 HO8 HY7 HB7 ODyd ORyd HByd; obtain ⟨u4, u5, u1, f4, g4, f5, g5, f1, g1, hY⟩ := HRA.out.fin (nx) (by rw [List.length_append, HTL.out]; have := H0.out.2.1; rw [HPL.out.lv, HPL.out.tk, HN.out.1] at this; simp only [List.length_cons, List.length_nil]; have h3 := HRN.out; omega) HX0.out.rl HPC.out (fun z hz => by rcases List.mem_append.1 hz with h | h; exact HCD.out z h; simp only [List.mem_cons, List.not_mem_nil, or_false] at h; rcases h with h <;> (rw [h]; exact HCC.out)) HCR.out; have HY : Hid _ := hY
     have hSt : ({ (dn op x (beh v.pc op) v).v with pc := (dn op x (beh v.pc op) v).on } : VS) = { v with D := v.D.take rn ++ [cv], R := v.R, pc := nx } := by
      have hpl : ({ (dn op x (beh v.pc op) v).v with pc := (dn op x (beh v.pc op) v).on } : VS) = _ := st_plain op o2 HPL.out.pl x (beh v.pc op) v hf; rw [hpl, <- HNX.out]; have hrn' : v.D.length - 2 = rn := by rw [HN.out.1]; have := HRN.out; omega
      have hII := HII.out; simp only [P.nD, P.nR, P.nM, HPL.out.rw, HPL.out.put, HPL.out.ret, HPL.out.mem, P.rest, P.xAt, P.tops, hrn', hII]
      simp [HCV.out]
     have HST : Hid _ := hSt; clear hSt; clear hY; go_wp2; go_ret; refine ⟨by rw [HQ10.out]; rfl, ?_⟩; rw [HST.out]; exact HY.out
end Go.Proofs.YteldjmecomngeaaGreat.V
