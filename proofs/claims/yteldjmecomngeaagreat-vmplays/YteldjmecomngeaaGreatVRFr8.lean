import Derived.Test.YteldjmecomngeaaGreatVRFrK
import Derived.Test.YteldjmecomngeaaGreatVRRs8
import Derived.Test.YteldjmecomngeaaGreatVRStep
import Derived.Test.YteldjmecomngeaaGreatMRSame
import Derived.Deep.CutBlock
namespace Go.Proofs.YteldjmecomngeaaGreat.V
open Go.RowKit
open Go.Proofs
set_option linter.unusedVariables false
set_option linter.unusedSimpArgs false
set_option maxHeartbeats 8000000
set_option maxRecDepth 100000
theorem co_any (op : Nat) (h1 : 1 <= op) (h2 : op <= 63) (w : World) : Calls Tryz.prog 66 #[.int .i64 (op : Int)] w fun e w' => e = .returned (.int .i64 (P.rc op)) /\ w' = w := by
 rcases P.num_cases op h1 (by omega) with rfl | rfl | rfl | rfl | rfl | rfl | rfl | rfl | rfl | rfl | rfl | rfl | rfl | rfl | rfl | rfl | rfl | rfl | rfl | rfl | rfl | rfl | rfl | rfl | rfl | rfl | rfl | rfl | rfl | rfl | rfl | rfl | rfl | rfl | rfl | rfl | rfl | rfl | rfl | rfl | rfl | rfl | rfl | rfl | rfl | rfl | rfl | rfl | rfl | rfl | rfl | rfl | rfl | rfl | rfl | rfl | rfl | rfl | rfl | rfl | rfl | rfl | rfl
 all_goals
  go_enter Tryz.func66, Tryz.ntmps66; go_wp2; go_ret; exact ⟨rfl, rfl⟩
end Go.Proofs.YteldjmecomngeaaGreat.V
namespace Go.Proofs.YteldjmecomngeaaGreat.V
open Go.RowKit
open Go.Proofs
set_option linter.unusedVariables false
set_option linter.unusedSimpArgs false
set_option maxHeartbeats 8000000
set_option maxRecDepth 100000
structure FR (W wr : World) (g b no : Nat) (kv : Value) (F : Nat -> Prop) (B : Int) (R : WK) (k : Nat) (u : VS) (n s : Int) : Prop where
 n0 : 0 <= n
 ns : n <= s
 sB : s <= B
 kk : B - s <= (k : Int)
 eq : R = wk k B u n s
 d : FI W wr g b no kv F u [.int .i64 0, .int .i64 0, .int .i64 n, .int .i64 s, .int .i64 0, .slice none 0 0, .slice none 0 0]
 t : (u.m.tones.length : Int) <= 3 * n
theorem step_ok (u : VS) (s : Int) (h1 : u.st = 1) (h2 : (look u).f = 0) (h3 : (doo (look u).op (look u).x (cyc s u)).1 = 0) : step (cyc s u) = ((look u).op == 10, (doo (look u).op (look u).x (cyc s u)).2) := by
 unfold step
 have e1 : (cyc s u).st = 1 := h1
 have e2 : look (cyc s u) = look u := rfl
 rw [if_pos e1, e2, if_pos h2, if_pos h3]
theorem step_bd (u : VS) (s : Int) (h1 : u.st = 1) (h2 : (look u).f = 0) (h3 : (doo (look u).op (look u).x (cyc s u)).1 ≠ 0) : step (cyc s u) = (false, fail (doo (look u).op (look u).x (cyc s u)).1 (cyc s u)) := by
 unfold step
 have e1 : (cyc s u).st = 1 := h1
 have e2 : look (cyc s u) = look u := rfl
 rw [if_pos e1, e2, if_pos h2, if_neg h3]
theorem step_lk (u : VS) (s : Int) (h1 : u.st = 1) (h2 : (look u).f ≠ 0) : step (cyc s u) = (false, fail (look u).f (cyc s u)) := by
 unfold step
 have e1 : (cyc s u).st = 1 := h1
 have e2 : look (cyc s u) = look u := rfl
 rw [if_pos e1, e2, if_neg h2]
theorem doo_ne3 (op : Nat) (x : Int) (v : VS) (h1 : v.st = 1) (h3 : (doo op x v).1 = 0) : (doo op x v).2.st ≠ 3 := by
 unfold doo at h3 ⊢
 simp only at h3 ⊢
 rw [if_pos h3]
 rcases (dn_st op x (beh v.pc op) v).1 with e | e
 ·show (dn op x (beh v.pc op) v).v.st ≠ 3
  rw [e, h1]; decide
 ·show (dn op x (beh v.pc op) v).v.st ≠ 3
  rw [e]; decide
theorem sizeOt : (Tryz.prog.info? 160).map (·.size) = some 7 := by kernel_rfl
theorem rframe_any (pad : UInt8) (B : Int) (b0 : 4 <= B) (b1 : B <= 16384) (g b : Nat) (kv dv rv : Value) (F : Nat -> Prop) (v : VS) (W : World) (h : RX W g b kv dv rv F v) (R : WK) (hR : frame v (M.bt pad) B = R) :
  Calls Tryz.prog 63 #[.pointer (some ⟨g, 0, none⟩), .int .u8 (M.bt pad), .int .i64 B] W fun e W' => ∃ p1 c1 p2 c2 z, (R.v.st = 1 -> z = R.v.m.cyc) /\ e = .returned (.tuple #[.agg #[.int .i64 R.v.st, .int .i64 R.v.fa, .int .i64 R.steps, .int .i64 R.spent, .int .i64 (B - R.spent), .slice p1 R.v.m.scr.length c1, .slice p2 R.v.m.tones.length c2], .int .i64 0]) /\ M.Row W' W.heap.size (.slice p1 R.v.m.scr.length c1) R.v.m.scr /\ M.TRow W' W.heap.size (.slice p2 R.v.m.tones.length c2) R.v.m.tones /\ RY W W' g b kv F (cyc z R.v) := by
 obtain ⟨W1, hW1⟩ : ∃ y, W.alloc (.cells #[.int .i64 0, .int .i64 0, .int .i64 0, .int .i64 0, .int .i64 0, .slice none 0 0, .slice none 0 0] 160) = y := ⟨_, rfl⟩
 have b01 : Below W.heap.size W W1 := by rw [<- hW1]; exact P.bel_alloc W _
 have n01 : W1.heap[W.heap.size]? = some (.cells #[.int .i64 0, .int .i64 0, .int .i64 0, .int .i64 0, .int .i64 0, .slice none 0 0, .slice none 0 0] 160 (0, 0)) := by rw [<- hW1]; exact heap_alloc_new W _
 have hx1 := h.below b01
 have c6 := hx1.c6
 have kB := M.rbegin_any b pad W1 hx1.mem
 have i1 : ¬ B < 4 := by omega
 have i2 : ¬ 16384 < B := by omega
 have H1 : Hid _ := And.intro hx1 (And.intro b01 n01)
 have H0 : Hid _ := h
 have HR : Hid _ := hR
 have HW1 : Hid _ := hW1
 clear hx1 b01 n01 h hR hW1
 go_enter Tryz.func63, Tryz.ntmps63
 go_upto_region 1 with fail
 try rw [HW1.out]
 go_wp2_with fail
 refine kB.mono ?_
 rintro e w2 ⟨rfl, hRD⟩
 have hx2 := H1.out.1.goes hRD
 obtain ⟨w3, hw3⟩ : ∃ y, w2.alloc (.cells #[.int .i64 0, .int .i64 0, .int .i64 0, .int .i64 0, .int .i64 0, .slice none 0 0, .slice none 0 0] 160) = y := ⟨_, rfl⟩
 obtain ⟨no, hno⟩ : ∃ n, w2.heap.size = n := ⟨_, rfl⟩
 have b23 : Below w2.heap.size w2 w3 := by rw [<- hw3]; exact P.bel_alloc w2 _
 have n3 : w3.heap[w2.heap.size]? = some (.cells #[.int .i64 0, .int .i64 0, .int .i64 0, .int .i64 0, .int .i64 0, .slice none 0 0, .slice none 0 0] 160 (0, 0)) := by rw [<- hw3]; exact heap_alloc_new w2 _
 rw [hno] at n3
 have zW : W.heap.size < w2.heap.size := Nat.lt_of_lt_of_le (S.lt_of H1.out.2.2) hRD.2.size
 have HI : Hid (FR W w3 g b no kv F B R B.toNat { v with m := M.bg v.m (M.bt pad) } 0 0) := by
  refine ⟨by omega, by omega, by omega, by omega, HR.out.symm, ⟨⟨dv, rv, _, ?_, ?_, ?_, hx2.below b23⟩, n3, ?_, by omega, ?_, H0.out.fb, H0.out.lt⟩, ?_⟩
  ·intro k f
   have hlt := hx2.fb k f; refine ⟨?_, by omega⟩
   rcases f with f | ⟨f, _⟩
   ·exact .inl f
   ·exact .inr (by have := S.lt_of H1.out.2.2; omega)
  ·intro k e
   refine ⟨.inr ?_, ?_⟩
   ·rcases e with e | e
    ·exact ⟨dv, .inl H0.out.c4, e⟩
    ·exact ⟨rv, .inr H0.out.c5, e⟩
   ·have := (H0.out.ck k (.inr e)).1; omega
  ·intro k e
   have := (H0.out.ck k (.inl e)).1; omega
  ·have t1 : S.Tc (TX8 g F) W W1 := S.Tc.of_below H1.out.2.1 fun i a c => by omega
   have t2 : S.Tc F W1 w2 := ⟨hRD.2.os, hRD.2.tape, hRD.2.output, hRD.2.size, hRD.2.block⟩
   have t3 : S.Tc (TX8 g F) w2 w3 := S.Tc.of_below b23 fun i a c => by omega
   exact (t1.trans t2 (fun _ f => f) (fun _ _ f => .inr f)).trans t3 (fun _ f => f) (fun _ _ f => f)
  ·rw [b23.block _ zW, hRD.2.block _ (S.lt_of H1.out.2.2) (fun f => by have := H0.out.fb _ f; omega)]
   exact H1.out.2.2
  ·show (((M.bg v.m (M.bt pad)).tones.length : Nat) : Int) <= 3 * 0
   exact Int.le_refl _
 have HW3 : Hid _ := And.intro hw3 hno
 clear kB hRD hx2 hw3 hno b23 n3 zW c6 i1 i2
 go_upto_block 0 with fail
 try rw [HW3.out.1]
 try rw [HW3.out.2]
 go_cut [9, 10, 11, 12] (fun _ _ _ _ wz => ∃ z, (R.v.st = 1 -> z = R.v.m.cyc) /\ FI W wz g b no kv F (cyc z R.v) [.int .i64 0, .int .i64 0, .int .i64 R.steps, .int .i64 R.spent, .int .i64 0, .slice none 0 0, .slice none 0 0])
 case first =>
  as_aux_lemma =>
   go_wp2_with fail
   go_loopw [12] (fun _ wr => ∃ (k : Nat) (u : VS) (n s : Int), FR W wr g b no kv F B R k u n s) (fun _ wr => (B - intOf ((wr.cell? ⟨no, 3, none⟩).getD (.int .i64 0))).toNat)
   case atStart => exact ⟨_, _, _, _, HI.out⟩
   case round =>
    as_aux_lemma =>
     clear HI H0 H1 HW1 HW3 HR; obtain ⟨k, u, n, s, hF⟩ := hrel; have HF : Hid _ := hF
     have HT : Hid (u.m.tones.length <= 900000) := by
      show u.m.tones.length <= 900000
      have h1 := hF.t; have h2 := hF.ns; have h3 := hF.sB
      omega
     have m0 := hF.n0; have m1 := hF.ns; have m2 := hF.sB; obtain ⟨dv1, rv1, F1, _, _, _, hx⟩ := hF.d.x; have c2 := hx.c2; have c3 := (hF.d.cell 3 _ rfl).1
     by_cases q : u.st = 1 /\ s < B
     case neg =>
      have HEX : Hid (∃ z, (R.v.st = 1 -> z = R.v.m.cyc) /\ FI W wr g b no kv F (cyc z R.v) [.int .i64 0, .int .i64 0, .int .i64 R.steps, .int .i64 R.spent, .int .i64 0, .slice none 0 0, .slice none 0 0]) := by
       have e : R = ⟨u, n, s⟩ := by rw [HF.out.eq, wk_end k B u n s q]
       rw [e]; exact ⟨u.m.cyc, fun _ => rfl, HF.out.d⟩
      clear hx hF
      by_cases q1 : u.st = 1
      ·have e1 : (u.st == 1) = true := by simpa using q1
       have e2 : ¬ s < B := fun c => q ⟨q1, c⟩
       clear q; go_wp2; go_meet
       case rel => exact HEX.out
      ·have e1 : (u.st == 1) = false := by simpa using q1
       clear q; go_wp2; go_meet
       case rel => exact HEX.out
     obtain ⟨q1, q2⟩ := q; have e1 : (u.st == 1) = true := by simpa using q1
     obtain ⟨k', hk'⟩ : ∃ j, k = j + 1 := ⟨k - 1, by have := hF.kk; omega⟩
     subst hk'; have kL := rlook_any g b kv dv1 rv1 F1 u wr hx; obtain ⟨⟨op, x, f⟩, hL⟩ : ∃ L, look u = L := ⟨_, rfl⟩
     rw [hL] at kL; dsimp only at kL; have wB : IntKind.i64.wrap (B - s) = B - s := IntWalk.i64_in _ (by omega); have HLK : Hid _ := And.intro hL (And.intro q1 q2); clear hx hF hL; go_wp2_with fail
     refine kL.mono ?_; rintro e wl ⟨rfl, hba⟩; have HL := S.hid (HF.out.d.next hba); clear kL hba c2 c3 e1
     by_cases hf : f = 0
     ·subst hf
      obtain ⟨o1, o2⟩ : 1 <= op /\ op <= 63 := by
       have := look_ok u q1 (by rw [HLK.out.1]); rw [HLK.out.1] at this; dsimp only at this; exact ⟨this.1, by have := this.2.1; omega⟩
      have kC := fun w => co_any op o1 o2 w
      have rr := rc_r op; obtain ⟨co, hco⟩ : ∃ c, P.rc op = c := ⟨_, rfl⟩
      rw [hco] at kC rr; have HCO : Hid _ := hco; clear hco; have c3 := (HL.out.cell 3 _ rfl).1; have HBd : Hid (Below wl.heap.size wl wl.drew) := ⟨rfl, rfl, rfl, Nat.le_refl _, fun _ _ => rfl⟩
      have hS : ∀ X : World, Below wl.heap.size wl X -> (fun wz : World => wz.cell? ⟨no, 3, none⟩ = some (.int .i64 s)) X := fun X hX => by show X.cell? ⟨no, 3, none⟩ = some (.int .i64 s); rw [hX.cell (World.block_lt_of_cell? wl _ c3)]; exact c3
      have HS : Hid _ := hS; have HA := S.hid (HL.out.next HBd.out); clear c3 hS; go_upto_region 7 with fail
      refine V.wrh HS.out HBd.out (by kernel_rfl) (fun hHeld => ?_); generalize wl.drew = wa at *
      have s7 : (fun wz : World => wz.cell? ⟨no, 3, none⟩ = some (.int .i64 s)) wa := (HA.out.cell 3 _ rfl).1; refine wtk0 (is := [0, 1, 2, 3, 5, 6, 7, 8]) ?_
      iterate 8
       refine V.wt (v := ?_) rfl (by kernel_rfl) (fun c a w h => h) (by rfl) ?_ hHeld ?_
       rotate_left
       ·(intro w hSw; (try dsimp only at hSw); go_simp; try with_reducible rfl)
       simp only [V.pts]
      refine wtkE ?_; refine V.wrd 4 (by kernel_rfl) rfl fun K hK => ?_
      go_simp; refine (kC _).mono ?_; rintro e wx ⟨rfl, hwx⟩; dsimp only; rw [hwx]; clear hwx wx; refine hK.out _ _ s7 (fun hHeld => ?_); clear hK K; try simp only [V.pts]
      refine wtk0 (is := [9, 10]) ?_
      iterate 2
       refine V.wt (v := ?_) rfl (by kernel_rfl) (fun c a w h => h) (by rfl) ?_ hHeld ?_
       rotate_left
       ·(intro w hSw; (try dsimp only at hSw); go_simp; try with_reducible rfl)
       simp only [V.pts]
      refine wtkE ?_; refine wpAnyH_done (by kernel_rfl) ?_ _; clear hHeld HS s7 HL HBd
      by_cases hc : B - s < co
      ·have HEX : Hid (∃ z, (R.v.st = 1 -> z = R.v.m.cyc) /\ FI W wa g b no kv F (cyc z R.v) [.int .i64 0, .int .i64 0, .int .i64 R.steps, .int .i64 R.spent, .int .i64 0, .slice none 0 0, .slice none 0 0]) := by
        have e : R = ⟨u, n, s⟩ := by
         rw [HF.out.eq]; unfold wk; rw [if_pos ⟨HLK.out.2.1, HLK.out.2.2⟩, HLK.out.1, if_pos rfl, HCO.out, if_pos hc]
        rw [e]; exact ⟨u.m.cyc, fun _ => rfl, HA.out⟩
       clear kC; go_wp2; go_meet
       case rel => exact HEX.out
      have hc' : ¬ B - s < co := hc; obtain ⟨dvc, rvc, Fc, _, _, _, hxc⟩ := HA.out.x; have c6 := hxc.c6; have c3 := (HA.out.cell 3 _ rfl).1; have HBd : Hid (Below wa.heap.size wa wa.drew) := ⟨rfl, rfl, rfl, Nat.le_refl _, fun _ _ => rfl⟩
      have hS : ∀ X : World, Below wa.heap.size wa X -> (fun wz : World => wz.cell? ⟨g, 6, none⟩ = some (.pointer (some ⟨b, 0, none⟩)) /\ wz.cell? ⟨no, 3, none⟩ = some (.int .i64 s)) X := fun X hX => ⟨by rw [hX.cell (World.block_lt_of_cell? wa _ c6)]; exact c6, by rw [hX.cell (World.block_lt_of_cell? wa _ c3)]; exact c3⟩
      have HS : Hid _ := hS; have HAd := S.hid (HA.out.next HBd.out); clear c6 c3 hS hxc; go_upto_region 8 with fail
      refine V.wrh HS.out HBd.out (by kernel_rfl) (fun hHeld => ?_); generalize wa.drew = wd at *
      obtain ⟨cu, hcu⟩ : ∃ c, wd.cell? ⟨b, 8, none⟩ = some c := by
       obtain ⟨dvc, rvc, Fc, _, _, _, hxc⟩ := HAd.out.x; exact (M.rcycle b s wd hxc.mem).1
      have hcf : wd.frozen? ⟨b, 8, none⟩ = false := by
       obtain ⟨dvc, rvc, Fc, _, _, _, hxc⟩ := HAd.out.x; exact (M.rcycle b s wd hxc.mem).2.1
      have HBk := S.hid (show FI W (wd.setCell ⟨b, 8, none⟩ (.int .i64 s)) g b no kv F (cyc s u) [.int .i64 0, .int .i64 0, .int .i64 n, .int .i64 s, .int .i64 0, .slice none 0 0, .slice none 0 0] from HAd.out.goes fun F' hm => (M.rcycle b s wd hm).2.2)
      have s8 : (fun wz : World => wz.cell? ⟨g, 6, none⟩ = some (.pointer (some ⟨b, 0, none⟩)) /\ wz.cell? ⟨no, 3, none⟩ = some (.int .i64 s)) (wd.setCell ⟨b, 8, none⟩ (.int .i64 s)) := by
       obtain ⟨dvc, rvc, Fc, _, _, _, hxc⟩ := HBk.out.x; exact ⟨hxc.c6, (HBk.out.cell 3 _ rfl).1⟩
      refine wtk0 (is := [0, 1, 2, 3, 4, 5, 6, 7]) ?_
      iterate 8
       refine V.wt (v := ?_) rfl (by kernel_rfl) (fun c a w h => h) (by rfl) ?_ hHeld ?_
       rotate_left
       ·(intro w hSw; (try dsimp only at hSw); go_simp; try with_reducible rfl)
       simp only [V.pts]
      refine wtkE ?_; refine V.wrd 8 (by kernel_rfl) rfl fun K hK => ?_
      go_simp; refine hK.out _ _ s8 (fun hHeld => ?_); clear hK K; try simp only [V.pts]
      refine wpAnyH_done (by kernel_rfl) ?_ _; clear hHeld HS s8 hcu hcf; generalize wd.setCell ⟨b, 8, none⟩ (.int .i64 s) = wb at *
      by_cases hd : (doo op x (cyc s u)).1 = 0
      ·have hst : step (cyc s u) = (op == 10, (doo op x (cyc s u)).2) := by
        have := step_ok u s q1 (by rw [HLK.out.1]) (by rw [HLK.out.1]; exact hd); rw [HLK.out.1] at this; exact this
       have h3 := doo_ne3 op x (cyc s u) q1 hd; have htn := doo_tones op x (cyc s u)
       have hwk : R = if op = 10 then (⟨(doo op x (cyc s u)).2, n + 1, s + co⟩ : WK) else wk k' B (doo op x (cyc s u)).2 (n + 1) (s + co) := by
        rw [HF.out.eq]
        conv => lhs; unfold wk
        rw [if_pos ⟨HLK.out.2.1, HLK.out.2.2⟩, HLK.out.1, if_pos rfl, HCO.out, if_neg hc]
        show (if (doo op x (cyc s u)).1 = 0 then _ else _) = _
        rw [if_pos hd]
       obtain ⟨u2, hu2⟩ : ∃ v, (doo op x (cyc s u)).2 = v := ⟨_, rfl⟩
       rw [hu2] at hst h3 htn hwk; have HWK : Hid _ := hwk; have HTN : Hid (u2.m.tones.length <= u.m.tones.length + 3) := htn; have e3 : (u2.st == 3) = false := by simpa using h3
       clear hwk htn h3 hu2 hd; obtain ⟨dvs, rvs, Fs, y1, y2, y3, hxs⟩ := HBk.out.x; have kS := rstep_any g b kv dvs rvs Fs (cyc s u) (by show u.m.tones.length <= 999000; have := HT.out; omega) wb hxs; rw [hst] at kS; dsimp only at kS; have HXS := S.hid (And.intro y1 (And.intro y2 (And.intro y3 hxs))); clear y1 y2 y3 hxs; go_wp2_with fail
       refine kS.mono ?_; rintro e wn ⟨rfl, hY⟩; have HN := S.hid (HBk.out.step dvs rvs Fs HXS.out.1 HXS.out.2.1 HXS.out.2.2.1 HXS.out.2.2.2 hY); clear kS hY HXS HBk; obtain ⟨dvn, rvn, Fn, _, _, _, hxn⟩ := HN.out.x; have c2 := hxn.c2; clear hxn; have d3 := (HN.out.cell 3 _ rfl).1; have HBd : Hid (Below wn.heap.size wn wn.drew) := ⟨rfl, rfl, rfl, Nat.le_refl _, fun _ _ => rfl⟩
       have HNd := S.hid (HN.out.next HBd.out); have w11 : IntKind.i64.wrap (s + co) = s + co := IntWalk.i64_in _ (by omega); have w12 : IntKind.i64.wrap (n + 1) = n + 1 := IntWalk.i64_in _ (by omega); go_upto_region 11 with fail
       clear c2 e3 d3; refine wp_region_drop [6] (S := (fun wz : World => wz.cell? ⟨no, 3, none⟩ = some (.int .i64 s))) (by kernel_rfl) ((HNd.out.cell 3 _ rfl).1) (fun hHeld => ?_); generalize wn.drew = wd at *
       refine wpD_take (i := 0) (v := ?_) rfl (by kernel_rfl) (by kernel_rfl) (by kernel_rfl) (by kernel_rfl) (by kernel_rfl) (fun c a w h => h) (Or.inl ⟨by rfl, ?_⟩) hHeld ?_
       rotate_left
       ·(intro w hSw; (try dsimp only at hSw); go_simp; try with_reducible rfl)
       simp only [V.pts]; refine wpD_take (i := 1) (v := ?_) rfl (by kernel_rfl) (by kernel_rfl) (by kernel_rfl) (by kernel_rfl) (by kernel_rfl) (fun c a w h => h) (Or.inl ⟨by rfl, ?_⟩) hHeld ?_
       rotate_left
       ·(intro w hSw; (try dsimp only at hSw); go_simp; try with_reducible rfl)
       simp only [V.pts]; refine wpD_take (i := 2) (v := ?_) rfl (by kernel_rfl) (by kernel_rfl) (by kernel_rfl) (by kernel_rfl) (by kernel_rfl) (fun c a w h => h) (Or.inl ⟨by rfl, ?_⟩) hHeld ?_
       rotate_left
       ·(intro w hSw; (try dsimp only at hSw); go_simp; try with_reducible rfl)
       simp only [V.pts]; refine wpD_ready (rs := [3]) (by kernel_rfl) (by simp) ?_; refine AllD.cons rfl (fun K hK => ?_) AllD.nil; go_simp; refine (kC _).mono ?_; rintro e wx ⟨rfl, hwx⟩; dsimp only; rw [hwx]; clear hwx wx; refine hK.out _ _ ((HNd.out.cell 3 _ rfl).1) (fun hHeld => ?_); clear hK K; try simp only [V.pts]
       refine wpD_take (i := 4) (v := ?_) rfl (by kernel_rfl) (by kernel_rfl) (by kernel_rfl) (by kernel_rfl) (by kernel_rfl) (fun c a w h => h) (Or.inl ⟨by rfl, ?_⟩) hHeld ?_
       rotate_left
       ·(intro w hSw; (try dsimp only at hSw); go_simp; try with_reducible rfl)
       simp only [V.pts]; refine wpD_take (i := 5) (v := ?_) rfl (by kernel_rfl) (by kernel_rfl) (by kernel_rfl) (by kernel_rfl) (by kernel_rfl) (fun c a w h => h) (Or.inl ⟨by rfl, ?_⟩) hHeld ?_
       rotate_left
       ·(intro w hSw; (try dsimp only at hSw); go_simp; try with_reducible rfl)
       simp only [V.pts]; have d3 : wd.cell? ⟨no, 3, none⟩ = some (.int .i64 s) := hHeld; have g3 := (HNd.out.cell 3 _ rfl).2; refine wpD_ready (rs := [6]) (by kernel_rfl) (by simp) ?_; refine AllD.late rfl (by kernel_rfl) (fun K hK => ?_); go_simp; refine hK.out _ _ ?_; clear hK K; try simp only [V.pts]
       refine wpD_done (by kernel_rfl) ?_ _; have HM := S.hid (HNd.out.set 3 (.int .i64 (s + co))); clear d3 g3 HNd HN kC; generalize wd.setCell ⟨no, 3, none⟩ (.int .i64 (s + co)) = we at *
       have d2 := (HM.out.cell 2 _ rfl).1; have g2 := (HM.out.cell 2 _ rfl).2; have HM2 := S.hid (HM.out.set 2 (.int .i64 (n + 1))); have m3 : (we.setCell ⟨no, 2, none⟩ (.int .i64 (n + 1))).cell? ⟨no, 3, none⟩ = some (.int .i64 (s + co)) := (HM2.out.cell 3 _ rfl).1; have HMC : Hid _ := m3; clear m3
       by_cases hy : op = 10
       ·have e10 : (op == 10) = true := by simp [hy]
        have HEX : Hid (∃ z, (R.v.st = 1 -> z = R.v.m.cyc) /\ FI W (we.setCell ⟨no, 2, none⟩ (.int .i64 (n + 1))) g b no kv F (cyc z R.v) [.int .i64 0, .int .i64 0, .int .i64 R.steps, .int .i64 R.spent, .int .i64 0, .slice none 0 0, .slice none 0 0]) := by
         have e := HWK.out; rw [if_pos hy] at e; rw [e]; exact ⟨u2.m.cyc, fun _ => rfl, HM2.out⟩
        rw [e10]; go_wp2; go_meet
        case rel => exact HEX.out
       ·have e10 : (op == 10) = false := by simp [hy]
        have HFR : Hid (FR W (we.setCell ⟨no, 2, none⟩ (.int .i64 (n + 1))) g b no kv F B R k' u2 (n + 1) (s + co)) := by
         have e := HWK.out; rw [if_neg hy] at e; have h1 := HF.out.kk; have h2 := HF.out.t; have h3 := HTN.out; exact ⟨by omega, by omega, by omega, by omega, e, HM2.out, by omega⟩
        rw [e10]; go_wp2; go_roundw
        case rel => exact ⟨k', u2, n + 1, s + co, HFR.out⟩
        case measure =>
         rw [HMC.out, (HF.out.d.cell 3 _ rfl).1]
         simp [intOf]
         omega
      ·have hst : step (cyc s u) = (false, fail (doo op x (cyc s u)).1 (cyc s u)) := by
        have := step_bd u s q1 (by rw [HLK.out.1]) (by rw [HLK.out.1]; exact hd); rw [HLK.out.1] at this; exact this
       obtain ⟨ff, hff⟩ : ∃ f, (doo op x (cyc s u)).1 = f := ⟨_, rfl⟩
       have hwk : R = ⟨fail ff (cyc s u), n, s⟩ := by
        rw [HF.out.eq]
        conv => lhs; unfold wk
        rw [if_pos ⟨HLK.out.2.1, HLK.out.2.2⟩, HLK.out.1, if_pos rfl, HCO.out, if_neg hc]
        show (if (doo op x (cyc s u)).1 = 0 then _ else _) = _
        rw [if_neg hd, <- hff]
       rw [hff] at hst; have HWK : Hid _ := hwk; clear hwk hff hd kC; obtain ⟨dvs, rvs, Fs, y1, y2, y3, hxs⟩ := HBk.out.x; have kS := rstep_any g b kv dvs rvs Fs (cyc s u) (by show u.m.tones.length <= 999000; have := HT.out; omega) wb hxs; rw [hst] at kS; dsimp only at kS; have HXS := S.hid (And.intro y1 (And.intro y2 (And.intro y3 hxs))); clear y1 y2 y3 hxs; go_wp2_with fail
       refine kS.mono ?_; rintro e wn ⟨rfl, hY⟩; have HN := S.hid (HBk.out.step dvs rvs Fs HXS.out.1 HXS.out.2.1 HXS.out.2.2.1 HXS.out.2.2.2 hY); clear kS hY HXS HBk; obtain ⟨dvn, rvn, Fn, _, _, _, hxn⟩ := HN.out.x; have c2 := hxn.c2; clear hxn; have c2' : wn.cell? ⟨g, 2, none⟩ = some (.int .i64 3) := c2; clear c2
       have HEX : Hid (∃ z, (R.v.st = 1 -> z = R.v.m.cyc) /\ FI W wn g b no kv F (cyc z R.v) [.int .i64 0, .int .i64 0, .int .i64 R.steps, .int .i64 R.spent, .int .i64 0, .slice none 0 0, .slice none 0 0]) := by
        rw [HWK.out]; exact ⟨s, fun h => absurd h (show ¬ (3 : Int) = 1 by decide), HN.out⟩
       go_wp2; go_meet
       case rel => exact HEX.out
     ·have ef : (f == 0) = false := by simpa using hf
      have c3 := (HL.out.cell 3 _ rfl).1; have HBd : Hid (Below wl.heap.size wl wl.drew) := ⟨rfl, rfl, rfl, Nat.le_refl _, fun _ _ => rfl⟩
      have hS : ∀ X : World, Below wl.heap.size wl X -> (fun wz : World => wz.cell? ⟨no, 3, none⟩ = some (.int .i64 s)) X := fun X hX => by show X.cell? ⟨no, 3, none⟩ = some (.int .i64 s); rw [hX.cell (World.block_lt_of_cell? wl _ c3)]; exact c3
      have HS : Hid _ := hS; have HA := S.hid (HL.out.next HBd.out); clear c3 hS; go_upto_region 7 with fail
      refine V.wrh HS.out HBd.out (by kernel_rfl) (fun hHeld => ?_); generalize wl.drew = wa at *
      have s7 : (fun wz : World => wz.cell? ⟨no, 3, none⟩ = some (.int .i64 s)) wa := (HA.out.cell 3 _ rfl).1; refine wtk0 (is := [0, 1, 2]) ?_
      iterate 3
       refine V.wt (v := ?_) rfl (by kernel_rfl) (fun c a w h => h) (by rfl) ?_ hHeld ?_
       rotate_left
       ·(intro w hSw; (try dsimp only at hSw); go_simp; try with_reducible rfl)
       simp only [V.pts]
      refine wtkE ?_; refine wpAnyH_take (i := 3) (v := undef) rfl (by kernel_rfl) (by kernel_rfl) (by kernel_rfl) (fun c a w h => h) (Or.inr ⟨by rfl, rfl⟩) hHeld ?_; try simp only [V.pts]
      refine wpAnyH_take (i := 4) (v := undef) rfl (by kernel_rfl) (by kernel_rfl) (by kernel_rfl) (fun c a w h => h) (Or.inr ⟨by rfl, rfl⟩) hHeld ?_; try simp only [V.pts]
      refine wpAnyH_take (i := 5) (v := undef) rfl (by kernel_rfl) (by kernel_rfl) (by kernel_rfl) (fun c a w h => h) (Or.inr ⟨by rfl, rfl⟩) hHeld ?_; try simp only [V.pts]
      refine wpAnyH_take (i := 6) (v := undef) rfl (by kernel_rfl) (by kernel_rfl) (by kernel_rfl) (fun c a w h => h) (Or.inr ⟨by rfl, rfl⟩) hHeld ?_; try simp only [V.pts]
      refine wpAnyH_take (i := 7) (v := undef) rfl (by kernel_rfl) (by kernel_rfl) (by kernel_rfl) (fun c a w h => h) (Or.inr ⟨by rfl, rfl⟩) hHeld ?_; try simp only [V.pts]
      refine wpAnyH_take (i := 8) (v := undef) rfl (by kernel_rfl) (by kernel_rfl) (by kernel_rfl) (fun c a w h => h) (Or.inr ⟨by rfl, rfl⟩) hHeld ?_; try simp only [V.pts]
      refine wpAnyH_take (i := 9) (v := undef) rfl (by kernel_rfl) (by kernel_rfl) (by kernel_rfl) (fun c a w h => h) (Or.inr ⟨by rfl, rfl⟩) hHeld ?_; try simp only [V.pts]
      refine V.wt1 10 (v := ?_) rfl (by kernel_rfl) (fun c a w h => h) (by rfl) ?_ hHeld ?_
      rotate_left
      ·(intro w hSw; (try dsimp only at hSw); go_simp; try with_reducible rfl)
      simp only [V.pts]; refine wpAnyH_done (by kernel_rfl) ?_ _; clear hHeld HS s7 HL HBd; obtain ⟨dvc, rvc, Fc, _, _, _, hxc⟩ := HA.out.x; have c6 := hxc.c6; have c3 := (HA.out.cell 3 _ rfl).1; have HBd : Hid (Below wa.heap.size wa wa.drew) := ⟨rfl, rfl, rfl, Nat.le_refl _, fun _ _ => rfl⟩
      have hS : ∀ X : World, Below wa.heap.size wa X -> (fun wz : World => wz.cell? ⟨g, 6, none⟩ = some (.pointer (some ⟨b, 0, none⟩)) /\ wz.cell? ⟨no, 3, none⟩ = some (.int .i64 s)) X := fun X hX => ⟨by rw [hX.cell (World.block_lt_of_cell? wa _ c6)]; exact c6, by rw [hX.cell (World.block_lt_of_cell? wa _ c3)]; exact c3⟩
      have HS : Hid _ := hS; have HAd := S.hid (HA.out.next HBd.out); clear c6 c3 hS hxc; go_upto_region 8 with fail
      refine V.wrh HS.out HBd.out (by kernel_rfl) (fun hHeld => ?_); generalize wa.drew = wd at *
      obtain ⟨cu, hcu⟩ : ∃ c, wd.cell? ⟨b, 8, none⟩ = some c := by
       obtain ⟨dvc, rvc, Fc, _, _, _, hxc⟩ := HAd.out.x; exact (M.rcycle b s wd hxc.mem).1
      have hcf : wd.frozen? ⟨b, 8, none⟩ = false := by
       obtain ⟨dvc, rvc, Fc, _, _, _, hxc⟩ := HAd.out.x; exact (M.rcycle b s wd hxc.mem).2.1
      have HBk := S.hid (show FI W (wd.setCell ⟨b, 8, none⟩ (.int .i64 s)) g b no kv F (cyc s u) [.int .i64 0, .int .i64 0, .int .i64 n, .int .i64 s, .int .i64 0, .slice none 0 0, .slice none 0 0] from HAd.out.goes fun F' hm => (M.rcycle b s wd hm).2.2)
      have s8 : (fun wz : World => wz.cell? ⟨g, 6, none⟩ = some (.pointer (some ⟨b, 0, none⟩)) /\ wz.cell? ⟨no, 3, none⟩ = some (.int .i64 s)) (wd.setCell ⟨b, 8, none⟩ (.int .i64 s)) := by
       obtain ⟨dvc, rvc, Fc, _, _, _, hxc⟩ := HBk.out.x; exact ⟨hxc.c6, (HBk.out.cell 3 _ rfl).1⟩
      refine wtk0 (is := [0, 1, 2, 3, 4, 5, 6, 7]) ?_
      iterate 8
       refine V.wt (v := ?_) rfl (by kernel_rfl) (fun c a w h => h) (by rfl) ?_ hHeld ?_
       rotate_left
       ·(intro w hSw; (try dsimp only at hSw); go_simp; try with_reducible rfl)
       simp only [V.pts]
      refine wtkE ?_; refine V.wrd 8 (by kernel_rfl) rfl fun K hK => ?_
      go_simp; refine hK.out _ _ s8 (fun hHeld => ?_); clear hK K; try simp only [V.pts]
      refine wpAnyH_done (by kernel_rfl) ?_ _; clear hHeld HS s8 hcu hcf; generalize wd.setCell ⟨b, 8, none⟩ (.int .i64 s) = wb at *
      have hst : step (cyc s u) = (false, fail f (cyc s u)) := by
       have := step_lk u s q1 (by rw [HLK.out.1]; exact hf); rw [HLK.out.1] at this; exact this
      have hwk : R = ⟨fail f u, n, s⟩ := by
       rw [HF.out.eq]; unfold wk; rw [if_pos ⟨HLK.out.2.1, HLK.out.2.2⟩, HLK.out.1, if_neg hf]
      have HWK : Hid _ := hwk; clear hwk; obtain ⟨dvs, rvs, Fs, y1, y2, y3, hxs⟩ := HBk.out.x; have kS := rstep_any g b kv dvs rvs Fs (cyc s u) (by show u.m.tones.length <= 999000; have := HT.out; omega) wb hxs; rw [hst] at kS; dsimp only at kS; have HXS := S.hid (And.intro y1 (And.intro y2 (And.intro y3 hxs))); clear y1 y2 y3 hxs; go_wp2_with fail
      refine kS.mono ?_; rintro e wn ⟨rfl, hY⟩; have HN := S.hid (HBk.out.step dvs rvs Fs HXS.out.1 HXS.out.2.1 HXS.out.2.2.1 HXS.out.2.2.2 hY); clear kS hY HXS HBk; obtain ⟨dvn, rvn, Fn, _, _, _, hxn⟩ := HN.out.x; have c2 := hxn.c2; clear hxn; have c2' : wn.cell? ⟨g, 2, none⟩ = some (.int .i64 3) := c2; clear c2
      have HEX : Hid (∃ z, (R.v.st = 1 -> z = R.v.m.cyc) /\ FI W wn g b no kv F (cyc z R.v) [.int .i64 0, .int .i64 0, .int .i64 R.steps, .int .i64 R.spent, .int .i64 0, .slice none 0 0, .slice none 0 0]) := by
       rw [HWK.out]; exact ⟨s, fun h => absurd h (show ¬ (3 : Int) = 1 by decide), HN.out⟩
      go_wp2; go_meet
      case rel => exact HEX.out
 case rest =>
  as_aux_lemma =>
   obtain ⟨z, hzc, hE⟩ := hcut; have HZC : Hid _ := hzc; clear hzc; obtain ⟨u, hu⟩ : ∃ v, cyc z R.v = v := ⟨_, rfl⟩
   obtain ⟨n, hn⟩ : ∃ n, R.steps = n := ⟨_, rfl⟩
   obtain ⟨s, hs⟩ : ∃ s, R.spent = s := ⟨_, rfl⟩
   have rb := wk_r B B.toNat { v with m := M.bg v.m (M.bt pad) } 0 0 (by omega); rw [show wk B.toNat B { v with m := M.bg v.m (M.bt pad) } 0 0 = R from HR.out, hn, hs] at rb; have rt := wk_tones B B.toNat { v with m := M.bg v.m (M.bt pad) } 0 0; rw [show wk B.toNat B { v with m := M.bg v.m (M.bt pad) } 0 0 = R from HR.out] at rt
   have HTU : Hid (u.m.tones.length <= 60000) := by
    show u.m.tones.length <= 60000
    have e : u.m.tones = R.v.m.tones := by rw [<- hu]; rfl
    have e0 : (M.bg v.m (M.bt pad)).tones.length = 0 := rfl; rw [e]; simp only at rt
    omega
   rw [hu, hn, hs] at hE; have HU : Hid (u.st = R.v.st /\ u.fa = R.v.fa /\ u.m.scr = R.v.m.scr /\ u.m.tones = R.v.m.tones /\ cyc z R.v = u) := ⟨by rw [<- hu]; rfl, by rw [<- hu]; rfl, by rw [<- hu]; rfl, by rw [<- hu]; rfl, hu⟩
   have HNS : Hid _ := And.intro hn hs; have wI : IntKind.i64.wrap (B - s) = B - s := IntWalk.i64_in _ (by omega); have HE := S.hid hE; clear hE hu hn hs rb rt HI HW1 HW3; have d3 := (HE.out.cell 3 _ rfl).1; have d4 := (HE.out.cell 4 _ rfl).1; have g4 := (HE.out.cell 4 _ rfl).2; go_upto_region 15 with fail
   clear d3 d4 g4; have H14 := S.hid (HE.out.set 4 (.int .i64 (B - s))); clear HE; generalize wc.setCell ⟨no, 4, none⟩ (.int .i64 (B - s)) = w14 at *
   obtain ⟨c2, g0, d0⟩ : w14.cell? ⟨g, 2, none⟩ = some (.int .i64 u.st) /\ w14.frozen? ⟨no, 0, none⟩ = false /\ w14.cell? ⟨no, 0, none⟩ = some (.int .i64 0) := by
    obtain ⟨_, _, _, _, _, _, hx⟩ := H14.out.x; exact ⟨hx.c2, (H14.out.cell 0 _ rfl).2, (H14.out.cell 0 _ rfl).1⟩
   go_upto_region 16 with fail
   clear c2 g0 d0; have H15 := S.hid (H14.out.set 0 (.int .i64 u.st)); clear H14; generalize w14.setCell ⟨no, 0, none⟩ (.int .i64 u.st) = w15 at *
   obtain ⟨c3, g1, d1⟩ : w15.cell? ⟨g, 3, none⟩ = some (.int .i64 u.fa) /\ w15.frozen? ⟨no, 1, none⟩ = false /\ w15.cell? ⟨no, 1, none⟩ = some (.int .i64 0) := by
    obtain ⟨_, _, _, _, _, _, hx⟩ := H15.out.x; exact ⟨hx.c3, (H15.out.cell 1 _ rfl).2, (H15.out.cell 1 _ rfl).1⟩
   go_upto_region 17 with fail
   clear c3 g1 d1; have H16 := S.hid (H15.out.set 1 (.int .i64 u.fa)); clear H15; generalize w15.setCell ⟨no, 1, none⟩ (.int .i64 u.fa) = w16 at *
   have HNO : Hid (no < w16.heap.size /\ W.heap.size < no) := ⟨S.lt_of H16.out.o, H16.out.n⟩
   obtain ⟨y1, hy1⟩ : ∃ y, w16.alloc (.cells #[] 5) = y := ⟨_, rfl⟩
   have b1' : Below w16.heap.size w16 y1 := by rw [<- hy1]; exact P.bel_alloc w16 _
   have r0 : M.Row y1 w16.heap.size (.slice (some ⟨w16.heap.size, 0, none⟩) 0 0) [] := by rw [<- hy1]; exact M.row_of_alloc w16 w16.heap.size (Nat.le_refl _) [] (by simp)
   have Hy1 := S.hid (H16.out.next b1')
   obtain ⟨gc, a6, a2, s0, hsl⟩ : ∃ gc, y1.cell? ⟨g, 6, none⟩ = some (.pointer (some ⟨b, 0, none⟩)) /\ y1.cell? ⟨b, 2, none⟩ = some (.slice (some ⟨gc, 0, none⟩) 3072 3072) /\ M.Sl y1 (.slice (some ⟨gc, 0, none⟩) 3072 3072) u.m.scr /\ u.m.scr.length = 3072 := by
    obtain ⟨_, _, _, _, _, _, hx⟩ := Hy1.out.x; obtain ⟨hw, uu, gr, gc, gs, tv, hm⟩ := hx.mem; exact ⟨gc, hx.c6, S.cell_of y1 b 2 _ _ _ hm.blk rfl, M.B5.sl hm.scr hw.scr, hw.scr⟩
   have a6' : (w16.alloc (.cells #[] 5)).cell? ⟨g, 6, none⟩ = some (.pointer (some ⟨b, 0, none⟩)) := by rw [hy1]; exact a6
   have a2' : (w16.alloc (.cells #[] 5)).cell? ⟨b, 2, none⟩ = some (.slice (some ⟨gc, 0, none⟩) 3072 3072) := by rw [hy1]; exact a2
   have hl' : ([] : List UInt8).length + u.m.scr.length <= M.room := by rw [hsl]; decide
   clear hsl; have z1 := b1'.size; have HY1 : Hid _ := hy1; have HB1 : Hid _ := b1'; clear hy1 b1'; go_wp2_with (first | (at_builtin; rw [HY1.out]; refine M.wpList_append_bytes _ rfl _ _ rfl w16.heap.size _ [] rfl r0 _ u.m.scr rfl s0 hl' z1 ?_))
   intro sv y2 hr2 hg2; try rw [List.nil_append] at hr2
   have hB2 : Below w16.heap.size w16 y2 := HB1.out.trans (hg2.below (fun i e => (World.ownsRow.lt r0 i e).1) HB1.out.size); obtain ⟨p1, c1, hsv⟩ := own_fm hr2; subst hsv; have Hy2 := S.hid (H16.out.next hB2); have HRW := S.hid (And.intro hr2 hB2.size); have d5 := (Hy2.out.cell 5 _ rfl).1; have g5 := (Hy2.out.cell 5 _ rfl).2; clear hr2 hg2 hB2 a6 a6' a2 a2' s0 hl' z1 r0 Hy1 H16 HY1 HB1; go_upto_region 18 with fail
   clear d5 g5; have H17 := S.hid (Hy2.out.set 5 (.slice p1 u.m.scr.length c1))
   have HRW2 : Hid (M.Row (y2.setCell ⟨no, 5, none⟩ (.slice p1 u.m.scr.length c1)) W.heap.size (.slice p1 u.m.scr.length c1) u.m.scr) := S.own_mono (S.own_kept HRW.out.1 fun k e _ => S.setCell_other _ _ _ _ _ (by
    have h1 := (World.ownsRow.lt HRW.out.1 k e).1; have h2 := HNO.out
    omega)) (by have := HNO.out; omega)
   have HPN : Hid (∀ k, (Value.slice p1 u.m.scr.length c1).ownBlock = some k -> k ≠ no) := fun k e => by have h1 := (World.ownsRow.lt HRW.out.1 k e).1; have h2 := HNO.out; omega
   have HP1 : Hid (∀ k, (Value.slice p1 u.m.scr.length c1).ownBlock = some k -> ¬ k = W.heap.size) := fun k e => by have h1 := (World.ownsRow.lt HRW.out.1 k e).1; have h2 := HNO.out; omega
   have HPB : Hid (∀ k, (Value.slice p1 u.m.scr.length c1).ownBlock = some k -> ¬ y2.heap.size <= k) := fun k e => by have h1 := (World.ownsRow.lt HRW.out.1 k e).2; omega
   have HZ17 : Hid ((y2.setCell ⟨no, 5, none⟩ (.slice p1 u.m.scr.length c1)).heap.size = y2.heap.size /\ no < y2.heap.size) := ⟨S.setCell_size _ _ _, S.lt_of Hy2.out.o⟩
   clear Hy2; generalize y2.setCell ⟨no, 5, none⟩ (.slice p1 u.m.scr.length c1) = w17 at *
   obtain ⟨y3, hy3⟩ : ∃ y, w17.alloc (.cells #[] 66) = y := ⟨_, rfl⟩
   have b3' : Below w17.heap.size w17 y3 := by rw [<- hy3]; exact P.bel_alloc w17 _
   have r3 := S.own_empty w17 66 3; rw [hy3] at r3; have Hy3 := S.hid (H17.out.next b3')
   obtain ⟨tp, tcp, a6, a9, tcs⟩ : ∃ tp tcp, y3.cell? ⟨g, 6, none⟩ = some (.pointer (some ⟨b, 0, none⟩)) /\ y3.cell? ⟨b, 9, none⟩ = some (.slice tp u.m.tones.length tcp) /\ M.Cs y3 (.slice tp u.m.tones.length tcp) 3 u.m.tones.length (M.tc u.m.tones) := by
    obtain ⟨_, _, _, _, _, _, hx⟩ := Hy3.out.x; obtain ⟨hw, uu, gr, gc, gs, tv, hm⟩ := hx.mem; have ht : M.TRow y3 0 tv u.m.tones := hm.tones; obtain ⟨tp, tcp, e⟩ := own_fm ht; subst e; exact ⟨tp, tcp, hx.c6, S.cell_of y3 b 9 _ _ _ hm.blk rfl, ht.cs⟩
   obtain ⟨nt, hnt⟩ : ∃ n, u.m.tones.length = n := ⟨_, rfl⟩
   rw [hnt] at a9 tcs; have a6' : (w17.alloc (.cells #[] 66)).cell? ⟨g, 6, none⟩ = some (.pointer (some ⟨b, 0, none⟩)) := by rw [hy3]; exact a6
   have a9' : (w17.alloc (.cells #[] 66)).cell? ⟨b, 9, none⟩ = some (.slice tp nt tcp) := by rw [hy3]; exact a9
   have bd1 : (0 + nt) * 16 <= M.room := by have := HTU.out; unfold M.room; omega
   have bd2 : 0 + nt <= maxLen := by have := HTU.out; unfold maxLen; omega
   have z3 := b3'.size; have HY3 : Hid _ := hy3; have HB3 : Hid _ := b3'; have HNT : Hid _ := hnt; have HRW3 : Hid (M.Row y3 W.heap.size (.slice p1 u.m.scr.length c1) u.m.scr) := own_nw HRW2.out b3'; clear hy3 b3' hnt HRW HRW2; go_wp2_with (first | (at_builtin; (try rw [HY3.out]); refine M.wpList_append_row _ rfl _ _ 37 66 _ 3 16 Tryz.underlying37 M.info90 rfl (by decide) rfl w17.heap.size _ 0 [] rfl r3 _ nt (M.tc u.m.tones) rfl tcs bd1 bd2 z3 ?_))
   intro tv2 y4 hr4 hg4; try simp only [Nat.zero_add, List.nil_append] at hr4
   have hB4 : Below w17.heap.size y3 y4 := hg4.below (fun i e => (World.ownsRow.lt r3 i e).1) HB3.out.size; have hB4' : Below w17.heap.size w17 y4 := HB3.out.trans hB4; obtain ⟨p2, c2, htv⟩ := own_fm hr4; subst htv; have Hy4 := S.hid (H17.out.next hB4'); have HT4 := S.hid hr4
   have HRW4 : Hid (M.Row y4 W.heap.size (.slice p1 u.m.scr.length c1) u.m.scr) := S.own_kept HRW3.out fun k e hk => hg4.block k hk (fun c => by
    have h1 := (World.ownsRow.lt r3 k c.symm).1; have h2 := (World.ownsRow.lt HRW3.out k e).2; exact HPB.out k e (by have := HZ17.out.1; omega))
   have d6 := (Hy4.out.cell 6 _ rfl).1; have g6 := (Hy4.out.cell 6 _ rfl).2; clear hr4 hg4 hB4 hB4' a6 a6' a9 a9' tcs bd1 bd2 z3 r3 Hy3 H17 HY3 HB3 HRW3; go_upto_region 19 with fail
   clear d6 g6; have H18 := S.hid (Hy4.out.set 6 (.slice p2 nt c2)); have HNOW : Hid (no < w17.heap.size /\ W.heap.size < no) := ⟨by have := HZ17.out; omega, Hy4.out.n⟩
   have HT5 : Hid (M.TRow (y4.setCell ⟨no, 6, none⟩ (.slice p2 nt c2)) W.heap.size (.slice p2 u.m.tones.length c2) u.m.tones) := by
    rw [HNT.out]
    show (y4.setCell ⟨no, 6, none⟩ (.slice p2 nt c2)).ownsRow W.heap.size 66 3 (.slice p2 nt c2) u.m.tones.length (M.tc u.m.tones)
    rw [HNT.out]; exact S.own_mono (S.own_kept HT4.out fun k e _ => S.setCell_other _ _ _ _ _ (by have h1 := (World.ownsRow.lt HT4.out k e).1; have h2 := HNOW.out; omega)) (by have := HNOW.out; omega)
   have HRW5 : Hid (M.Row (y4.setCell ⟨no, 6, none⟩ (.slice p2 nt c2)) W.heap.size (.slice p1 u.m.scr.length c1) u.m.scr) := S.own_kept HRW4.out fun k e _ => S.setCell_other _ _ _ _ _ (HPN.out k e)
   have HP2 : Hid (∀ k, (Value.slice p2 u.m.tones.length c2).ownBlock = some k -> ¬ k = W.heap.size) := fun k e => by rw [HNT.out] at e; have h1 := (World.ownsRow.lt HT4.out k e).1; have h2 := HNOW.out; omega
   clear Hy4 HT4 HRW4; generalize y4.setCell ⟨no, 6, none⟩ (.slice p2 nt c2) = w18 at *
   have o18 := H18.out.o; have q0 := (H18.out.cell 0 _ rfl).1; have q1 := (H18.out.cell 1 _ rfl).1; have q2 := (H18.out.cell 2 _ rfl).1; have q3 := (H18.out.cell 3 _ rfl).1; have q4 := (H18.out.cell 4 _ rfl).1; have q5 := (H18.out.cell 5 _ rfl).1; have q6 := (H18.out.cell 6 _ rfl).1; have hz := H18.out.r; clear o18; go_wp2_with (refine wpList_store_row rfl 160 _ _ rfl W.heap.size _ rfl rfl 160 #[.int .i64 0, .int .i64 0, .int .i64 0, .int .i64 0, .int .i64 0, .slice none 0 0, .slice none 0 0] hz (by exact sizeOt) (by rfl) (by simp [Value.oneCell']) ?_)
   have hfin := setRow_heap w18 W.heap.size _ #[.int .i64 u.st, .int .i64 u.fa, .int .i64 n, .int .i64 s, .int .i64 (B - s), .slice p1 u.m.scr.length c1, .slice p2 nt c2] _ _ hz; have kt : S.Tc (fun k => k = W.heap.size) w18 (w18.setRow W.heap.size #[.int .i64 u.st, .int .i64 u.fa, .int .i64 n, .int .i64 s, .int .i64 (B - s), .slice p1 u.m.scr.length c1, .slice p2 nt c2]) := ⟨rfl, rfl, rfl, Nat.le_of_eq (by simp), fun k hk hne => setRow_other w18 W.heap.size k _ hne⟩
   have HY : Hid (RY W (w18.setRow W.heap.size #[.int .i64 u.st, .int .i64 u.fa, .int .i64 n, .int .i64 s, .int .i64 (B - s), .slice p1 u.m.scr.length c1, .slice p2 nt c2]) g b kv F u) := by
    obtain ⟨dz, rz, Fz, y1, y2, y3, hx⟩ := H18.out.x; have hgl := H18.out.gl; refine ⟨⟨dz, rz, Fz, fun k f => ?_, fun k e => ?_, hx.tc kt (by omega) (fun i f c => ?_) (fun i e c => ?_)⟩, H18.out.t.trans kt (fun _ f => f) (fun j hj f => by omega)⟩
    ·rcases (y1 k f).1 with f | f
     ·exact .inl f
     ·exact .inr (by omega)
    ·rcases (y2 k e).1 with f | f
     ·exact .inl (by omega)
     ·exact .inr f
    ·rcases (y1 i f).1 with f | f
     ·have := H18.out.fw i f; omega
     ·omega
    ·rcases e with e | e
     ·have := (H0.out.ck i (.inl e)).1; omega
     ·rcases (y2 i e).1 with f | ⟨q, hq, hu⟩
      ·omega
      ·rcases hq with hq | hq
       ·rw [H0.out.c4] at hq
        cases hq
        have := (H0.out.ck i (.inr (.inl hu))).1; omega
       ·rw [H0.out.c5] at hq
        cases hq
        have := (H0.out.ck i (.inr (.inr hu))).1; omega
   have HRW6 : Hid (M.Row (w18.setRow W.heap.size #[.int .i64 u.st, .int .i64 u.fa, .int .i64 n, .int .i64 s, .int .i64 (B - s), .slice p1 u.m.scr.length c1, .slice p2 nt c2]) W.heap.size (.slice p1 u.m.scr.length c1) u.m.scr) := S.own_kept HRW5.out fun k e hk => kt.block k hk (HP1.out k e)
   have HT6 : Hid (M.TRow (w18.setRow W.heap.size #[.int .i64 u.st, .int .i64 u.fa, .int .i64 n, .int .i64 s, .int .i64 (B - s), .slice p1 u.m.scr.length c1, .slice p2 nt c2]) W.heap.size (.slice p2 u.m.tones.length c2) u.m.tones) := S.own_kept HT5.out fun k e hk => kt.block k hk (HP2.out k e)
   clear q0 q1 q2 q3 q4 q5 q6 hz kt; go_wp2; refine bodyPost_ret (v := .tuple #[.agg #[.int .i64 u.st, .int .i64 u.fa, .int .i64 n, .int .i64 s, .int .i64 (B - s), .slice p1 u.m.scr.length c1, .slice p2 nt c2], .int .i64 0]) ?_ rfl ⟨p1, c1, p2, c2, z, HZC.out, ?_, ?_, ?_, ?_⟩
   ·rw [results_cell_tmp rfl]
    simp [asAddr, run_loadVar_row _ W.heap.size _ 160 _ _ _ hfin Tryz.underlying160 rfl sizeOt]
   ·rw [<- HU.out.1, <- HU.out.2.1, <- HU.out.2.2.1, <- HU.out.2.2.2.1, HNS.out.1, HNS.out.2, HNT.out]
   ·rw [<- HU.out.2.2.1]; exact HRW6.out
   ·rw [<- HU.out.2.2.2.1]; exact HT6.out
   ·rw [HU.out.2.2.2.2]; exact HY.out
set_option maxHeartbeats 4000000
set_option maxRecDepth 100000
theorem sameOut8 (st fa n s i : Int) (sc : List UInt8) (tn : List (Int × Int × Int)) (ht : tn.length <= 100000) (p1 p2 q1 q2 : Option Addr) (c1 c2 d1 d2 : Nat) (w : World) (B1 B2 : Nat) (h1 : M.Sl w (.slice p1 sc.length c1) sc) (h2 : M.TRow w B1 (.slice p2 tn.length c2) tn) (h3 : M.Sl w (.slice q1 sc.length d1) sc) (h4 : M.TRow w B2 (.slice q2 tn.length d2) tn) :
  Calls Tryz.prog 64 #[.agg #[.int .i64 st, .int .i64 fa, .int .i64 n, .int .i64 s, .int .i64 i, .slice p1 sc.length c1, .slice p2 tn.length c2], .agg #[.int .i64 st, .int .i64 fa, .int .i64 n, .int .i64 s, .int .i64 i, .slice q1 sc.length d1, .slice q2 tn.length d2]] w fun e w' => e = .returned (.bool true) /\ Below w.heap.size w w' := by
 obtain ⟨ns, hns⟩ : ∃ n, sc.length = n := ⟨_, rfl⟩
 obtain ⟨nt, hnt⟩ : ∃ n, tn.length = n := ⟨_, rfl⟩
 obtain ⟨W, hW⟩ : ∃ W, ((w.alloc (.cells #[.int .i64 st, .int .i64 fa, .int .i64 n, .int .i64 s, .int .i64 i, .slice p1 ns c1, .slice p2 nt c2] 160)).alloc (.cells #[.int .i64 st, .int .i64 fa, .int .i64 n, .int .i64 s, .int .i64 i, .slice q1 ns d1, .slice q2 nt d2] 39)) = W := ⟨_, rfl⟩
 have hB : Below w.heap.size w W := by rw [<- hW]; exact ((Below.refl _ w).alloc (Nat.le_refl _) _).alloc (by simp) _
 have n1 : W.heap[w.heap.size]? = some (.cells #[.int .i64 st, .int .i64 fa, .int .i64 n, .int .i64 s, .int .i64 i, .slice p1 ns c1, .slice p2 nt c2] 160 (0, 0)) := by rw [<- hW]; exact heap_alloc2_old w _ _
 have n2 : W.heap[w.heap.size + 1]? = some (.cells #[.int .i64 st, .int .i64 fa, .int .i64 n, .int .i64 s, .int .i64 i, .slice q1 ns d1, .slice q2 nt d2] 39 (0, 0)) := by rw [<- hW]; exact heap_alloc2_new w _ _
 have a0 := S.cell_of W _ 0 [.int .i64 st, .int .i64 fa, .int .i64 n, .int .i64 s, .int .i64 i, .slice p1 ns c1, .slice p2 nt c2] _ _ n1 rfl
 have a1 := S.cell_of W _ 1 [.int .i64 st, .int .i64 fa, .int .i64 n, .int .i64 s, .int .i64 i, .slice p1 ns c1, .slice p2 nt c2] _ _ n1 rfl
 have a2 := S.cell_of W _ 2 [.int .i64 st, .int .i64 fa, .int .i64 n, .int .i64 s, .int .i64 i, .slice p1 ns c1, .slice p2 nt c2] _ _ n1 rfl
 have a3 := S.cell_of W _ 3 [.int .i64 st, .int .i64 fa, .int .i64 n, .int .i64 s, .int .i64 i, .slice p1 ns c1, .slice p2 nt c2] _ _ n1 rfl
 have a4 := S.cell_of W _ 4 [.int .i64 st, .int .i64 fa, .int .i64 n, .int .i64 s, .int .i64 i, .slice p1 ns c1, .slice p2 nt c2] _ _ n1 rfl
 have a5 := S.cell_of W _ 5 [.int .i64 st, .int .i64 fa, .int .i64 n, .int .i64 s, .int .i64 i, .slice p1 ns c1, .slice p2 nt c2] _ _ n1 rfl
 have a6 := S.cell_of W _ 6 [.int .i64 st, .int .i64 fa, .int .i64 n, .int .i64 s, .int .i64 i, .slice p1 ns c1, .slice p2 nt c2] _ _ n1 rfl
 have b0 := S.cell_of W _ 0 [.int .i64 st, .int .i64 fa, .int .i64 n, .int .i64 s, .int .i64 i, .slice q1 ns d1, .slice q2 nt d2] _ _ n2 rfl
 have b1 := S.cell_of W _ 1 [.int .i64 st, .int .i64 fa, .int .i64 n, .int .i64 s, .int .i64 i, .slice q1 ns d1, .slice q2 nt d2] _ _ n2 rfl
 have b2 := S.cell_of W _ 2 [.int .i64 st, .int .i64 fa, .int .i64 n, .int .i64 s, .int .i64 i, .slice q1 ns d1, .slice q2 nt d2] _ _ n2 rfl
 have b3 := S.cell_of W _ 3 [.int .i64 st, .int .i64 fa, .int .i64 n, .int .i64 s, .int .i64 i, .slice q1 ns d1, .slice q2 nt d2] _ _ n2 rfl
 have b4 := S.cell_of W _ 4 [.int .i64 st, .int .i64 fa, .int .i64 n, .int .i64 s, .int .i64 i, .slice q1 ns d1, .slice q2 nt d2] _ _ n2 rfl
 have b5 := S.cell_of W _ 5 [.int .i64 st, .int .i64 fa, .int .i64 n, .int .i64 s, .int .i64 i, .slice q1 ns d1, .slice q2 nt d2] _ _ n2 rfl
 have b6 := S.cell_of W _ 6 [.int .i64 st, .int .i64 fa, .int .i64 n, .int .i64 s, .int .i64 i, .slice q1 ns d1, .slice q2 nt d2] _ _ n2 rfl
 have v1 := (M.Sl.below h1 hB).conv
 have v2 := (M.Sl.below h3 hB).conv
 rw [hns] at v1 v2
 have kT := M.sameTones_any _ _ tn (by unfold M.room; omega) W (own_nw h2 hB) (own_nw h4 hB)
 rw [hnt] at kT
 rw [hns, hnt]
 obtain ⟨str, hstr⟩ : ∃ x : ByteArray, ⟨sc.toArray⟩ = x := ⟨_, rfl⟩
 rw [hstr] at v1 v2
 have HB : Hid _ := hB
 have HW : Hid _ := hW
 clear hB hW n1 n2 h1 h2 h3 h4 hns hnt hstr ht
 go_enter Tryz.func64, Tryz.ntmps64
 go_upto_region 1 with fail
 try rw [HW.out]
 go_wp2_with fail
 refine kT.mono ?_
 rintro e w2 ⟨rfl, qd, hb2⟩
 have HE : Hid (Below w.heap.size w w2) := by rw [hb2]; exact dnB HB.out _
 clear kT hb2
 go_wp2
 go_ret
 exact ⟨rfl, HE.out⟩
theorem rframe_no (pad B : Int) (hB : B < 4 \/ 16384 < B) (g : Nat) (W : World) :
  Calls Tryz.prog 63 #[.pointer (some ⟨g, 0, none⟩), .int .u8 pad, .int .i64 B] W fun e W' => e = .returned (.tuple #[.agg #[.int .i64 0, .int .i64 0, .int .i64 0, .int .i64 0, .int .i64 0, .slice none 0 0, .slice none 0 0], .int .i64 190]) /\ Below W.heap.size W W' := by
 have hz := heap_alloc_new W (.cells #[.int .i64 0, .int .i64 0, .int .i64 0, .int .i64 0, .int .i64 0, .slice none 0 0, .slice none 0 0] 160)
 have hb := P.bel_alloc W (.cells #[.int .i64 0, .int .i64 0, .int .i64 0, .int .i64 0, .int .i64 0, .slice none 0 0, .slice none 0 0] 160)
 generalize hW : W.alloc (.cells #[.int .i64 0, .int .i64 0, .int .i64 0, .int .i64 0, .int .i64 0, .slice none 0 0, .slice none 0 0] 160) = W1 at *
 have HB : Hid _ := hb
 have hfin := setRow_heap W1 W.heap.size _ #[.int .i64 0, .int .i64 0, .int .i64 0, .int .i64 0, .int .i64 0, .slice none 0 0, .slice none 0 0] _ _ hz
 clear hb
 rcases (show B < 4 \/ (¬ B < 4 /\ 16384 < B) by omega) with i1 | ⟨i1, i2⟩
 ·go_enter Tryz.func63, Tryz.ntmps63
  go_wp2_with (refine wpList_store_row rfl 160 _ _ rfl W.heap.size _ rfl rfl 160 #[.int .i64 0, .int .i64 0, .int .i64 0, .int .i64 0, .int .i64 0, .slice none 0 0, .slice none 0 0] hz (by exact sizeOt) (by rfl) (by simp [Value.oneCell']) ?_)
  refine bodyPost_ret (v := .tuple #[.agg #[.int .i64 0, .int .i64 0, .int .i64 0, .int .i64 0, .int .i64 0, .slice none 0 0, .slice none 0 0], .int .i64 190]) ?_ rfl ⟨rfl, P.Below.setRow HB.out W.heap.size (Nat.le_refl _) _⟩; rw [results_cell_tmp rfl]
  simp [asAddr, run_loadVar_row _ W.heap.size _ 160 _ _ _ hfin Tryz.underlying160 rfl sizeOt]
 ·go_enter Tryz.func63, Tryz.ntmps63
  go_wp2_with (refine wpList_store_row rfl 160 _ _ rfl W.heap.size _ rfl rfl 160 #[.int .i64 0, .int .i64 0, .int .i64 0, .int .i64 0, .int .i64 0, .slice none 0 0, .slice none 0 0] hz (by exact sizeOt) (by rfl) (by simp [Value.oneCell']) ?_)
  refine bodyPost_ret (v := .tuple #[.agg #[.int .i64 0, .int .i64 0, .int .i64 0, .int .i64 0, .int .i64 0, .slice none 0 0, .slice none 0 0], .int .i64 190]) ?_ rfl ⟨rfl, P.Below.setRow HB.out W.heap.size (Nat.le_refl _) _⟩; rw [results_cell_tmp rfl]
  simp [asAddr, run_loadVar_row _ W.heap.size _ 160 _ _ _ hfin Tryz.underlying160 rfl sizeOt]
structure Ob where
 S : Nat -> Prop
 kv : Value
 ok : World -> Prop
 kept : ∀ W W' : World, ok W -> W.heap.size <= W'.heap.size -> (∀ i, i < W.heap.size -> (S i \/ kv.ownBlock = some i) -> W'.heap[i]? = W.heap[i]?) -> ok W'
 lt : ∀ W : World, ok W -> ∀ k, (S k \/ kv.ownBlock = some k) -> k < W.heap.size
def upd (l : Nat -> Ob) (i : Nat) (x : Ob) (j : Nat) : Ob := if j = i then x else l j
theorem upd_at (l : Nat -> Ob) (i : Nat) (x : Ob) : upd l i x i = x := by unfold upd; rw [if_pos rfl]
theorem upd_ne (l : Nat -> Ob) (i : Nat) (x : Ob) (j : Nat) (h : j ≠ i) : upd l i x j = l j := by unfold upd; rw [if_neg h]
structure Kp (N : Nat -> Prop) (W W' : World) : Prop where
 os : W'.os = W.os
 tape : W'.tape = W.tape
 output : W'.output = W.output
 size : W.heap.size <= W'.heap.size
 block : ∀ k, N k -> W'.heap[k]? = W.heap[k]?
theorem Kp.trans {N : Nat -> Prop} {W W1 W2 : World} (h : Kp N W W1) (k : Kp N W1 W2) : Kp N W W2 := ⟨k.os.trans h.os, k.tape.trans h.tape, k.output.trans h.output, Nat.le_trans h.size k.size, fun i f => (k.block i f).trans (h.block i f)⟩
theorem Kp.of {N : Nat -> Prop} {W W1 : World} {n : Nat} (b : Below n W W1) (h : ∀ k, N k -> k < n) : Kp N W W1 := ⟨b.os, b.tape, b.output, b.size, fun k f => b.block k (h k f)⟩
theorem Kp.below {N : Nat -> Prop} {W W1 : World} (b : Kp N W W1) {n : Nat} (h : ∀ k, k < n -> N k) : Below n W W1 := ⟨b.os, b.tape, b.output, b.size, fun k f => b.block k (h k f)⟩
structure PQ (W : World) (N : Nat -> Prop) (l : Nat -> Ob) : Prop where
 ok : ∀ i, i < 4 -> (l i).ok W
 ap : ∀ i j, i < 4 -> j < 4 -> i ≠ j -> ∀ k, (l i).S k -> ¬ (l j).S k
 kc : ∀ i j, i < 4 -> j < 4 -> ∀ k, (l i).S k -> ¬ (l j).kv.ownBlock = some k
 lo : ∀ i, i < 4 -> ∀ k, (l i).S k -> ¬ N k
 nN : ∀ k, N k -> k < W.heap.size
section
variable {W W' : World} {N : Nat -> Prop} {l : Nat -> Ob}
theorem PQ.next (h : PQ W N l) (b : Below W.heap.size W W') : PQ W' N l :=
 ⟨fun i hi => (l i).kept W W' (h.ok i hi) b.size fun j hj _ => b.block j hj, h.ap, h.kc, h.lo, fun k f => Nat.lt_of_lt_of_le (h.nN k f) b.size⟩
theorem PQ.call (h : PQ W N l) (i : Nat) (hi : i < 4) (x : Ob) (hx : x.ok W') (t : S.Tc (l i).S W W') (hS : ∀ k, x.S k -> (l i).S k \/ W.heap.size <= k) (hkv : x.kv = (l i).kv) : PQ W' N (upd l i x) := by
 have hb : ∀ j, j < 4 -> ∀ k, ((l j).S k \/ (l j).kv.ownBlock = some k) -> k < W.heap.size := fun j hj k e => (l j).lt W (h.ok j hj) k e
 refine ⟨fun j hj => ?_, fun j k hj hk hne m e f => ?_, fun j k hj hk m e f => ?_, fun j hj m e => ?_, fun k f => Nat.lt_of_lt_of_le (h.nN k f) t.size⟩
 ·by_cases c : j = i
  ·subst c; rw [upd_at]; exact hx
  ·rw [upd_ne _ _ _ _ c]
   refine (l j).kept W W' (h.ok j hj) t.size fun m hm e => t.block m hm fun f => ?_
   rcases e with e | e
   ·exact h.ap j i hj hi c m e f
   ·exact h.kc i j hi hj m f e
 ·by_cases c : j = i
  ·subst c
   have c2 : k ≠ j := fun q => hne q.symm
   rw [upd_at] at e; rw [upd_ne _ _ _ _ c2] at f
   rcases hS m e with e | e
   ·exact h.ap j k hj hk hne m e f
   ·have := hb k hk m (.inl f); omega
  ·rw [upd_ne _ _ _ _ c] at e
   by_cases c2 : k = i
   ·subst c2
    rw [upd_at] at f
    rcases hS m f with f | f
    ·exact h.ap j k hj hk hne m e f
    ·have := hb j hj m (.inl e); omega
   ·rw [upd_ne _ _ _ _ c2] at f
    exact h.ap j k hj hk hne m e f
 ·have hf : ((l k).kv).ownBlock = some m := by
   by_cases c2 : k = i
   ·subst c2; rw [upd_at, hkv] at f; exact f
   ·rw [upd_ne _ _ _ _ c2] at f; exact f
  by_cases c : j = i
  ·subst c
   rw [upd_at] at e
   rcases hS m e with e | e
   ·exact h.kc j k hj hk m e hf
   ·have := hb k hk m (.inr hf); omega
  ·rw [upd_ne _ _ _ _ c] at e
   exact h.kc j k hj hk m e hf
 ·by_cases c : j = i
  ·subst c
   rw [upd_at] at e
   rcases hS m e with e | e
   ·exact h.lo j hj m e
   ·exact fun f => by have := h.nN m f; omega
  ·rw [upd_ne _ _ _ _ c] at e
   exact h.lo j hj m e
theorem PQ.fresh (h : PQ W N l) (i : Nat) (hi : i < 4) (x : Ob) (hx : x.ok W') (b : Below W.heap.size W W') (hS : ∀ k, x.S k -> W.heap.size <= k) (hkv : ∀ k, x.kv.ownBlock = some k -> (W.heap.size <= k /\ ¬ x.S k) \/ ∃ j, j < 4 /\ (l j).kv.ownBlock = some k) : PQ W' N (upd l i x) := by
 have hb : ∀ j, j < 4 -> ∀ k, ((l j).S k \/ (l j).kv.ownBlock = some k) -> k < W.heap.size := fun j hj k e => (l j).lt W (h.ok j hj) k e
 have hq := h.next b
 refine ⟨fun j hj => ?_, fun j k hj hk hne m e f => ?_, fun j k hj hk m e f => ?_, fun j hj m e => ?_, hq.nN⟩
 ·by_cases c : j = i
  ·subst c; rw [upd_at]; exact hx
  ·rw [upd_ne _ _ _ _ c]; exact hq.ok j hj
 ·by_cases c : j = i
  ·subst c
   have c2 : k ≠ j := fun q => hne q.symm
   rw [upd_at] at e; rw [upd_ne _ _ _ _ c2] at f; have h1 := hS m e; have h2 := hb k hk m (.inl f)
   omega
  ·rw [upd_ne _ _ _ _ c] at e
   by_cases c2 : k = i
   ·subst c2
    rw [upd_at] at f; have h1 := hS m f; have h2 := hb j hj m (.inl e)
    omega
   ·rw [upd_ne _ _ _ _ c2] at f
    exact h.ap j k hj hk hne m e f
 ·by_cases c : j = i
  ·subst c
   rw [upd_at] at e; have h1 := hS m e
   by_cases c2 : k = j
   ·subst c2
    rw [upd_at] at f
    rcases hkv m f with ⟨_, f⟩ | ⟨q, hq4, f⟩
    ·exact f e
    ·have := hb q hq4 m (.inr f); omega
   ·rw [upd_ne _ _ _ _ c2] at f
    have := hb k hk m (.inr f); omega
  ·rw [upd_ne _ _ _ _ c] at e
   by_cases c2 : k = i
   ·subst c2
    rw [upd_at] at f
    rcases hkv m f with ⟨f, _⟩ | ⟨q, hq4, f⟩
    ·have := hb j hj m (.inl e); omega
    ·exact h.kc j q hj hq4 m e f
   ·rw [upd_ne _ _ _ _ c2] at f
    exact h.kc j k hj hk m e f
 ·by_cases c : j = i
  ·subst c
   rw [upd_at] at e; exact fun f => by have := h.nN m f; have := hS m e; omega
  ·rw [upd_ne _ _ _ _ c] at e
   exact h.lo j hj m e
end
def pmO (g bd br bm : Nat) (kv : Value) (F : Nat -> Prop) (v : VS) : Ob where
 S := TV g bd br F
 kv := kv
 ok := fun W => MV W g bd br bm kv F v
 kept := fun W W' h hs k => MV.kept h hs k
 lt := fun W h k e => by
  rcases e with (e | e | e | e) | e
  ·rw [e]; exact h.lt
  ·rw [e]; exact h.lt_d
  ·rw [e]; exact h.lt_r
  ·exact h.fb k e
  ·exact h.ck k e
def rmO (g b : Nat) (kv dv rv : Value) (F : Nat -> Prop) (v : VS) : Ob where
 S := fun k => k = g \/ F k \/ dv.ownBlock = some k \/ rv.ownBlock = some k
 kv := kv
 ok := fun W => RX W g b kv dv rv F v
 kept := fun W W' h hs k =>
  { h with
   blk := (k _ h.lt (.inl (.inl rfl))).trans h.blk
   mem := h.mem.kept fun i hi f => k i hi (.inl (.inr (.inl f)))
   code := h.code.kept fun a x e o => by
    rw [World.cell?_of_block (w := W) (w' := W') (a := a) (k a.block (World.block_lt_of_cell? W a e) (.inr o.symm))]; exact e
   d := by
    rcases h.d with q | ⟨x, c, e, h1, h2⟩
    ·exact .inl q
    ·refine .inr ⟨x, c, e, h1, h2.kept fun bb o u2 e2 i hc => ?_⟩
     rw [World.cell?_of_block (w := W) (w' := W') (a := ⟨bb, i, none⟩) (k bb (World.block_lt_of_cell? W _ hc) (.inl (.inr (.inr (.inl (by rw [e]; cases e2; rfl))))))]; exact hc
   r := by
    rcases h.r with q | ⟨x, c, e, h1, h2⟩
    ·exact .inl q
    ·refine .inr ⟨x, c, e, h1, h2.kept fun bb o u2 e2 i hc => ?_⟩
     rw [World.cell?_of_block (w := W) (w' := W') (a := ⟨bb, i, none⟩) (k bb (World.block_lt_of_cell? W _ hc) (.inl (.inr (.inr (.inr (by rw [e]; cases e2; rfl))))))]; exact hc
   ck := fun i e => ⟨Nat.lt_of_lt_of_le (h.ck i e).1 hs, (h.ck i e).2⟩
   fb := fun i e => Nat.lt_of_lt_of_le (h.fb i e) hs }
 lt := fun W h k e => by
  rcases e with (e | e | e) | e
  ·rw [e]; exact h.lt
  ·exact h.fb k e
  ·exact (h.ck k (.inr e)).1
  ·exact (h.ck k (.inl e)).1
set_option maxHeartbeats 1000000
def Em (v v' : VS) : Prop := (∃ c t, v' = { v with m := { v.m with cyc := c, tones := t } }) /\ (v.st = 1 -> v' = v)
theorem Em.refl (v : VS) : Em v v := ⟨⟨v.m.cyc, v.m.tones, rfl⟩, fun _ => rfl⟩
theorem Em.look {v v' : VS} (h : Em v v') : look v' = look v := by
 obtain ⟨⟨c, t, rfl⟩, _⟩ := h
 rfl
theorem Em.bg {v v' : VS} (h : Em v v') (p : Int) : ({ v' with m := M.bg v'.m p } : VS) = { v with m := M.bg v.m p } := by
 obtain ⟨⟨c, t, rfl⟩, _⟩ := h
 rfl
theorem Em.frame {v v' : VS} (h : Em v v') (p B : Int) : Go.Proofs.YteldjmecomngeaaGreat.V.frame v' p B = Go.Proofs.YteldjmecomngeaaGreat.V.frame v p B := by
 unfold Go.Proofs.YteldjmecomngeaaGreat.V.frame
 rw [h.bg p]
theorem Em.cyc {v : VS} {z : Int} (h : v.st = 1 -> z = v.m.cyc) : Em v (Go.Proofs.YteldjmecomngeaaGreat.V.cyc z v) := ⟨⟨z, v.m.tones, rfl⟩, fun e => by rw [h e]; rfl⟩
theorem Em.st {v v' : VS} (h : Em v v') : v'.st = v.st := by
 obtain ⟨⟨c, t, rfl⟩, _⟩ := h
 rfl
theorem Em.step {v v' : VS} (h : Em v v') : (Go.Proofs.YteldjmecomngeaaGreat.V.step v').1 = (Go.Proofs.YteldjmecomngeaaGreat.V.step v).1 /\ Em (Go.Proofs.YteldjmecomngeaaGreat.V.step v).2 (Go.Proofs.YteldjmecomngeaaGreat.V.step v').2 := by
 by_cases q : v.st = 1
 ·rw [h.2 q]
  exact ⟨rfl, Em.refl _⟩
 ·have e1 : Go.Proofs.YteldjmecomngeaaGreat.V.step v = (false, v) := by unfold Go.Proofs.YteldjmecomngeaaGreat.V.step; rw [if_neg q]
  have e2 : Go.Proofs.YteldjmecomngeaaGreat.V.step v' = (false, v') := by unfold Go.Proofs.YteldjmecomngeaaGreat.V.step; rw [if_neg (by rw [h.st]; exact q)]
  rw [e1, e2]; exact ⟨rfl, h⟩
theorem stp_em (m : M.MS) (c : Int) (t : List (Int × Int × Int)) (z : Int) (x : UInt8) : ∃ t', M.stp { m with cyc := c, tones := t } z x = { M.stp m z x with cyc := c, tones := t' } := by
 unfold M.stp
 repeat' split
 all_goals first | exact ⟨t, rfl⟩ | exact ⟨_, rfl⟩
theorem st_em (m : M.MS) (c : Int) (t : List (Int × Int × Int)) (z : Int) (x : UInt8) : ∃ t', M.st { m with cyc := c, tones := t } z x = { M.st m z x with cyc := c, tones := t' } := by
 unfold M.st
 by_cases a1 : z < 16384
 ·rw [if_pos a1, if_pos a1]; exact ⟨t, rfl⟩
 rw [if_neg a1, if_neg a1]
 by_cases a2 : z < 32768
 ·rw [if_pos a2, if_pos a2]
  cases hb : m.banks m.ch.toNat with
  | none => simp only [hb]; exact ⟨t, rfl⟩
  | some l => simp only [hb]; exact ⟨t, rfl⟩
 rw [if_neg a2, if_neg a2]
 by_cases a3 : z < 49152
 ·rw [if_pos a3, if_pos a3]; exact ⟨t, rfl⟩
 rw [if_neg a3, if_neg a3]
 by_cases a4 : z < 52224
 ·rw [if_pos a4, if_pos a4]; exact ⟨t, rfl⟩
 rw [if_neg a4, if_neg a4]
 exact stp_em m c t z x
theorem Em.store {v v' : VS} (h : Em v v') (z : Int) (x : UInt8) : Em { v with m := M.st v.m z x } { v' with m := M.st v'.m z x } := by
 refine ⟨?_, fun e => by rw [h.2 e]⟩
 obtain ⟨⟨c, t, rfl⟩, _⟩ := h
 obtain ⟨t', e⟩ := st_em v.m c t z x
 exact ⟨c, t', by simp only; rw [e]⟩
theorem Em.ld {v v' : VS} (h : Em v v') (z : Int) : M.ld v'.m z = M.ld v.m z := by
 obtain ⟨⟨c, t, rfl⟩, _⟩ := h
 rfl
theorem Em.gd {b : Nat -> Bool} {v v' : VS} (h : Em v v') (g : Gd b v) : Gd b v' := by
 obtain ⟨⟨c, t, rfl⟩, _⟩ := h
 exact ⟨g.r, g.s, g.n⟩
theorem Gd.step {b : Nat -> Bool} {v : VS} (h : Gd b v) : Gd b (Go.Proofs.YteldjmecomngeaaGreat.V.step v).2 := by
 unfold Go.Proofs.YteldjmecomngeaaGreat.V.step
 split
 ·rename_i q1
  split
  ·split
   ·exact h.doo q1 _ _
   ·rename_i q3
    exact h.fail (dn_fg _ _ _ _) q3
  ·rename_i q2
   exact h.fail (look_f v) q2
 ·exact h
theorem Gd.store {b : Nat -> Bool} {v : VS} (h : Gd b v) (z : Int) (x : UInt8) : Gd b { v with m := M.st v.m z x } := ⟨h.r, h.s, fun n => by rw [<- h.n n]; exact st_bn v.m z x n⟩
structure PM where
 g : Nat
 bd : Nat
 br : Nat
 bm : Nat
 kv : Value
 F : Nat -> Prop
 v : VS
structure RM where
 g : Nat
 b : Nat
 kv : Value
 dv : Value
 rv : Value
 F : Nat -> Prop
 v : VS
def PM.o (a : PM) : Ob := pmO a.g a.bd a.br a.bm a.kv a.F a.v
def RM.o (a : RM) : Ob := rmO a.g a.b a.kv a.dv a.rv a.F a.v
def mkO (p : Nat -> PM) (r : Nat -> RM) (i : Nat) : Ob := if i < 2 then (p i).o else (r (i - 2)).o
def upP (p : Nat -> PM) (i : Nat) (x : PM) (j : Nat) : PM := if j = i then x else p j
def upR (r : Nat -> RM) (i : Nat) (x : RM) (j : Nat) : RM := if j = i then x else r j
theorem upd_p (p : Nat -> PM) (r : Nat -> RM) (i : Nat) (hi : i < 2) (x : PM) : upd (mkO p r) i x.o = mkO (upP p i x) r := by
 funext j
 unfold upd mkO upP
 by_cases c : j = i
 ·subst c; rw [if_pos rfl, if_pos hi, if_pos rfl]
 ·rw [if_neg c, if_neg c]
theorem upd_r (p : Nat -> PM) (r : Nat -> RM) (i : Nat) (hi : i < 2) (x : RM) : upd (mkO p r) (i + 2) x.o = mkO p (upR r i x) := by
 funext j
 unfold upd mkO upR
 by_cases c : j = i + 2
 ·subst c; rw [if_pos rfl, if_neg (by omega), if_pos (by omega)]
 ·rw [if_neg c]
  by_cases d : j < 2
  ·rw [if_pos d, if_pos d]
  ·rw [if_neg d, if_neg d, if_neg (by omega)]
section
variable {W W' : World} {N : Nat -> Prop} {p : Nat -> PM} {r : Nat -> RM}
theorem PQ.pm (h : PQ W N (mkO p r)) (i : Nat) (hi : i < 2) : MV W (p i).g (p i).bd (p i).br (p i).bm (p i).kv (p i).F (p i).v := by
 have := h.ok i (by omega)
 unfold mkO at this
 rw [if_pos hi] at this
 exact this
theorem PQ.rm (h : PQ W N (mkO p r)) (i : Nat) (hi : i < 2) : RX W (r i).g (r i).b (r i).kv (r i).dv (r i).rv (r i).F (r i).v := by
 have := h.ok (i + 2) (by omega)
 unfold mkO at this
 rw [if_neg (by omega), show i + 2 - 2 = i by omega] at this
 exact this
theorem PQ.prog (h : PQ W N (mkO p r)) (i : Nat) (hi : i < 2) {v : VS} (k : VD W W' (p i).g (p i).bd (p i).br (p i).bm (p i).kv (p i).F v) : PQ W' N (mkO (upP p i { p i with F := M.gr (p i).F W W', v := v }) r) := by
 rw [<- upd_p p r i hi]
 have e : mkO p r i = (p i).o := by unfold mkO; rw [if_pos hi]
 refine h.call i (by omega) _ k.s (by rw [e]; exact k.t) (fun j f => ?_) (by rw [e]; rfl)
 rw [e]
 rcases f with f | f | f | f
 ·exact .inl (.inl f)
 ·exact .inl (.inr (.inl f))
 ·exact .inl (.inr (.inr (.inl f)))
 ·rcases f with f | ⟨f, _⟩
  ·exact .inl (.inr (.inr (.inr f)))
  ·exact .inr f
theorem PQ.ref (h : PQ W N (mkO p r)) (i : Nat) (hi : i < 2) {v : VS} (k : RY W W' (r i).g (r i).b (r i).kv (r i).F v) : ∃ dv rv F, PQ W' N (mkO p (upR r i { r i with dv := dv, rv := rv, F := F, v := v })) := by
 have hx := h.rm i hi
 obtain ⟨dv, rv, F, k1, k2, hx2⟩ := k.s
 refine ⟨dv, rv, F, ?_⟩
 rw [<- upd_r p r i hi]
 have e : mkO p r (i + 2) = (r i).o := by unfold mkO; rw [if_neg (by omega), show i + 2 - 2 = i by omega]
 refine h.call (i + 2) (by omega) _ hx2 (by
  rw [e]; have t := k.t; exact ⟨t.os, t.tape, t.output, t.size, fun j hj hn => t.block j hj fun f => hn (f.elim .inl fun f => .inr (.inl f))⟩) (fun j f => ?_) (by rw [e]; rfl)
 rw [e]
 rcases f with f | f | f
 ·exact .inl (.inl f)
 ·rcases k1 j f with f | f
  ·exact .inl (.inr (.inl f))
  ·exact .inr f
 ·rcases k2 j f with f | ⟨u, hu, ho⟩
  ·exact .inr f
  ·rcases hu with hu | hu
   ·rw [hx.c4] at hu
    cases hu
    exact .inl (.inr (.inr (.inl ho)))
   ·rw [hx.c5] at hu
    cases hu
    exact .inl (.inr (.inr (.inr ho)))
end
end Go.Proofs.YteldjmecomngeaaGreat.V
