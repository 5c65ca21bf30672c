import Derived.Test.YteldjmecomngeaaGreatMFull
import Derived.Test.YteldjmecomngeaaGreatMInO
import Derived.Deep.RegionHeldLaw
namespace Go.Proofs.YteldjmecomngeaaGreat.M
open Go.RowKit
open Go.Proofs
set_option linter.unusedVariables false
set_option linter.unusedSimpArgs false
set_option maxRecDepth 100000 in
theorem step_full {ops : Array Oper} {o : Oper} {a : Act} {w : World} {K : Act -> World -> Prop} {Q : Exit -> Act -> World -> Prop} {E : Prop} (hgd : o.guard = none) (s x : Operand) (ho : o.op = .call { callee := .value (.func 97), args := #[s, x], argTypes := #[22, 3] })
  (u v : Value) (hs : a.eval s = u) (hx : a.eval x = v) {Post : Ending -> World -> Prop} (hc : Calls Tryz.prog 97 #[u, v] w Post) (h : ∀ e w', Post e w' -> ∃ v, e = .returned v /\ K (a.put o.dst v) w') :
  if Region.wanted o (yielded ops a.tmps) = true then Oper.wp Tryz.prog o a w K Q else E := by
 have hw : Region.wanted o (yielded ops a.tmps) = true := by simp [Region.wanted, hgd]
 rw [if_pos hw]
 unfold Oper.wp execOp
 simp only [ho, resolve, invoke, Sem.run_bind, Sem.run_pure, Result.andThen_ok, List.map_toArray, List.map_cons, List.map_nil, hs, hx, Tryz.call97]
 refine hc.mono ?_
 intro e w' hp
 obtain ⟨v, rfl, hk⟩ := h e w' hp
 exact hk
set_option maxHeartbeats 4000000
set_option maxRecDepth 100000
theorem rcopy_any (b : Nat) (bs : List (Int × List UInt8)) (m : MS) (pb : Option Addr) (c : Nat) (rv sv tv : Value) (w : World) (h : RV w b bs m pb c rv sv tv) :
  Calls Tryz.prog 62 #[.pointer (some ⟨b, 0, none⟩)] w fun e w' => ∃ b', e = .returned (.pointer (some ⟨b', 0, none⟩)) /\ HasR w' (fun k => w.heap.size <= k) b' (padB bs) { m with ram := padN 16384 m.ram, scr := padN 3072 m.scr } /\ Below w.heap.size w w' := by
 have c0 := cell_of w b 0 _ 95 _ h.blk rfl
 have c1 := cell_of w b 1 _ 95 _ h.blk rfl
 have c2 := cell_of w b 2 _ 95 _ h.blk rfl
 have c3 := cell_of w b 3 _ 95 _ h.blk rfl
 have c4 := cell_of w b 4 _ 95 _ h.blk rfl
 have c5 := cell_of w b 5 _ 95 _ h.blk rfl
 have c6 := cell_of w b 6 _ 95 _ h.blk rfl
 have c7 := cell_of w b 7 _ 95 _ h.blk rfl
 have c8 := cell_of w b 8 _ 95 _ h.blk rfl
 have c9 := cell_of w b 9 _ 95 _ h.blk rfl
 have hbw := lt_of h.blk
 have hrv : ∃ p n c, rv = .slice p n c := by obtain ⟨p, c, e, _⟩ := h.rs.ex; exact ⟨p, _, c, e⟩
 have hsv : ∃ p n c, sv = .slice p n c := by obtain ⟨p, c, e, _⟩ := h.ss.ex; exact ⟨p, _, c, e⟩
 have htv : ∃ p n c, tv = .slice p n c := by rcases h.ts with ⟨e, _⟩ | ⟨ad, c, e, _⟩ <;> exact ⟨_, _, _, e⟩
 obtain ⟨rp, rn, rc, rfl⟩ := hrv
 obtain ⟨sp, sn, sc', rfl⟩ := hsv
 obtain ⟨tp, tn, tcp, rfl⟩ := htv
 have HH : Hid _ := h
 have hl := h.bl
 unfold room at hl
 clear h
 go_enter Tryz.func62, Tryz.ntmps62
 go_wp2
 go_loopw [15] (fun i wr => ∃ (k : Nat) (v : Value) (gs : List (Nat × Nat)), k <= bs.length /\ i = .int .i64 (k : Int) /\ CR w wr v (.slice rp rn rc) (.slice sp sn sc') m (.slice tp tn tcp) (padB (bs.take k)) gs) (fun i _ => bs.length - (intOf i).toNat)
 case atStart => exact ⟨0, _, [], by omega, rfl, CR.start w _ _ m _⟩
 case round =>
  clear c0 c1 c2 c3 c4 c5 c6 c7 c8 c9; obtain ⟨k, v, gs, hk, rfl, hC⟩ := hrel
  by_cases hlt : k < bs.length
  ·have i1 : (k : Int) < bs.length := by omega
   obtain ⟨bb, o, dv, rfl, e1, e2, e3, e4⟩ := HH.out.bn.below hC.bel k bs[k] (List.getElem?_eq_getElem hlt); have hdl := HH.out.dl bs[k] (List.getElem_mem hlt); have htk : padB (bs.take (k + 1)) = padB (bs.take k) ++ [((bs[k]).1, padN 16384 (bs[k]).2)] := by rw [List.take_succ_eq_append_getElem hlt, padB_snoc]
   generalize bs[k] = t at *
   have hbL : Below wr.heap.size wr (wr.alloc (.cells #[.int .i64 t.1, dv] 81)).drew := ((Below.refl _ _).alloc (Nat.le_refl _) _).drew; have hv2 : (wr.alloc (.cells #[.int .i64 t.1, dv] 81)).drew.heap[wr.heap.size]? = some (.cells [.int .i64 t.1, dv].toArray 81 (0, 0)) := heap_alloc_new wr _; have hfu := full_any dv t.2 16384 (by omega) hdl (wr.alloc (.cells #[.int .i64 t.1, dv] 81)).drew (Sl.below e3 hbL); have hN := hC.siz; have hz1 : (wr.alloc (.cells #[.int .i64 t.1, dv] 81)).drew.heap.size = wr.heap.size + 1 := by simp
   have hne : wr.heap.size ≠ w.heap.size := by omega
   have cN : (wr.alloc (.cells #[.int .i64 t.1, dv] 81)).cell? ⟨w.heap.size, 0, none⟩ = some v := cell_of _ _ 0 _ 95 _ ((Below.heap_alloc wr _ _ (by omega)).trans hC.blk) rfl; have s1 : (wr.alloc (.cells #[.int .i64 t.1, dv] 81)).drew.cell? ⟨wr.heap.size, 0, none⟩ = some (.int .i64 t.1) /\ (wr.alloc (.cells #[.int .i64 t.1, dv] 81)).drew.cell? ⟨wr.heap.size, 1, none⟩ = some dv := ⟨cell_of _ _ 0 _ 81 _ hv2 rfl, cell_of _ _ 1 _ 81 _ hv2 rfl⟩
   obtain ⟨vp, vc, hvf⟩ := own_form hC.banks.row; subst hvf; have hlk : (padB (bs.take k)).length = k := by simp [padB]; omega
   rw [hlk] at hC cN
   have hend : ∀ w2 : World, Below (wr.alloc (.cells #[.int .i64 t.1, dv] 81)).drew.heap.size (wr.alloc (.cells #[.int .i64 t.1, dv] 81)).drew w2 -> B5 w2 (wr.heap.size + 1) (padN 16384 t.2) -> w2.heap.size = wr.heap.size + 1 + 1 ->
     w2.cell? ⟨w.heap.size, 0, none⟩ = some (.slice vp k vc) /\ (w2.cell? ⟨wr.heap.size, 0, none⟩ = some (.int .i64 t.1) /\ w2.cell? ⟨wr.heap.size, 1, none⟩ = some dv) /\
     ((w2.alloc (.cells #[.int .i64 t.1, .slice (some ⟨wr.heap.size + 1, 0, none⟩) 16384 16384] 81)).cell? ⟨w.heap.size, 0, none⟩ = some (.slice vp k vc)) /\
     ((w2.alloc (.cells #[.int .i64 t.1, .slice (some ⟨wr.heap.size + 1, 0, none⟩) 16384 16384] 81)).cell? ⟨wr.heap.size, 0, none⟩ = some (.int .i64 t.1) /\ (w2.alloc (.cells #[.int .i64 t.1, .slice (some ⟨wr.heap.size + 1, 0, none⟩) 16384 16384] 81)).cell? ⟨wr.heap.size, 1, none⟩ = some dv) /\
     (w2.alloc (.cells #[.int .i64 t.1, .slice (some ⟨wr.heap.size + 1, 0, none⟩) 16384 16384] 81)).ownsRow (w.heap.size + 1) 81 2 (.slice vp k vc) k (bcs (padB (bs.take k)) gs) /\
     Cs (w2.alloc (.cells #[.int .i64 t.1, .slice (some ⟨wr.heap.size + 1, 0, none⟩) 16384 16384] 81)) (.slice (some ⟨w2.heap.size, 0, none⟩) 1 1) 2 1 (bc (t.1, padN 16384 t.2) (wr.heap.size + 1, 16384)) /\
     w.heap.size + 1 <= (w2.alloc (.cells #[.int .i64 t.1, .slice (some ⟨wr.heap.size + 1, 0, none⟩) 16384 16384] 81)).heap.size /\
     (∀ v' w4, w4.ownsRow (w.heap.size + 1) 81 2 v' (k + 1) (bcs (padB (bs.take k)) gs ++ bc (t.1, padN 16384 t.2) (wr.heap.size + 1, 16384)) -> Grew (w2.alloc (.cells #[.int .i64 t.1, .slice (some ⟨wr.heap.size + 1, 0, none⟩) 16384 16384] 81)) w4 (.slice vp k vc) v' ->
      (w4.cell? ⟨wr.heap.size, 0, none⟩ = some (.int .i64 t.1) /\ w4.cell? ⟨wr.heap.size, 1, none⟩ = some dv) /\ w4.cell? ⟨w.heap.size, 0, none⟩ = some (.slice vp k vc) /\ w4.frozen? ⟨w.heap.size, 0, none⟩ = false /\
      CR w (w4.setCell ⟨w.heap.size, 0, none⟩ v') v' (.slice rp rn rc) (.slice sp sn sc') m (.slice tp tn tcp) (padB (bs.take (k + 1))) (gs ++ [(wr.heap.size + 1, 16384)])) := by
    intro w2 hb2 h52 hz2; have kp : ∀ j, j < wr.heap.size + 1 -> w2.heap[j]? = (wr.alloc (.cells #[.int .i64 t.1, dv] 81)).drew.heap[j]? := fun j hj => hb2.block j (by omega)
    have kw : ∀ j, j < wr.heap.size -> w2.heap[j]? = wr.heap[j]? := fun j hj => (kp j (by omega)).trans (Below.heap_alloc wr _ j hj)
    have b2 := (kw w.heap.size (by omega)).trans hC.blk; have v2 := (kp wr.heap.size (by omega)).trans hv2; have al : ∀ j, j < w2.heap.size -> (w2.alloc (.cells #[.int .i64 t.1, .slice (some ⟨wr.heap.size + 1, 0, none⟩) 16384 16384] 81)).heap[j]? = w2.heap[j]? := fun j hj => Below.heap_alloc w2 _ j hj
    have b3 := (al w.heap.size (by omega)).trans b2; have v3 := (al wr.heap.size (by omega)).trans v2; have hln : (padN 16384 t.2).length = 16384 := padN_len _ _ hdl; refine ⟨cell_of _ _ 0 _ 95 _ b2 rfl, ⟨cell_of _ _ 0 _ 81 _ v2 rfl, cell_of _ _ 1 _ 81 _ v2 rfl⟩, cell_of _ _ 0 _ 95 _ b3 rfl, ⟨cell_of _ _ 0 _ 81 _ v3 rfl, cell_of _ _ 1 _ 81 _ v3 rfl⟩, ?_, ?_, by simp; omega, ?_⟩
    ·have := hC.banks.row
     rw [hlk] at this; exact own_kept this fun g e hg => (al g (by omega)).trans (kw g hg)
    ·refine .inr ⟨⟨w2.heap.size, 0, none⟩, 1, rfl, rfl, ?_, by intro x hx; simp [bc] at hx; rcases hx with rfl | rfl <;> rfl⟩
     intro j x hj
     have hn : (w2.alloc (.cells #[.int .i64 t.1, .slice (some ⟨wr.heap.size + 1, 0, none⟩) 16384 16384] 81)).heap[w2.heap.size]? = some (.cells (bc (t.1, padN 16384 t.2) (wr.heap.size + 1, 16384)).toArray 81 (0, 0)) := by
      simp only [bc, hln]; exact heap_alloc_new w2 _
     have e : (⟨w2.heap.size, 0, none⟩ : Addr).add j = ⟨w2.heap.size, j, none⟩ := by rw [Addr.add_lit]; simp
     rw [e]; exact cell_of _ _ _ _ 81 x hn hj
    ·intro v' w4 ho hg
     have nv : ∀ j, j <= w.heap.size \/ j = wr.heap.size -> some j ≠ (Value.slice vp k vc).ownBlock := by
      intro j hj e
      rcases hj with hj | hj
      ·have := (hC.banks.row.lt j e.symm).1; omega
      ·have := (hC.banks.row.lt j e.symm).2; omega
     have b4 := (hg.block w.heap.size (by simp; omega) (nv _ (.inl (Nat.le_refl _)))).trans b3; have v4 := (hg.block wr.heap.size (by simp; omega) (nv _ (.inr rfl))).trans v3; refine ⟨⟨cell_of _ _ 0 _ 81 _ v4 rfl, cell_of _ _ 1 _ 81 _ v4 rfl⟩, cell_of _ _ 0 _ 95 _ b4 rfl, frozen_of _ _ 0 _ 95 b4, ?_⟩; rw [htk]; exact hC.step (t.1, padN 16384 t.2) (wr.heap.size + 1) _ _ hb2 hz1.symm h52 hln hg (by rw [hlk]; exact ho)
   obtain ⟨dp, dc, rfl, _⟩ := e3.ex; rw [hz1] at hfu; have hk1 : (k + 1) * 32 <= room := by unfold room; omega
   have hk2 : k + 1 <= maxLen := by unfold maxLen; omega
   have HE : Hid _ := hend; have HZ : Hid _ := hz1; clear hend hC e3 hv2 hbL htk hlk hz1; go_wp2_with fail
   obtain ⟨s1a, s1b⟩ := s1
   go_region_law
    (first
     | (refine step_append_row rfl (.tmp 20) (.tmp 27) 25 81 (.agg #[.int .i64 0, .slice none 0 0]) 2 32 Tryz.underlying25 info37 rfl (by decide) rfl (w.heap.size + 1) (.slice vp k vc) k (bcs (padB (bs.take k)) gs) (by simp [Act.eval]) hown (.slice (some ⟨w2.heap.size, 0, none⟩) 1 1) 1 (bc (t.1, padN 16384 t.2) (wr.heap.size + 1, 16384)) (by simp [Act.eval]) hcs hk1 hk2 hwz ?_; intro v' w4 ho hg; obtain ⟨g9, cap9, rfl⟩ := own_pos ho (Nat.succ_pos k); obtain ⟨s4, cN4, zN4, hCR⟩ := hE2 (.slice (some ⟨g9, 0, none⟩) (k + 1) cap9) w4 ho hg; clear hE2 ho hg hown hcs s2a s2b cN2 cN3)
     | (refine step_full rfl (.tmp 24) (.const (.int .i64 16384)) rfl (.slice dp t.2.length dc) (.int .i64 16384) (by simp [Act.eval]) (by simp [Act.eval]) hfu ?_; rintro e w2 ⟨rfl, h52, hb2, hz2⟩; refine ⟨_, rfl, ?_⟩; obtain ⟨cN2, ⟨s2a, s2b⟩, cN3, s3, hown, hcs, hwz, hE2⟩ := HE.out w2 (by rw [HZ.out]; exact hb2) h52 hz2; clear hfu HE h52 hb2 hz2 s3 s1a s1b))
   all_goals
    have HC : Hid _ := hCR; clear hCR; go_wp2; go_roundw
    case rel =>
     first
      | exact ⟨k + 1, _, _, by omega, by go_num, HC.out⟩
      | ((repeat apply Exists.intro); refine ⟨⟨k + 1, _, _, by omega, ?_, HC.out⟩, rfl⟩; go_num)
    case measure => simp [intOf]; omega
  ·obtain rfl : k = bs.length := by omega
   rw [List.take_length] at hC; have hR3 := HH.out.below hC.bel; have k1 := cell_of wr b 1 _ 95 _ hR3.blk rfl; have hsz := hC.siz; have hf1 := full_any (.slice rp rn rc) m.ram 16384 (by omega) hR3.rl wr hR3.rs; have g3 := hC.blk; have HC : Hid _ := hC; have HB3 : Hid _ := hC.bel; clear hC hR3; go_wp2_with fail
   refine hf1.mono ?_; rintro e w4 ⟨rfl, h54, hb4, hz4⟩; have g4 := (hb4.block w.heap.size (by omega)).trans g3; have k4 := cell_of w4 w.heap.size 1 _ 95 _ g4 rfl; have z4 := frozen_of w4 w.heap.size 1 _ 95 g4; have hB4 : Below w.heap.size w w4 := HB3.out.trans (hb4.mono (by omega)); obtain ⟨w5, hw5⟩ : ∃ w5, w4.setCell ⟨w.heap.size, 1, none⟩ (.slice (some ⟨wr.heap.size, 0, none⟩) 16384 16384) = w5 := ⟨_, rfl⟩
   have hB5 : Below w.heap.size w w5 := by rw [<- hw5]; exact hB4.setCell (p := ⟨w.heap.size, 1, none⟩) (Nat.le_refl _) _
   have hz5 : w5.heap.size = w4.heap.size := by rw [<- hw5, setCell_size]
   have g5 := setCell_heap w4 w.heap.size 1 _ 95 (.slice (some ⟨wr.heap.size, 0, none⟩) 16384 16384) g4; rw [hw5] at g5; have hR5 := HH.out.below hB5; have k5 := cell_of w5 b 2 _ 95 _ hR5.blk rfl; have hf2 := full_any (.slice sp sn sc') m.scr 3072 (by omega) hR5.sl w5 hR5.ss; have H54 : Hid _ := h54; have Hb4 : Hid _ := hb4; have HB5 : Hid _ := hB5; have HW5 : Hid _ := hw5.symm; have HZ4 : Hid _ := hz4; clear hf1 h54 hb4 hB4 hB5 hR5 g3 g4 hz4 k1; go_wp2_with fail
   clear hw5 k4 z4; refine hf2.mono ?_; rintro e w6 ⟨rfl, h56, hb6, hz6⟩; have g6 := (hb6.block w.heap.size (by have := HZ4.out; omega)).trans g5; have k6 := cell_of w6 w.heap.size 2 _ 95 _ g6 rfl; have z6 := frozen_of w6 w.heap.size 2 _ 95 g6; have hB6 : Below w.heap.size w w6 := HB5.out.trans (hb6.mono (by have := HZ4.out; omega)); obtain ⟨w7, hw7⟩ : ∃ w7, w6.setCell ⟨w.heap.size, 2, none⟩ (.slice (some ⟨w5.heap.size, 0, none⟩) 3072 3072) = w7 := ⟨_, rfl⟩
   have hB7 : Below w.heap.size w w7 := by rw [<- hw7]; exact hB6.setCell (p := ⟨w.heap.size, 2, none⟩) (Nat.le_refl _) _
   have hR7 := HH.out.below hB7; have hb7a : Below w7.heap.size w7 (w7.alloc (.cells #[] 66)) := (Below.refl _ _).alloc (Nat.le_refl _) _; have k7 := cell_of (w7.alloc (.cells #[] 66)) b 9 _ 95 _ ((hR7.below hb7a).blk) rfl
   have hr0 : (w7.alloc (.cells #[] 66)).ownsRow w7.heap.size 66 3 (.slice (some ⟨w7.heap.size, 0, none⟩) 0 0) 0 [] :=
    ⟨rfl, .inr ⟨w7.heap.size, 0, #[], rfl, Nat.le_refl _, heap_alloc_new w7 _, Nat.le_refl _, by decide, by simp, by simp⟩⟩
   have hcs := hR7.ts.below hb7a; have htl := hR7.tl; have hfin := fun tv' => copy_end (tv' := tv') HC.out Hb4.out H54.out HZ4.out HW5.out hb6 h56 hz6 hw7.symm HH.out.rl HH.out.sl
   have HF : Hid _ := hfin; clear hf2 h56 hb6 hB6 hB7 hR7 g5 g6 hz6 hz5 k5 hfin; go_wp2_with (first | (at_builtin; refine wpList_append_row _ rfl _ _ 37 66 _ 3 16 Tryz.underlying37 info90 rfl (by decide) rfl w7.heap.size _ 0 [] rfl hr0 _ m.tones.length (tc m.tones) rfl hcs (by unfold room; omega) (by unfold maxLen; omega) hb7a.size ?_))
   intro v' w8 hr8 hg8; have hb8 : Below w7.heap.size w7 w8 := hg8.belowAll (fun g e => (hr0.lt g e).1) hb7a (Nat.le_refl _); obtain ⟨tp2, tc2, rfl⟩ := own_form hr8
   (try simp only [Nat.zero_add, List.nil_append] at hr8)
   obtain ⟨k8, z8, hRes, hBel⟩ := HF.out _ w8 hb8 hr8
   (try simp only [Nat.zero_add])
   clear hr8 hg8 hb8 hr0 hcs hb7a k7 HF; go_wp2; go_ret; exact ⟨_, rfl, hRes, hBel⟩
theorem B5.sl {W : World} {g : Nat} {l : List UInt8} {n : Nat} (h : B5 W g l) (hn : l.length = n) : Sl W (.slice (some ⟨g, 0, none⟩) n n) l := by
 refine .inr ⟨⟨g, 0, none⟩, n, by rw [hn], by omega, fun j x hj => ?_⟩
 rw [Addr.add_lit, Nat.zero_add]
 exact cell_of W g _ _ 5 _ h ((bv_get l _ _).2 ⟨x, hj, rfl⟩)
theorem allF_take (bs : List (Int × List UInt8)) (k : Nat) (hk : k < bs.length) : allF (bs.take (k + 1)) = (allF (bs.take k) && ((bs[k]).2.length == 16384)) := by
 unfold allF; rw [List.take_succ_eq_append_getElem hk, List.all_append]; simp only [List.all_cons, List.all_nil, Bool.and_true]
set_option maxHeartbeats 4000000
set_option maxRecDepth 100000
theorem rrest_loop (p : Option Addr) (c : Nat) (bs : List (Int × List UInt8)) (hl : bs.length * 32 <= room) (rp sp : Option Addr) (rc sc' : Nat) (m : MS) (w : World) (h : BnS w p bs) (ram scr : List UInt8) (hm : mayB (-1) bs = true) (q1 : ram.length = 16384) (q2 : scr.length = 3072) (q : m.ch < 16) (hr : Sl w (.slice rp ram.length rc) ram) (hs : Sl w (.slice sp scr.length sc') scr) (hdl : allF bs = true -> ∀ t ∈ bs, t.2.length <= 16384) :
  Calls Tryz.prog 74 #[.agg (imgC (.slice p bs.length c) (.slice rp ram.length rc) (.slice sp scr.length sc') m).toArray] w fun e w' =>
   (allF bs = false /\ e = .returned (.tuple #[.pointer none, .int .i64 2]) /\ Below w.heap.size w w') \/
   (allF bs = true /\ ∃ b, e = .returned (.tuple #[.pointer (some ⟨b, 0, none⟩), .int .i64 0]) /\ HasR w' (fun k => w.heap.size <= k) b (padB bs) { m with ram := padN 16384 ram, scr := padN 3072 scr, cyc := 0, tones := [] } /\ Below w.heap.size w w') := by
 obtain ⟨w1, hw1⟩ : ∃ w1, w.alloc (.cells (imgC (.slice p bs.length c) (.slice rp ram.length rc) (.slice sp scr.length sc') m).toArray 104) = w1 := ⟨_, rfl⟩
 have hB1 : Below w.heap.size w w1 := by rw [<- hw1]; exact (Below.refl _ w).alloc (Nat.le_refl _) _
 have hx : w1.heap[w.heap.size]? = some (.cells (imgC (.slice p bs.length c) (.slice rp ram.length rc) (.slice sp scr.length sc') m).toArray 104 (0, 0)) := by rw [<- hw1]; exact heap_alloc_new w _
 have hz : w1.heap.size = w.heap.size + 1 := by rw [<- hw1]; simp
 have hmy := mayBanks_any p c bs (by omega) w1 (h.below hB1)
 have k0 := cell_of w1 _ 0 _ 104 _ hx rfl
 have HX : Hid _ := hx
 have HB1 : Hid _ := hB1
 have HZ : Hid _ := hz
 unfold room at hl
 clear hx hB1 hz
 unfold imgC at hw1 ⊢
 rw [hm] at hmy
 have d1 : ((ram.length : Int) == 16384) = true := by simp; omega
 have d2 : ((scr.length : Int) == 3072) = true := by simp; omega
 have d3 : decide (m.ch < 16) = true := by simpa using q
 have HRL : Hid (ram.length = 16384 /\ scr.length = 3072) := ⟨q1, q2⟩
 have HR : Hid _ := hr
 have HS : Hid _ := hs
 clear q1 q2 q hr hs
 go_enter Tryz.func74, Tryz.ntmps74
 go_wp2_with fail
 clear hw1
 refine hmy.mono ?_
 rintro e w2 ⟨rfl, hb2⟩
 have hB2 : Below w.heap.size w w2 := HB1.out.trans (hb2.mono HB1.out.size)
 have hx2 := (hb2.block _ (by rw [HZ.out]; omega)).trans HX.out
 have hz2 : w.heap.size < w2.heap.size := by have := hb2.size; have := HZ.out; omega
 have q0 := cell_of w2 _ 0 _ 104 _ hx2 rfl
 have q1 := cell_of w2 _ 1 _ 104 _ hx2 rfl
 have q2 := cell_of w2 _ 2 _ 104 _ hx2 rfl
 have q3 := cell_of w2 _ 3 _ 104 _ hx2 rfl
 have HX2 : Hid _ := hx2
 have HB2 : Hid _ := hB2
 clear hmy hb2 hx2 hB2 k0
 go_wp2
 go_loopw [4, 31] (fun o i wr => ∃ k : Nat, k <= bs.length /\ o = .bool (allF (bs.take k)) /\ i = .int .i64 (k : Int) /\ Below w2.heap.size w2 wr) (fun _ i _ => bs.length - (intOf i).toNat)
 case atStart => exact ⟨0, by omega, rfl, rfl, Below.refl _ _⟩
 case round =>
  obtain ⟨k, hk, rfl, rfl, hB⟩ := hrel; have hBw : Below w.heap.size w wr := HB2.out.trans (hB.mono (Nat.le_of_lt hz2))
  by_cases hlt : k < bs.length
  ·have i1 : (k : Int) < bs.length := by omega
   obtain ⟨b, o, dv, rfl, e1, e2, e3, e4⟩ := h.below hBw k bs[k] (List.getElem?_eq_getElem hlt); obtain ⟨dp, dc, rfl, _⟩ := e3.ex; have hB3 : Below w2.heap.size w2 (wr.alloc (Obj.cells #[.int .i64 (bs[k]).1, .slice dp (bs[k]).2.length dc] 81)) := hB.alloc hB.size _; have hat := allF_take bs k hlt; generalize (bs[k]).1 = n at *
   generalize (bs[k]).2.length = L at *
   have HB : Hid _ := hB3; have HT : Hid _ := hat; clear hB3 hB hBw e3 hat
   cases hak : allF (bs.take k) with
   | false =>
    have hn : allF (bs.take (k + 1)) = false := by rw [HT.out, hak]; rfl
    have HN : Hid _ := hn; clear hn HT; go_wp2; go_roundw
    case rel =>
     first
      | exact ⟨k + 1, by omega, by rw [HN.out], by go_num, HB.out⟩
      | ((repeat apply Exists.intro); refine ⟨⟨k + 1, by omega, by rw [HN.out], ?_, HB.out⟩, rfl⟩; go_num)
    case measure => simp [intOf]; omega
   | true =>
    have hn : allF (bs.take (k + 1)) = (L == 16384) := by rw [HT.out, hak]; rfl
    have hn2 : ((L : Int) == 16384) = (L == 16384) := by
     by_cases c : L = 16384
     ·subst c; rfl
     ·have a1 : ((L : Int) == 16384) = false := by simp; omega
      have a2 : (L == 16384) = false := by simpa using c
      rw [a1, a2]
    have HN : Hid _ := hn; have HN2 : Hid _ := hn2; clear hn HT hn2
    cases hL : (L == 16384) with
    | false =>
     have d9 : ((L : Int) == 16384) = false := by rw [HN2.out, hL]
     go_wp2; go_roundw
     case rel =>
      first
       | exact ⟨k + 1, by omega, by rw [HN.out, hL], by go_num, HB.out⟩
       | ((repeat apply Exists.intro); refine ⟨⟨k + 1, by omega, by rw [HN.out, hL], ?_, HB.out⟩, rfl⟩; go_num)
     case measure => simp [intOf]; omega
    | true =>
     have d9 : ((L : Int) == 16384) = true := by rw [HN2.out, hL]
     go_wp2; go_roundw
     case rel =>
      first
       | exact ⟨k + 1, by omega, by rw [HN.out, hL], by go_num, HB.out⟩
       | ((repeat apply Exists.intro); refine ⟨⟨k + 1, by omega, by rw [HN.out, hL], ?_, HB.out⟩, rfl⟩; go_num)
     case measure => simp [intOf]; omega
  ·obtain rfl : k = bs.length := by omega
   have hx3 := (hB.block _ hz2).trans HX2.out; have a0 := cell_of wr _ 0 _ 104 _ hx3 rfl; have a1 := cell_of wr _ 1 _ 104 _ hx3 rfl; have a2 := cell_of wr _ 2 _ 104 _ hx3 rfl; have a3 := cell_of wr _ 3 _ 104 _ hx3 rfl; have a4 := cell_of wr _ 4 _ 104 _ hx3 rfl; have a5 := cell_of wr _ 5 _ 104 _ hx3 rfl; have a6 := cell_of wr _ 6 _ 104 _ hx3 rfl; have a7 := cell_of wr _ 7 _ 104 _ hx3 rfl; have htl : bs.take bs.length = bs := List.take_length
   cases haf : allF bs with
   | false =>
    have haf2 : allF (bs.take bs.length) = false := by rw [htl]; exact haf
    clear htl; go_wp2
    go_ret2
    exact .inl ⟨haf, rfl, hBw⟩
   | true =>
    have haf2 : allF (bs.take bs.length) = true := by rw [htl]; exact haf
    have hbn := hdl haf; obtain ⟨w3, hw3⟩ : ∃ w3, wr.alloc (.cells #[.slice p bs.length c, .slice rp ram.length rc, .slice sp scr.length sc', .int .u8 m.ch, .int .u8 m.pad, .int .u16 m.pitch, .int .u8 m.vol, .int .u16 m.time, .int .i64 0, .slice none 0 0] 95) = w3 := ⟨_, rfl⟩
    have hB3 : Below w.heap.size w w3 := by rw [<- hw3]; exact hBw.alloc hBw.size _
    have hRV : RV w3 wr.heap.size bs { m with ram := ram, scr := scr, cyc := 0, tones := [] } p c (.slice rp ram.length rc) (.slice sp scr.length sc') (.slice none 0 0) := by
     refine ⟨by rw [<- hw3]; exact heap_alloc_new wr _, h.below hB3, Sl.below HR.out hB3, Sl.below HS.out hB3, .inl ⟨rfl, rfl, rfl⟩, by simp only [HRL.out.1]; omega, by simp only [HRL.out.2]; omega, by unfold room; omega, hbn, by simp⟩
    have hcp := rcopy_any wr.heap.size bs _ p c _ _ _ w3 hRV; have HBw : Hid _ := hB3; clear htl hRV hB3 hBw hB hx3 hbn; go_wp2_with fail
    refine hcp.mono ?_; rintro e w4 ⟨b', rfl, hR4, hb4⟩
    have hfin : HasR w4 (fun k => w.heap.size <= k) b' (padB bs) { m with ram := padN 16384 ram, scr := padN 3072 scr, cyc := 0, tones := [] } := by
     obtain ⟨u0, gr, gc, gs, tv, hx⟩ := hR4; have z3 := HBw.out.size; exact ⟨u0, gr, gc, gs, tv, ⟨hx.blk, hx.banks, hx.ram, hx.scr, hx.rl, hx.sl, hx.tones, hx.nr, hx.nc, hx.rc, Nat.le_trans z3 hx.fb, fun g e => Nat.le_trans z3 (hx.fu g e), fun y hy => Nat.le_trans z3 (hx.fg y hy), Nat.le_trans z3 hx.fr, Nat.le_trans z3 hx.fc, fun g e => Nat.le_trans z3 (hx.ft g e)⟩⟩
    have HF : Hid _ := hfin; have HB9 : Hid _ := HBw.out.trans (hb4.mono HBw.out.size); clear hcp hR4 hb4 hfin hw3; go_wp2
    go_ret2
    exact .inr ⟨haf, _, rfl, HF.out, HB9.out⟩
theorem RB.ex {W : World} {B : Nat} {v : Value} {bs : List (Int × List UInt8)} {gs : List (Nat × Nat)} (h : RB W B v bs gs) : ∃ p c, v = .slice p bs.length c /\ BnS W p bs := by
 rcases h.row.2 with ⟨rfl, e⟩ | ⟨g, cap, cur, rfl, _⟩
 ·have : bs = [] := List.eq_nil_of_length_eq_zero e
  subst this; exact ⟨none, 0, rfl, fun i t ht => by simp at ht⟩
 ·refine ⟨_, cap, rfl, fun i t ht => ?_⟩
  have hi := (List.getElem?_eq_some_iff.1 ht).1; have hig : i < gs.length := by rw [h.len]; exact hi
  have hg : gs[i]? = some gs[i] := List.getElem?_eq_getElem hig; obtain ⟨k1, k2⟩ := bcs_get bs gs i t _ ht hg; have c1 := World.ownsRow.cells h.row (g := g) rfl _ _ k1; have c2 := World.ownsRow.cells h.row (g := g) rfl _ _ k2; rw [Addr.add_lit] at c1 c2; obtain ⟨x1, x2, x3, _⟩ := h.dat i t _ ht hg; rw [x2, x3] at c2; refine ⟨g, 0, _, rfl, c1, c2, B5.sl x1 x3, by rw [x3]; unfold room; omega⟩
theorem MemR.rv {W : World} {F : Nat -> Prop} {b : Nat} {bs : List (Int × List UInt8)} {m : MS} {u : Value} {gr gc : Nat} {gs : List (Nat × Nat)} {tv : Value} (h : MemR W F b bs m u gr gc gs tv) (hl : bs.length <= 16) (ht : m.tones.length <= 1000000) :
  ∃ pb c, u = .slice pb bs.length c /\ RV W b bs m pb c (.slice (some ⟨gr, 0, none⟩) 16384 16384) (.slice (some ⟨gc, 0, none⟩) 3072 3072) tv := by
 obtain ⟨p, c, rfl, hb⟩ := h.banks.ex
 refine ⟨p, c, rfl, h.blk, hb, B5.sl h.ram h.rl, B5.sl h.scr h.sl, TRow.cs h.tones, by rw [h.rl]; omega, by rw [h.sl]; omega, by unfold room; omega, fun t ht => ?_, ht⟩
 obtain ⟨i, hi, e⟩ := List.mem_iff_getElem.1 ht
 have hg : i < gs.length := by rw [h.banks.len]; exact hi
 have := (h.banks.dat i t _ (by rw [List.getElem?_eq_getElem hi, e]) (List.getElem?_eq_getElem hg)).2.2.1
 omega
theorem padB_full (bs : List (Int × List UInt8)) (h : ∀ t ∈ bs, t.2.length = 16384) : padB bs = bs := by
 unfold padB
 conv => rhs; rw [<- List.map_id bs]
 apply List.map_congr_left
 intro t ht
 rw [padN_full _ _ (h t ht)]; rfl
theorem inO_full (m : MS) (hw : Wf m) (k : Nat) : ∀ t ∈ inO m k, t.2.length = 16384 := by
 intro t ht
 obtain ⟨n, hn⟩ := inO_fst m k t ht
 have : ((n : Int), t.2) ∈ inO m k := by rw [<- hn]; exact ht
 exact (hw.bk _ _ ((inO_mem m n t.2 k).1 this).2).2
theorem rcopy_is (b : Nat) (w : World) {F : Nat -> Prop} {m : MS} (hm : IsR w F b m) (ht : m.tones.length <= 1000000) :
  Calls Tryz.prog 62 #[.pointer (some ⟨b, 0, none⟩)] w fun e w' => ∃ b', e = .returned (.pointer (some ⟨b', 0, none⟩)) /\ IsR w' (fun k => w.heap.size <= k) b' m /\ Below w.heap.size w w' := by
 obtain ⟨hw, u, gr, gc, gs, tv, h⟩ := hm
 obtain ⟨p, c, rfl, hv⟩ := h.rv (inO_len m 16) ht
 refine (rcopy_any b _ m p c _ _ _ w hv).mono ?_
 rintro e w' ⟨b', rfl, hR, hB⟩
 rw [padB_full _ (inO_full m hw 16), padN_full _ _ hw.ram, padN_full _ _ hw.scr] at hR
 exact ⟨b', rfl, ⟨hw, hR⟩, hB⟩
structure RIm (W : World) (pb : Option Addr) (gr gc : Nat) (m : MS) : Prop where
 bn : BnS W pb (inO m 16)
 ram : Sl W (.slice (some ⟨gr, 0, none⟩) 16384 16384) m.ram
 scr : Sl W (.slice (some ⟨gc, 0, none⟩) 3072 3072) m.scr
theorem may_pw : ∀ (bs : List (Int × List UInt8)) (last : Int), (∀ t ∈ bs, last < t.1 /\ t.1 < 16 /\ t.2.length <= 16384) -> bs.Pairwise (fun a b => a.1 < b.1) -> mayB last bs = true
 | [], _, _, _ => rfl
 | t :: r, last, h, hp => by
  have h0 := h t (List.mem_cons_self ..); rw [List.pairwise_cons] at hp; have ih := may_pw r t.1 (fun u hu => ⟨hp.1 u hu, (h u (List.mem_cons_of_mem _ hu)).2⟩) hp.2; rw [mayB, if_neg (by omega)]; exact ih
theorem inO_lt (m : MS) (k : Nat) (t : Int × List UInt8) (h : t ∈ inO m k) : ∃ n : Nat, t.1 = (n : Int) /\ n < k /\ m.banks n = some t.2 := by
 obtain ⟨n, hn⟩ := inO_fst m k t h
 have : ((n : Int), t.2) ∈ inO m k := by rw [<- hn]; exact h
 have e := (inO_mem m n t.2 k).1 this
 exact ⟨n, hn, e.1, e.2⟩
theorem inO_pw (m : MS) : ∀ k, (inO m k).Pairwise (fun a b => a.1 < b.1)
 | 0 => by simp [inO]
 | k + 1 => by
  have ih := inO_pw m k
  cases hb : m.banks k with
  | none => rw [inO_none m k hb]; exact ih
  | some x =>
   rw [inO_some m k x hb, List.pairwise_append]; refine ⟨ih, by simp, fun a ha b hb' => ?_⟩; obtain ⟨n, hn, hlt, _⟩ := inO_lt m k a ha
   simp at hb'
   subst hb'; simp only
   omega
theorem inO_may (m : MS) (hw : Wf m) : mayB (-1) (inO m 16) = true := by
 refine may_pw _ _ (fun t ht => ?_) (inO_pw m 16)
 obtain ⟨n, hn, hlt, hb⟩ := inO_lt m 16 t ht
 have := (hw.bk n _ hb).2
 omega
theorem inO_wh (m : MS) (hw : Wf m) : whB (inO m 16) m.ram m.scr m.ch = true := by
 have h1 : allF (inO m 16) = true := by
  rw [allF, List.all_eq_true]; intro t ht; have := inO_full m hw 16 t ht
  simpa using this
 simp [whB, h1, hw.ram, hw.scr, hw.ch1]
theorem nbk_inO (m : MS) (hw : Wf m) : nbk (inO m 16) = m.banks := by
 funext n
 unfold nbk
 cases hf : (inO m 16).find? (fun t => t.1 == (n : Int)) with
 | none =>
  cases hb : m.banks n with
  | none => rfl
  | some l =>
   exfalso
   rw [List.find?_eq_none] at hf; have := hf ((n : Int), l) ((inO_mem m n l 16).2 ⟨(hw.bk n l hb).1, hb⟩)
   simp at this
 | some t =>
  have h1 := List.mem_of_find?_eq_some hf; have h2 := List.find?_some hf; obtain ⟨k, hk, _, hb⟩ := inO_lt m 16 t h1; have e : k = n := by simp at h2; omega
  subst e; have hl := (hw.bk k _ hb).2; rw [hb]; simp only [Option.map_some, Option.some.injEq]; rw [pad, hl]; simp
def rs (m : MS) : MS := { m with cyc := 0, tones := [] }
theorem mR_rs (m : MS) (hw : Wf m) : mR (inO m 16) m.ram m.scr m = rs m := by
 unfold mR rs
 rw [nbk_inO m hw]
set_option maxHeartbeats 2000000
set_option maxRecDepth 100000
def ms0 : MS := ⟨fl 16384 [] 0, fl 3072 [] 0, 0, 0, 0, 0, 0, 0, [], fun _ => none⟩
structure NW (w wM : World) (gr gc : Nat) : Prop where
 ram : B5 wM gr ms0.ram
 scr : B5 wM gc ms0.scr
 ne : gr ≠ gc
 lr : w.heap.size <= gr
 lc : w.heap.size <= gc
 bel : Below w.heap.size w wM
theorem nw_a (w : World) : NW w ((w.alloc (.cells (bv (fl 16384 [] 0)).toArray 5)).alloc (.cells (bv (fl 3072 [] 0)).toArray 5)) w.heap.size (w.heap.size + 1) := by
 refine ⟨(Below.heap_alloc _ _ _ (by simp)).trans (heap_alloc_new w _), ?_, by omega, Nat.le_refl _, by omega, ((Below.refl _ w).alloc (Nat.le_refl _) _).alloc (by simp) _⟩
 have := heap_alloc_new (w.alloc (.cells (bv (fl 16384 [] 0)).toArray 5)) (.cells (bv (fl 3072 [] 0)).toArray 5)
 have e : (w.alloc (.cells (bv (fl 16384 [] 0)).toArray 5)).heap.size = w.heap.size + 1 := by simp
 rw [e] at this; exact this
theorem nw_b (w : World) : NW w ((w.alloc (.cells (bv (fl 3072 [] 0)).toArray 5)).alloc (.cells (bv (fl 16384 [] 0)).toArray 5)) (w.heap.size + 1) w.heap.size := by
 refine ⟨?_, (Below.heap_alloc _ _ _ (by simp)).trans (heap_alloc_new w _), by omega, by omega, Nat.le_refl _, ((Below.refl _ w).alloc (Nat.le_refl _) _).alloc (by simp) _⟩
 have := heap_alloc_new (w.alloc (.cells (bv (fl 3072 [] 0)).toArray 5)) (.cells (bv (fl 16384 [] 0)).toArray 5)
 have e : (w.alloc (.cells (bv (fl 3072 [] 0)).toArray 5)).heap.size = w.heap.size + 1 := by simp
 rw [e] at this; exact this
theorem new_end {w w2 wM wr : World} {gr gc : Nat} {v : Value} {bs : List (Int × List UInt8)} {gs : List (Nat × Nat)} (hb : Below w.heap.size w w2) (hNW : NW w2.drew wM gr gc) (hBw : Below w.heap.size w wr)
  (hC : CR wM wr v (.slice (some ⟨gr, 0, none⟩) 16384 16384) (.slice (some ⟨gc, 0, none⟩) 3072 3072) ms0 (.slice none 0 0) bs gs) :
  HasR wr (fun k => w.heap.size <= k) wM.heap.size bs ms0 /\ Below w.heap.size w wr := by
 have z1 := hb.size
 have z2 : w2.heap.size <= wM.heap.size := hNW.bel.size
 have lr : w2.heap.size <= gr := hNW.lr
 have lc : w2.heap.size <= gc := hNW.lc
 have hr := lt_of hNW.ram
 have hc := lt_of hNW.scr
 have hmem : ∀ y ∈ gs, wM.heap.size + 1 <= y.1 := by
  intro y hy; obtain ⟨i, hi, e⟩ := List.mem_iff_getElem.1 hy; have hb' : i < bs.length := by rw [<- hC.banks.len]; exact hi
  exact (hC.banks.dat i bs[i] y (List.getElem?_eq_getElem hb') (by rw [List.getElem?_eq_getElem hi, e])).2.2.2
 refine ⟨⟨v, gr, gc, gs, .slice none 0 0, hC.blk, ⟨hC.banks.len, own_mono hC.banks.row (Nat.zero_le _), fun i t g a c => by obtain ⟨x1, x2, x3, _⟩ := hC.banks.dat i t g a c; exact ⟨x1, x2, x3, Nat.zero_le _⟩, hC.banks.nd⟩, (hC.bel.block _ hr).trans hNW.ram, (hC.bel.block _ hc).trans hNW.scr, fl_len 16384 [] 0 (by simp) (by simp), fl_len 3072 [] 0 (by simp) (by simp), World.ownsRow_nil _ _ _ _, ?_, ?_, hNW.ne, ?_, ?_, ?_, ?_, ?_, ?_⟩, hBw⟩
 ·intro y hy; have := hmem y hy; omega
 ·intro y hy; have := hmem y hy; omega
 ·show w.heap.size <= wM.heap.size; omega
 ·intro g e; have := (hC.banks.row.lt g e).1; show w.heap.size <= g; omega
 ·intro y hy; have := hmem y hy; show w.heap.size <= y.1; omega
 ·show w.heap.size <= gr; omega
 ·show w.heap.size <= gc; omega
 ·intro g e; simp [Value.ownBlock] at e
set_option maxHeartbeats 4000000
set_option maxRecDepth 100000
theorem rnew_yes (p : Option Addr) (c : Nat) (bs : List (Int × List UInt8)) (hl : bs.length * 32 <= room) (w : World) (h : BnS w p bs) (hm : mayB (-1) bs = true) (hd : ∀ t ∈ bs, t.2.length <= 16384) :
  Calls Tryz.prog 61 #[.slice p bs.length c] w fun e w' => ∃ b, e = .returned (.tuple #[.pointer (some ⟨b, 0, none⟩), .int .i64 0]) /\ HasR w' (fun k => w.heap.size <= k) b (padB bs) ms0 /\ Below w.heap.size w w' := by
 have hmy := mayBanks_any p c bs (by omega) w h
 rw [hm] at hmy
 have hmk1 : ∀ W : World, (Instr.makeSlice 22 (.int .i64 16384) (.int .i64 16384)).run Tryz.prog W = .ok (.slice (some ⟨W.heap.size, 0, none⟩) 16384 16384) (W.alloc (.cells (bv (fl 16384 [] 0)).toArray 5)) := fun W => by
  rw [<- made_eq 16384 []]; exact run_make_row' (P := Tryz.prog) 22 5 (.int .u8 0) 1 Tryz.underlying22 info5 rfl .i64 .i64 16384 (by omega) (by omega) W
 have hmk2 : ∀ W : World, (Instr.makeSlice 22 (.int .i64 3072) (.int .i64 3072)).run Tryz.prog W = .ok (.slice (some ⟨W.heap.size, 0, none⟩) 3072 3072) (W.alloc (.cells (bv (fl 3072 [] 0)).toArray 5)) := fun W => by
  rw [<- made_eq 3072 []]; exact run_make_row' (P := Tryz.prog) 22 5 (.int .u8 0) 1 Tryz.underlying22 info5 rfl .i64 .i64 3072 (by omega) (by omega) W
 have HH : Hid _ := h
 clear h hm
 unfold room at hl
 go_enter Tryz.func61, Tryz.ntmps61
 go_wp2_with fail
 refine hmy.mono ?_
 rintro e w2 ⟨rfl, hb⟩
 have HB : Hid _ := hb
 clear hb hmy
 go_wp2_with fail
 go_region
 all_goals
  go_wp2_with fail
  clear hmk1 hmk2
  go_loopw [16] (fun i wr => ∃ (wM : World) (k gr gc : Nat) (v : Value) (gs : List (Nat × Nat)), wM.heap.size = w2.heap.size + 1 + 1 /\ NW w2.drew wM gr gc /\ k <= bs.length /\ i = .int .i64 (k : Int) /\ CR wM wr v (.slice (some ⟨gr, 0, none⟩) 16384 16384) (.slice (some ⟨gc, 0, none⟩) 3072 3072) ms0 (.slice none 0 0) (padB (bs.take k)) gs) (fun i _ => bs.length - (intOf i).toNat)
  case atStart =>
   first
    | exact ⟨_, 0, _, _, _, [], by simp, nw_a w2.drew, by omega, rfl, CR.start ((w2.drew.alloc (.cells (bv (fl 16384 [] 0)).toArray 5)).alloc (.cells (bv (fl 3072 [] 0)).toArray 5)) _ _ ms0 _⟩
    | exact ⟨_, 0, _, _, _, [], by simp, nw_b w2.drew, by omega, rfl, CR.start ((w2.drew.alloc (.cells (bv (fl 3072 [] 0)).toArray 5)).alloc (.cells (bv (fl 16384 [] 0)).toArray 5)) _ _ ms0 _⟩
  case round =>
   obtain ⟨wM, k, gr, gc, v, gs, hNM, hNW, hk, rfl, hC⟩ := hrel; rw [<- hNM]; have HNM : Hid _ := hNM; have HNW : Hid _ := hNW; have hBM : Below w.heap.size w wM := HB.out.drew.trans (hNW.bel.mono HB.out.size); have hBw : Below w.heap.size w wr := hBM.trans (hC.bel.mono hBM.size); clear hNM hNW hBM
   by_cases hlt : k < bs.length
   ·have i1 : (k : Int) < bs.length := by omega
    obtain ⟨bb, o, dv, rfl, e1, e2, e3, e4⟩ := (BnS.below HH.out hBw) k bs[k] (List.getElem?_eq_getElem hlt); have hdl := hd bs[k] (List.getElem_mem hlt); clear hBw; have htk : padB (bs.take (k + 1)) = padB (bs.take k) ++ [((bs[k]).1, padN 16384 (bs[k]).2)] := by rw [List.take_succ_eq_append_getElem hlt, padB_snoc]
    generalize bs[k] = t at *
    have hbL : Below wr.heap.size wr (wr.alloc (.cells #[.int .i64 t.1, dv] 81)).drew := ((Below.refl _ _).alloc (Nat.le_refl _) _).drew; have hv2 : (wr.alloc (.cells #[.int .i64 t.1, dv] 81)).drew.heap[wr.heap.size]? = some (.cells [.int .i64 t.1, dv].toArray 81 (0, 0)) := heap_alloc_new wr _; have hfu := full_any dv t.2 16384 (by omega) hdl (wr.alloc (.cells #[.int .i64 t.1, dv] 81)).drew (Sl.below e3 hbL); have hN := hC.siz; have hz1 : (wr.alloc (.cells #[.int .i64 t.1, dv] 81)).drew.heap.size = wr.heap.size + 1 := by simp
    have hne : wr.heap.size ≠ wM.heap.size := by omega
    have cN : (wr.alloc (.cells #[.int .i64 t.1, dv] 81)).cell? ⟨wM.heap.size, 0, none⟩ = some v := cell_of _ _ 0 _ 95 _ ((Below.heap_alloc wr _ _ (by omega)).trans hC.blk) rfl; have s1 : (wr.alloc (.cells #[.int .i64 t.1, dv] 81)).drew.cell? ⟨wr.heap.size, 0, none⟩ = some (.int .i64 t.1) /\ (wr.alloc (.cells #[.int .i64 t.1, dv] 81)).drew.cell? ⟨wr.heap.size, 1, none⟩ = some dv := ⟨cell_of _ _ 0 _ 81 _ hv2 rfl, cell_of _ _ 1 _ 81 _ hv2 rfl⟩
    obtain ⟨vp, vc, hvf⟩ := own_form hC.banks.row; subst hvf; have hlk : (padB (bs.take k)).length = k := by simp [padB]; omega
    rw [hlk] at hC cN
    have hend : ∀ w2 : World, Below (wr.alloc (.cells #[.int .i64 t.1, dv] 81)).drew.heap.size (wr.alloc (.cells #[.int .i64 t.1, dv] 81)).drew w2 -> B5 w2 (wr.heap.size + 1) (padN 16384 t.2) -> w2.heap.size = wr.heap.size + 1 + 1 ->
      w2.cell? ⟨wM.heap.size, 0, none⟩ = some (.slice vp k vc) /\ (w2.cell? ⟨wr.heap.size, 0, none⟩ = some (.int .i64 t.1) /\ w2.cell? ⟨wr.heap.size, 1, none⟩ = some dv) /\
      ((w2.alloc (.cells #[.int .i64 t.1, .slice (some ⟨wr.heap.size + 1, 0, none⟩) 16384 16384] 81)).cell? ⟨wM.heap.size, 0, none⟩ = some (.slice vp k vc)) /\
      ((w2.alloc (.cells #[.int .i64 t.1, .slice (some ⟨wr.heap.size + 1, 0, none⟩) 16384 16384] 81)).cell? ⟨wr.heap.size, 0, none⟩ = some (.int .i64 t.1) /\ (w2.alloc (.cells #[.int .i64 t.1, .slice (some ⟨wr.heap.size + 1, 0, none⟩) 16384 16384] 81)).cell? ⟨wr.heap.size, 1, none⟩ = some dv) /\
      (w2.alloc (.cells #[.int .i64 t.1, .slice (some ⟨wr.heap.size + 1, 0, none⟩) 16384 16384] 81)).ownsRow (wM.heap.size + 1) 81 2 (.slice vp k vc) k (bcs (padB (bs.take k)) gs) /\
      Cs (w2.alloc (.cells #[.int .i64 t.1, .slice (some ⟨wr.heap.size + 1, 0, none⟩) 16384 16384] 81)) (.slice (some ⟨w2.heap.size, 0, none⟩) 1 1) 2 1 (bc (t.1, padN 16384 t.2) (wr.heap.size + 1, 16384)) /\
      wM.heap.size + 1 <= (w2.alloc (.cells #[.int .i64 t.1, .slice (some ⟨wr.heap.size + 1, 0, none⟩) 16384 16384] 81)).heap.size /\
      (∀ v' w4, w4.ownsRow (wM.heap.size + 1) 81 2 v' (k + 1) (bcs (padB (bs.take k)) gs ++ bc (t.1, padN 16384 t.2) (wr.heap.size + 1, 16384)) -> Grew (w2.alloc (.cells #[.int .i64 t.1, .slice (some ⟨wr.heap.size + 1, 0, none⟩) 16384 16384] 81)) w4 (.slice vp k vc) v' ->
       (w4.cell? ⟨wr.heap.size, 0, none⟩ = some (.int .i64 t.1) /\ w4.cell? ⟨wr.heap.size, 1, none⟩ = some dv) /\ w4.cell? ⟨wM.heap.size, 0, none⟩ = some (.slice vp k vc) /\ w4.frozen? ⟨wM.heap.size, 0, none⟩ = false /\
       CR wM (w4.setCell ⟨wM.heap.size, 0, none⟩ v') v' (.slice (some ⟨gr, 0, none⟩) 16384 16384) (.slice (some ⟨gc, 0, none⟩) 3072 3072) ms0 (.slice none 0 0) (padB (bs.take (k + 1))) (gs ++ [(wr.heap.size + 1, 16384)])) := by
     intro w2 hb2 h52 hz2; have kp : ∀ j, j < wr.heap.size + 1 -> w2.heap[j]? = (wr.alloc (.cells #[.int .i64 t.1, dv] 81)).drew.heap[j]? := fun j hj => hb2.block j (by omega)
     have kw : ∀ j, j < wr.heap.size -> w2.heap[j]? = wr.heap[j]? := fun j hj => (kp j (by omega)).trans (Below.heap_alloc wr _ j hj)
     have b2 := (kw wM.heap.size (by omega)).trans hC.blk; have v2 := (kp wr.heap.size (by omega)).trans hv2; have al : ∀ j, j < w2.heap.size -> (w2.alloc (.cells #[.int .i64 t.1, .slice (some ⟨wr.heap.size + 1, 0, none⟩) 16384 16384] 81)).heap[j]? = w2.heap[j]? := fun j hj => Below.heap_alloc w2 _ j hj
     have b3 := (al wM.heap.size (by omega)).trans b2; have v3 := (al wr.heap.size (by omega)).trans v2; have hln : (padN 16384 t.2).length = 16384 := padN_len _ _ hdl; refine ⟨cell_of _ _ 0 _ 95 _ b2 rfl, ⟨cell_of _ _ 0 _ 81 _ v2 rfl, cell_of _ _ 1 _ 81 _ v2 rfl⟩, cell_of _ _ 0 _ 95 _ b3 rfl, ⟨cell_of _ _ 0 _ 81 _ v3 rfl, cell_of _ _ 1 _ 81 _ v3 rfl⟩, ?_, ?_, by simp; omega, ?_⟩
     ·have := hC.banks.row
      rw [hlk] at this; exact own_kept this fun g e hg => (al g (by omega)).trans (kw g hg)
     ·refine .inr ⟨⟨w2.heap.size, 0, none⟩, 1, rfl, rfl, ?_, by intro x hx; simp [bc] at hx; rcases hx with rfl | rfl <;> rfl⟩
      intro j x hj
      have hn : (w2.alloc (.cells #[.int .i64 t.1, .slice (some ⟨wr.heap.size + 1, 0, none⟩) 16384 16384] 81)).heap[w2.heap.size]? = some (.cells (bc (t.1, padN 16384 t.2) (wr.heap.size + 1, 16384)).toArray 81 (0, 0)) := by
       simp only [bc, hln]; exact heap_alloc_new w2 _
      have e : (⟨w2.heap.size, 0, none⟩ : Addr).add j = ⟨w2.heap.size, j, none⟩ := by rw [Addr.add_lit]; simp
      rw [e]; exact cell_of _ _ _ _ 81 x hn hj
     ·intro v' w4 ho hg
      have nv : ∀ j, j <= wM.heap.size \/ j = wr.heap.size -> some j ≠ (Value.slice vp k vc).ownBlock := by
       intro j hj e
       rcases hj with hj | hj
       ·have := (hC.banks.row.lt j e.symm).1; omega
       ·have := (hC.banks.row.lt j e.symm).2; omega
      have b4 := (hg.block wM.heap.size (by simp; omega) (nv _ (.inl (Nat.le_refl _)))).trans b3; have v4 := (hg.block wr.heap.size (by simp; omega) (nv _ (.inr rfl))).trans v3; refine ⟨⟨cell_of _ _ 0 _ 81 _ v4 rfl, cell_of _ _ 1 _ 81 _ v4 rfl⟩, cell_of _ _ 0 _ 95 _ b4 rfl, frozen_of _ _ 0 _ 95 b4, ?_⟩; rw [htk]; exact hC.step (t.1, padN 16384 t.2) (wr.heap.size + 1) _ _ hb2 hz1.symm h52 hln hg (by rw [hlk]; exact ho)
    obtain ⟨dp, dc, rfl, _⟩ := e3.ex; rw [hz1] at hfu; have hk1 : (k + 1) * 32 <= room := by unfold room; omega
    have hk2 : k + 1 <= maxLen := by unfold maxLen; omega
    have HE : Hid _ := hend; have HZ : Hid _ := hz1; clear hend hC e3 hv2 hbL htk hlk hz1; go_wp2_with fail
    obtain ⟨s1a, s1b⟩ := s1
    go_region_law
     (first
      | (refine step_append_row rfl (.tmp 24) (.tmp 31) 25 81 (.agg #[.int .i64 0, .slice none 0 0]) 2 32 Tryz.underlying25 info37 rfl (by decide) rfl (wM.heap.size + 1) (.slice vp k vc) k (bcs (padB (bs.take k)) gs) (by simp [Act.eval]) hown (.slice (some ⟨w2.heap.size, 0, none⟩) 1 1) 1 (bc (t.1, padN 16384 t.2) (wr.heap.size + 1, 16384)) (by simp [Act.eval]) hcs hk1 hk2 hwz ?_; intro v' w4 ho hg; obtain ⟨g9, cap9, rfl⟩ := own_pos ho (Nat.succ_pos k); obtain ⟨s4, cN4, zN4, hCR⟩ := hE2 (.slice (some ⟨g9, 0, none⟩) (k + 1) cap9) w4 ho hg; clear hE2 ho hg hown hcs s2a s2b cN2 cN3)
      | (refine step_full rfl (.tmp 28) (.const (.int .i64 16384)) rfl (.slice dp t.2.length dc) (.int .i64 16384) (by simp [Act.eval]) (by simp [Act.eval]) hfu ?_; rintro e w2 ⟨rfl, h52, hb2, hz2⟩; refine ⟨_, rfl, ?_⟩; obtain ⟨cN2, ⟨s2a, s2b⟩, cN3, s3, hown, hcs, hwz, hE2⟩ := HE.out w2 (by rw [HZ.out]; exact hb2) h52 hz2; clear hfu HE h52 hb2 hz2 s3 s1a s1b))
    all_goals
     have HC : Hid _ := hCR; clear hCR; go_wp2; go_roundw
     case rel =>
      first
       | exact ⟨wM, k + 1, gr, gc, _, _, by rw [HNM.out], HNW.out, by omega, by go_num, HC.out⟩
       | (refine ⟨wM, k + 1, gr, gc, _, _, ?_, HNW.out, by omega, ?_, HC.out⟩; exact HNM.out; go_num)
     case measure => simp [intOf]; omega
   ·obtain rfl : k = bs.length := by omega
    rw [List.take_length] at hC; have hfin := new_end (w := w) HB.out HNW.out hBw hC; have HF : Hid _ := hfin; clear hfin hC hBw; go_wp2
    go_ret2
    exact ⟨_, rfl, HF.out.1, HF.out.2⟩
theorem pw_of (bs : List (Int × List UInt8)) (h : Good bs bs.length) : bs.Pairwise fun a b => a.1 < b.1 := by
 rw [List.pairwise_iff_getElem]
 intro i j hi hj hij
 have h1 := good_le bs j (by omega) (h.mono (by omega)) i bs[i] hij (List.getElem?_eq_getElem hi)
 have h2 := h j bs[j] hj (List.getElem?_eq_getElem hj)
 omega
theorem filt_step (k : Int) : ∀ (bs : List (Int × List UInt8)), (bs.Pairwise fun a b => a.1 < b.1) -> bs.filter (fun t => decide (t.1 < k + 1)) = bs.filter (fun t => decide (t.1 < k)) ++ (bs.find? fun t => t.1 == k).toList
 | [], _ => rfl
 | t :: r, h => by
  rw [List.pairwise_cons] at h; have ih := filt_step k r h.2
  by_cases c1 : t.1 < k
  ·have e1 : decide (t.1 < k + 1) = true := by simp; omega
   have e2 : decide (t.1 < k) = true := by simpa using c1
   have e3 : (t.1 == k) = false := by simp; omega
   simp only [List.filter_cons, e1, e2, List.find?_cons, e3, if_true, List.cons_append, ih]
  ·have hr : ∀ x ∈ r, k < x.1 := fun x hx => by have := h.1 x hx; omega
   have f1 : r.filter (fun t => decide (t.1 < k + 1)) = [] := by rw [List.filter_eq_nil_iff]; intro x hx; have := hr x hx; simp; omega
   have f2 : r.filter (fun t => decide (t.1 < k)) = [] := by rw [List.filter_eq_nil_iff]; intro x hx; have := hr x hx; simp; omega
   have e2 : decide (t.1 < k) = false := by simpa using c1
   by_cases c2 : t.1 = k
   ·have e1 : decide (t.1 < k + 1) = true := by simp; omega
    have e3 : (t.1 == k) = true := by simpa using c2
    simp [List.filter_cons, e1, e2, e3, f1, f2]
   ·have e1 : decide (t.1 < k + 1) = false := by simp; omega
    have e3 : (t.1 == k) = false := by simpa using c2
    have f3 : r.find? (fun t => t.1 == k) = none := by rw [List.find?_eq_none]; intro x hx; have := hr x hx; simp; omega
    simp [List.filter_cons, e1, e2, List.find?_cons, e3, f1, f2, f3]
theorem inO_filter (bs : List (Int × List UInt8)) (hp : bs.Pairwise fun a b => a.1 < b.1) (h0 : ∀ t ∈ bs, 0 <= t.1) (m : MS) (hm : m.banks = nbk bs) : ∀ k : Nat, inO m k = (bs.filter fun t => decide (t.1 < (k : Int))).map fun t => (t.1, pad t.2)
 | 0 => by
  have : bs.filter (fun t => decide (t.1 < ((0 : Nat) : Int))) = [] := by rw [List.filter_eq_nil_iff]; intro x hx; have := h0 x hx; simp; omega
  rw [this]; rfl
 | k + 1 => by
  have ih := inO_filter bs hp h0 m hm k; have hs := filt_step (k : Int) bs hp; rw [show (((k + 1 : Nat)) : Int) = (k : Int) + 1 by omega, hs, List.map_append, <- ih]
  cases hf : bs.find? (fun t => t.1 == (k : Int)) with
  | none =>
   have : m.banks k = none := by rw [hm, nbk, hf]; rfl
   rw [inO_none m k this]; simp
  | some t =>
   have he : t.1 = (k : Int) := by have := List.find?_some hf; simpa using this
   have : m.banks k = some (pad t.2) := by rw [hm, nbk, hf]; rfl
   rw [inO_some m k _ this]; simp [he]
theorem inO_all (bs : List (Int × List UInt8)) (hm : mayB (-1) bs = true) (hf : allF bs = true) (m : MS) (hb : m.banks = nbk bs) : inO m 16 = bs := by
 have hG := good_of bs hm bs.length (Nat.le_refl _)
 have h0 : ∀ t ∈ bs, 0 <= t.1 /\ t.1 < 16 := by
  intro t ht; obtain ⟨j, hj, e⟩ := List.mem_iff_getElem.1 ht; have h1 := good_le bs bs.length (Nat.le_refl _) hG j t hj (by rw [List.getElem?_eq_getElem hj, e]); have h2 := hG j t hj (by rw [List.getElem?_eq_getElem hj, e])
  omega
 rw [inO_filter bs (pw_of bs hG) (fun t ht => (h0 t ht).1) m hb 16]
 have e1 : bs.filter (fun t => decide (t.1 < ((16 : Nat) : Int))) = bs := by
  rw [List.filter_eq_self]; intro t ht; have := (h0 t ht).2; simpa using this
 rw [e1]
 have hl : ∀ t ∈ bs, pad t.2 = t.2 := by
  intro t ht; rw [allF, List.all_eq_true] at hf; have := hf t ht
  simp at this
  rw [pad, this]; simp
 have : ∀ (l : List (Int × List UInt8)), (∀ t ∈ l, pad t.2 = t.2) -> l.map (fun t => (t.1, pad t.2)) = l := by
  intro l
  induction l with
  | nil => intro _; rfl
  | cons a l ih => intro h; rw [List.map_cons, ih fun t ht => h t (List.mem_cons_of_mem _ ht), h a (by simp)]
 exact this bs hl
theorem may_len : ∀ (bs : List (Int × List UInt8)) (last : Int), mayB last bs = true -> ∀ t ∈ bs, t.2.length <= 16384
 | [], _, _, t, ht => by simp at ht
 | u :: r, last, h, t, ht => by
  rw [mayB] at h
  by_cases c : u.1 <= last \/ 16 <= u.1 \/ 16384 < u.2.length
  ·rw [if_pos c] at h; cases h
  ·rw [if_neg c] at h
   rcases List.mem_cons.1 ht with rfl | ht
   ·omega
   ·exact may_len r _ h t ht
theorem may_padB : ∀ (bs : List (Int × List UInt8)) (last : Int), mayB last bs = true -> mayB last (padB bs) = true
 | [], _, _ => rfl
 | u :: r, last, h => by
  rw [mayB] at h
  by_cases c : u.1 <= last \/ 16 <= u.1 \/ 16384 < u.2.length
  ·rw [if_pos c] at h; cases h
  ·rw [if_neg c] at h
   have hp : (padN 16384 u.2).length = 16384 := padN_len _ _ (by omega)
   show mayB last ((u.1, padN 16384 u.2) :: padB r) = true
   rw [mayB, if_neg (by simp only [hp]; omega)]; exact may_padB r _ h
theorem allF_padB (bs : List (Int × List UInt8)) (h : ∀ t ∈ bs, t.2.length <= 16384) : allF (padB bs) = true := by
 rw [allF, List.all_eq_true]
 intro t ht
 rw [padB, List.mem_map] at ht
 obtain ⟨u, hu, rfl⟩ := ht
 simp only [padN_len 16384 u.2 (h u hu), beq_self_eq_true]
theorem find_padB (n : Int) : ∀ bs : List (Int × List UInt8), (padB bs).find? (fun t => t.1 == n) = (bs.find? (fun t => t.1 == n)).map fun t => (t.1, padN 16384 t.2)
 | [] => rfl
 | u :: r => by
  show ((u.1, padN 16384 u.2) :: padB r).find? _ = _
  rw [List.find?_cons, List.find?_cons]
  cases u.1 == n with
  | true => rfl
  | false => exact find_padB n r
theorem nbk_padB (bs : List (Int × List UInt8)) (h : ∀ t ∈ bs, t.2.length <= 16384) : nbk bs = nbk (padB bs) := by
 funext k
 unfold nbk
 rw [find_padB, Option.map_map]
 cases hf : bs.find? (fun t => t.1 == (k : Int)) with
 | none => rfl
 | some t =>
  have hl := padN_len 16384 t.2 (h t (List.mem_of_find?_eq_some hf)); simp only [Option.map_some, Function.comp, Option.some.injEq]
  show pad t.2 = pad (padN 16384 t.2)
  conv => rhs; rw [pad, hl, Nat.sub_self, List.replicate_zero, List.append_nil]
  rfl
theorem ms0_eq : ms0 = m0 := by
 have e : ∀ n, fl n [] 0 = List.replicate n 0 := fun n => by simp [fl]
 unfold ms0 m0
 rw [e, e]
theorem newR {W : World} {F : Nat -> Prop} {b : Nat} {bs : List (Int × List UInt8)} (hm : mayB (-1) bs = true) (hw : Wf { m0 with banks := nbk bs }) (h : HasR W F b (padB bs) ms0) : IsR W F b { m0 with banks := nbk bs } := by
 have hd := may_len bs _ hm
 refine ⟨hw, ?_⟩
 rw [inO_all (padB bs) (may_padB bs _ hm) (allF_padB bs hd) { m0 with banks := nbk bs } (nbk_padB bs hd)]
 rw [ms0_eq] at h
 obtain ⟨u, gr, gc, gs, tv, h⟩ := h
 exact ⟨u, gr, gc, gs, tv, ⟨h.blk, h.banks, h.ram, h.scr, h.rl, h.sl, h.tones, h.nr, h.nc, h.rc, h.fb, h.fu, h.fg, h.fr, h.fc, h.ft⟩⟩
theorem wf_new (bs : List (Int × List UInt8)) (hm : mayB (-1) bs = true) : Wf { m0 with banks := nbk bs } := by
 have h0 := m0_wf
 refine ⟨h0.ram, h0.scr, h0.ch0, h0.ch1, h0.pad0, h0.pad1, h0.pitch0, h0.pitch1, h0.vol0, h0.vol1, h0.time0, h0.time1, fun n l h => ?_⟩
 have h : nbk bs n = some l := h
 unfold nbk at h
 cases hf : bs.find? (fun t => t.1 == (n : Int)) with
 | none => rw [hf] at h; cases h
 | some t =>
  rw [hf] at h; simp only [Option.map_some, Option.some.injEq] at h; have ht := List.mem_of_find?_eq_some hf; have he : t.1 = (n : Int) := by have := List.find?_some hf; simpa using this
  have hl := may_len bs _ hm t ht; have hG := good_of bs hm bs.length (Nat.le_refl _); obtain ⟨j, hj, e⟩ := List.mem_iff_getElem.1 ht; have h2 := hG j t hj (by rw [List.getElem?_eq_getElem hj, e]); refine ⟨by omega, ?_⟩; rw [<- h, pad, List.length_append, List.length_replicate]
  omega
theorem rnew_is (p : Option Addr) (c : Nat) (bs : List (Int × List UInt8)) (hl : bs.length * 32 <= room) (w : World) (h : BnS w p bs) (hm : mayB (-1) bs = true) :
  Calls Tryz.prog 61 #[.slice p bs.length c] w fun e w' => ∃ b, e = .returned (.tuple #[.pointer (some ⟨b, 0, none⟩), .int .i64 0]) /\ IsR w' (fun k => w.heap.size <= k) b { m0 with banks := nbk bs } /\ Below w.heap.size w w' := by
 refine (rnew_yes p c bs hl w h hm (may_len bs _ hm)).mono ?_
 rintro e w' ⟨b, rfl, h1, h2⟩
 exact ⟨b, rfl, newR hm (wf_new bs hm) h1, h2⟩
theorem rrest_is (p : Option Addr) (c : Nat) (rp sp : Option Addr) (rc sc' : Nat) (m : MS) (hw : Wf m) (w : World) (h : BnS w p (inO m 16)) (hr : Sl w (.slice rp m.ram.length rc) m.ram) (hs : Sl w (.slice sp m.scr.length sc') m.scr) :
  Calls Tryz.prog 74 #[.agg (imgC (.slice p (inO m 16).length c) (.slice rp m.ram.length rc) (.slice sp m.scr.length sc') m).toArray] w fun e w' => ∃ b, e = .returned (.tuple #[.pointer (some ⟨b, 0, none⟩), .int .i64 0]) /\ IsR w' (fun k => w.heap.size <= k) b (rs m) /\ Below w.heap.size w w' := by
 have hfull := inO_full m hw 16
 have hlen : (inO m 16).length <= 16 := inO_len m 16
 have haf : allF (inO m 16) = true := by
  rw [allF, List.all_eq_true]; intro t ht; rw [hfull t ht]
  rfl
 refine (rrest_loop p c (inO m 16) (by unfold room; omega) rp sp rc sc' m w h m.ram m.scr (inO_may m hw) hw.ram hw.scr hw.ch1 hr hs (fun _ t ht => by rw [hfull t ht]; exact Nat.le_refl _)).mono ?_
 rintro e w' (⟨a, _⟩ | ⟨_, b, rfl, h1, h2⟩)
 ·rw [haf] at a; cases a
 ·refine ⟨b, rfl, ?_, h2⟩
  rw [padB_full _ hfull, padN_full _ _ hw.ram, padN_full _ _ hw.scr] at h1; have hw' : Wf (rs m) := ⟨hw.ram, hw.scr, hw.ch0, hw.ch1, hw.pad0, hw.pad1, hw.pitch0, hw.pitch1, hw.vol0, hw.vol1, hw.time0, hw.time1, hw.bk⟩
  refine ⟨hw', ?_⟩; rw [inO_congr (m' := rs m) (m := m) rfl]; exact h1
end Go.Proofs.YteldjmecomngeaaGreat.M
