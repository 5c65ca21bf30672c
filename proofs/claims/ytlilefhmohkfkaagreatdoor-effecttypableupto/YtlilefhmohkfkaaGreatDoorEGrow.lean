import Derived.Test.YtlilefhmohkfkaaGreatDoorEDrop
import Derived.Test.YtlilefhmohkfkaaGreatDoorRChk
namespace Go.Proofs.YtlilefhmohkfkaaGreatDoor.E
open Go.RowKit
open Go.Proofs
open Go.Proofs.YtlilefhmohkfkaaGreatDoor.Y (Nd Df Ps ndc dfc hid)
set_option linter.unusedVariables false
set_option linter.unusedSimpArgs false
set_option maxHeartbeats 2000000
set_option maxRecDepth 100000
theorem grow_any (w : Wk) (i d r : Int) (p : Ps) (g : Nat) (mv av : Value) (W : World) (h : EW W g mv av w) :
  Calls Tryz.prog 114 #[.pointer (some ⟨g, 0, none⟩), .int .i64 i, .int .i64 d, .int .i64 r, .agg #[.int .i64 p.1, .int .i64 p.2]] W (EU W g mv av (grow w i d r p)) := by
 obtain ⟨W1, hW1⟩ : ∃ W1, W.alloc (.cells #[.int .i64 p.1, .int .i64 p.2] 25) = W1 := ⟨_, rfl⟩
 have v1 : W1.heap[W.heap.size]? = some (.cells [.int .i64 p.1, .int .i64 p.2].toArray 25 (0, 0)) := by rw [<- hW1]; exact heap_alloc_new W _
 have hB : Below W.heap.size W W1 := by rw [<- hW1]; exact (Below.refl _ _).alloc (Nat.le_refl _) _
 have h1 : EW W1.drew g mv av w := (hB.block g h.lt).trans h
 have hg : g ≠ W.heap.size := by have := h.lt; omega
 have v2 : W1.drew.heap[W.heap.size]? = some (.cells [.int .i64 p.1, .int .i64 p.2].toArray 25 (0, 0)) := v1
 have hG : Gw g W W1.drew := Gw.of hB.drew
 obtain ⟨c0, c1, c2, c3, c4, c5, c6, c7⟩ := h1.cells
 have H1 := hid (And.intro h1 (And.intro v2 hG))
 clear h1 v1 v2 hG hB c0 c1 c3 c6 c7 h
 go_enter Tryz.func114, Tryz.ntmps114
 go_upto_region 2 with fail
 refine wp_region_drop [23, 26, 29] (S := fun wz : World => wz.cell? ⟨g, 2, none⟩ = some (.int .i64 w.i) /\ wz.cell? ⟨g, 4, none⟩ = some (.int .i64 w.d) /\ wz.cell? ⟨g, 5, none⟩ = some (.int .i64 w.r)) (by kernel_rfl) ⟨c2, c4, c5⟩ (fun hHeld => ?_)
 generalize W1.drew = y0 at *
 clear c2 c4 c5 hW1
 refine E.zP (is := [0, 1, 2, 3, 7, 9, 13, 15, 19, 4, 10, 16, 5, 11, 17]) ?_
 iterate 15
  refine E.yP (v := ?_) rfl (by kernel_rfl) (fun c a w h => h) (by rfl) ?_ (fun _ => hHeld) ?_
  rotate_left
  ·(intro w hSw; clear hSw; go_simp; try with_reducible rfl)
  simp only [E.pts]
 refine E.eP ?_
 refine E.zT (is := [6, 12, 18]) ?_
 iterate 3
  refine E.yT (v := ?_) rfl (by kernel_rfl) (fun c a w h => h) (by rfl) ?_ hHeld ?_
  rotate_left
  ·(intro w hSw; (try dsimp only at hSw); go_simp; try with_reducible rfl)
  simp only [E.pts]
 refine E.eT ?_
 refine E.zP (is := [8, 14, 20, 21, 22]) ?_
 iterate 5
  refine E.yP (v := ?_) rfl (by kernel_rfl) (fun c a w h => h) (by rfl) ?_ (fun _ => hHeld) ?_
  rotate_left
  ·(intro w hSw; clear hSw; go_simp; try with_reducible rfl)
  simp only [E.pts]
 refine E.eP ?_
 have x2 := S.cell_of y0 g 2 _ 112 _ H1.out.1 rfl
 have z2 := H1.out.1.fro 2
 refine wpD_ready (rs := [23]) (by kernel_rfl) (by simp) ?_
 refine AllD.late rfl (by kernel_rfl) (fun K hK => ?_)
 go_simp
 refine hK.out _ _ ?_
 clear hK K
 try simp only [E.pts]
 refine wpD_takeP (i := 24) (v := ?_) rfl (by kernel_rfl) (by kernel_rfl) (by kernel_rfl) (by kernel_rfl) (fun c a w h => h) (Or.inl ⟨by rfl, ?_⟩) (un_off (by kernel_rfl)) ?_
 rotate_left
 ·(intro w hSw; clear hSw; go_simp; try with_reducible rfl)
 simp only [E.pts]
 refine wpD_takeP (i := 25) (v := ?_) rfl (by kernel_rfl) (by kernel_rfl) (by kernel_rfl) (by kernel_rfl) (fun c a w h => h) (Or.inl ⟨by rfl, ?_⟩) (un_off (by kernel_rfl)) ?_
 rotate_left
 ·(intro w hSw; clear hSw; go_simp; try with_reducible rfl)
 simp only [E.pts]
 clear x2 z2
 have e1 : (y0.setCell ⟨g, 2, none⟩ (.int .i64 (max w.i i))).heap[g]? = some (.cells ((wkc mv av w).set 2 (.int .i64 (max w.i i))).toArray 112 (0, 0)) := S.setCell_heap y0 g 2 _ 112 _ H1.out.1
 have x2 := S.cell_of _ g 4 _ 112 _ e1 rfl
 have z2 := S.frozen_of _ g 4 _ 112 e1
 have HE1 := hid e1
 clear e1
 refine wpD_ready (rs := [26]) (by kernel_rfl) (by simp) ?_
 refine AllD.late rfl (by kernel_rfl) (fun K hK => ?_)
 go_simp
 refine hK.out _ _ ?_
 clear hK K
 try simp only [E.pts]
 refine wpD_takeP (i := 27) (v := ?_) rfl (by kernel_rfl) (by kernel_rfl) (by kernel_rfl) (by kernel_rfl) (fun c a w h => h) (Or.inl ⟨by rfl, ?_⟩) (un_off (by kernel_rfl)) ?_
 rotate_left
 ·(intro w hSw; clear hSw; go_simp; try with_reducible rfl)
 simp only [E.pts]
 refine wpD_takeP (i := 28) (v := ?_) rfl (by kernel_rfl) (by kernel_rfl) (by kernel_rfl) (by kernel_rfl) (fun c a w h => h) (Or.inl ⟨by rfl, ?_⟩) (un_off (by kernel_rfl)) ?_
 rotate_left
 ·(intro w hSw; clear hSw; go_simp; try with_reducible rfl)
 simp only [E.pts]
 clear x2 z2
 have e2 := S.setCell_heap _ g 4 _ 112 (.int .i64 (max w.d d)) HE1.out
 have x2 := S.cell_of _ g 5 _ 112 _ e2 rfl
 have z2 := S.frozen_of _ g 5 _ 112 e2
 have HE2 := hid e2
 clear e2
 refine wpD_ready (rs := [29]) (by kernel_rfl) (by simp) ?_
 refine AllD.late rfl (by kernel_rfl) (fun K hK => ?_)
 go_simp
 refine hK.out _ _ ?_
 clear hK K
 try simp only [E.pts]
 refine wpD_done (by kernel_rfl) ?_ _
 clear x2 z2
 have h3 : EW (((y0.setCell ⟨g, 2, none⟩ (.int .i64 (max w.i i))).setCell ⟨g, 4, none⟩ (.int .i64 (max w.d d))).setCell ⟨g, 5, none⟩ (.int .i64 (max w.r r))) g mv av (grown w i d r) := S.setCell_heap _ g 5 _ 112 (.int .i64 (max w.r r)) HE2.out
 have g3 := ((H1.out.2.2.setG 2 (.int .i64 (max w.i i))).setG 4 (.int .i64 (max w.d d))).setG 5 (.int .i64 (max w.r r))
 have v3 := (S.setCell_other ((y0.setCell ⟨g, 2, none⟩ (.int .i64 (max w.i i))).setCell ⟨g, 4, none⟩ (.int .i64 (max w.d d))) g 5 W.heap.size (.int .i64 (max w.r r)) (Ne.symm hg)).trans ((S.setCell_other (y0.setCell ⟨g, 2, none⟩ (.int .i64 (max w.i i))) g 4 W.heap.size (.int .i64 (max w.d d)) (Ne.symm hg)).trans ((S.setCell_other y0 g 2 W.heap.size (.int .i64 (max w.i i)) (Ne.symm hg)).trans H1.out.2.1))
 generalize ((y0.setCell ⟨g, 2, none⟩ (.int .i64 (max w.i i))).setCell ⟨g, 4, none⟩ (.int .i64 (max w.d d))).setCell ⟨g, 5, none⟩ (.int .i64 (max w.r r)) = y3 at *
 have H3 := hid (And.intro h3 (And.intro g3 v3))
 clear HE1 HE2 H1 h3 g3 v3
 have HR : Y.Hd (grow w i d r p = if may (grown w i d r) then .ok (grown w i d r) else .error (153, p)) := ⟨rfl⟩
 have HM : Y.Hd (may (grown w i d r) = (decide (max w.i i <= 256) && (decide (max w.d d <= 256) && decide (max w.r r <= 128)))) := ⟨rfl⟩
 have hk : ∀ wz, Below y3.heap.size y3 wz -> (fun wz : World => wz.cell? ⟨g, 2, none⟩ = some (.int .i64 (max w.i i)) /\ wz.cell? ⟨g, 4, none⟩ = some (.int .i64 (max w.d d)) /\ wz.cell? ⟨g, 5, none⟩ = some (.int .i64 (max w.r r)) /\ wz.cell? ⟨W.heap.size, 0, none⟩ = some (.int .i64 p.1) /\ wz.cell? ⟨W.heap.size, 1, none⟩ = some (.int .i64 p.2)) wz := fun wz hz => by
  have e1 : EW wz g mv av (grown w i d r) := (hz.block g (S.lt_of H3.out.1)).trans H3.out.1
  have e2 := (hz.block _ (S.lt_of H3.out.2.2)).trans H3.out.2.2
  obtain ⟨_, _, k2, _, k4, k5, _, _⟩ := e1.cells
  exact ⟨k2, k4, k5, S.cell_of wz _ 0 _ 25 _ e2 rfl, S.cell_of wz _ 1 _ 25 _ e2 rfl⟩
 have HK := hid hk
 clear hk
 generalize grow w i d r p = R at *
 have s0 := HK.out y3.drew (Below.refl _ _).drew
 generalize hma : max w.i i = ma at *
 generalize hmd : max w.d d = md at *
 generalize hmr : max w.r r = mr at *
 clear hma hmd hmr
 go_upto_region 3 with fail
 by_cases ta : ma <= 256
 ·have da : decide (ma <= 256) = true := decide_eq_true ta
  by_cases td : md <= 256
  ·have dd : decide (md <= 256) = true := decide_eq_true td
   by_cases tr : mr <= 128
   ·have dr : decide (mr <= 128) = true := decide_eq_true tr
    refine wp_region_drop [] (S := fun wz : World => wz.cell? ⟨g, 2, none⟩ = some (.int .i64 ma) /\ wz.cell? ⟨g, 4, none⟩ = some (.int .i64 md) /\ wz.cell? ⟨g, 5, none⟩ = some (.int .i64 mr) /\ wz.cell? ⟨W.heap.size, 0, none⟩ = some (.int .i64 p.1) /\ wz.cell? ⟨W.heap.size, 1, none⟩ = some (.int .i64 p.2)) (by kernel_rfl) s0 (fun hHeld => ?_)
    have HB0 := hid (Below.refl y3.heap.size y3).drew
    generalize y3.drew = y4 at *
    clear s0
    refine E.zP (is := [0, 1, 2]) ?_
    iterate 3
     refine E.yP (v := ?_) rfl (by kernel_rfl) (fun c a w h => h) (by rfl) ?_ (fun _ => hHeld) ?_
     rotate_left
     ·(intro w hSw; clear hSw; go_simp; try with_reducible rfl)
     simp only [E.pts]
    refine E.eP ?_
    refine E.xT 3 (v := ?_) rfl (by kernel_rfl) (fun c a w h => h) (by rfl) ?_ hHeld ?_
    rotate_left
    ·(intro w hSw; (try dsimp only at hSw); go_simp; try with_reducible rfl)
    simp only [E.pts]
    refine E.zP (is := [4, 5, 6, 7, 8]) ?_
    iterate 5
     refine E.yP (v := ?_) rfl (by kernel_rfl) (fun c a w h => h) (by rfl) ?_ (fun _ => hHeld) ?_
     rotate_left
     ·(intro w hSw; clear hSw; go_simp; try with_reducible rfl)
     simp only [E.pts]
    refine E.eP ?_
    refine E.xT 9 (v := ?_) rfl (by kernel_rfl) (fun c a w h => h) (by rfl) ?_ hHeld ?_
    rotate_left
    ·(intro w hSw; (try dsimp only at hSw); go_simp; try with_reducible rfl)
    simp only [E.pts]
    refine E.zP (is := [10, 11, 12, 13, 14, 15]) ?_
    iterate 6
     refine E.yP (v := ?_) rfl (by kernel_rfl) (fun c a w h => h) (by rfl) ?_ (fun _ => hHeld) ?_
     rotate_left
     ·(intro w hSw; clear hSw; go_simp; try with_reducible rfl)
     simp only [E.pts]
    refine E.eP ?_
    refine E.xT 16 (v := ?_) rfl (by kernel_rfl) (fun c a w h => h) (by rfl) ?_ hHeld ?_
    rotate_left
    ·(intro w hSw; (try dsimp only at hSw); go_simp; try with_reducible rfl)
    simp only [E.pts]
    refine E.zP (is := [17, 18]) ?_
    iterate 2
     refine E.yP (v := ?_) rfl (by kernel_rfl) (fun c a w h => h) (by rfl) ?_ (fun _ => hHeld) ?_
     rotate_left
     ·(intro w hSw; clear hSw; go_simp; try with_reducible rfl)
     simp only [E.pts]
    refine E.eP ?_
    refine E.xT 19 (v := ?_) rfl (by kernel_rfl) (fun c a w h => h) (by rfl) ?_ hHeld ?_
    rotate_left
    ·(intro w hSw; (try dsimp only at hSw); go_simp; try with_reducible rfl)
    simp only [E.pts]
    refine wpD_ready (rs := [20]) (by kernel_rfl) (by simp) ?_
    refine AllD.cons rfl (fun K hK => ?_) AllD.nil
    go_simp
    refine (must_true 153 p y4).mono ?_
    rintro e y5 ⟨rfl, hb⟩
    have HB1 := hid (HB0.out.trans (hb.mono HB0.out.size))
    clear hb
    refine hK.out _ _ (HK.out _ HB1.out) (fun hHeld => ?_)
    clear hK K
    try simp only [E.pts]
    refine wpD_done (by kernel_rfl) ?_ _
    go_end0
    rw [HR.out, if_pos (by rw [HM.out]; simp [ta, td, tr])]
    exact ⟨rfl, (HB1.out.block g (S.lt_of H3.out.1)).trans H3.out.1, H3.out.2.1.trans (Gw.of HB1.out)⟩
   ·have dr : decide (mr <= 128) = false := decide_eq_false tr
    refine wp_region_drop [] (S := fun wz : World => wz.cell? ⟨g, 2, none⟩ = some (.int .i64 ma) /\ wz.cell? ⟨g, 4, none⟩ = some (.int .i64 md) /\ wz.cell? ⟨g, 5, none⟩ = some (.int .i64 mr) /\ wz.cell? ⟨W.heap.size, 0, none⟩ = some (.int .i64 p.1) /\ wz.cell? ⟨W.heap.size, 1, none⟩ = some (.int .i64 p.2)) (by kernel_rfl) s0 (fun hHeld => ?_)
    have HB0 := hid (Below.refl y3.heap.size y3).drew
    generalize y3.drew = y4 at *
    clear s0
    refine E.zP (is := [0, 1, 2]) ?_
    iterate 3
     refine E.yP (v := ?_) rfl (by kernel_rfl) (fun c a w h => h) (by rfl) ?_ (fun _ => hHeld) ?_
     rotate_left
     ·(intro w hSw; clear hSw; go_simp; try with_reducible rfl)
     simp only [E.pts]
    refine E.eP ?_
    refine E.xT 3 (v := ?_) rfl (by kernel_rfl) (fun c a w h => h) (by rfl) ?_ hHeld ?_
    rotate_left
    ·(intro w hSw; (try dsimp only at hSw); go_simp; try with_reducible rfl)
    simp only [E.pts]
    refine E.zP (is := [4, 5, 6, 7, 8]) ?_
    iterate 5
     refine E.yP (v := ?_) rfl (by kernel_rfl) (fun c a w h => h) (by rfl) ?_ (fun _ => hHeld) ?_
     rotate_left
     ·(intro w hSw; clear hSw; go_simp; try with_reducible rfl)
     simp only [E.pts]
    refine E.eP ?_
    refine E.xT 9 (v := ?_) rfl (by kernel_rfl) (fun c a w h => h) (by rfl) ?_ hHeld ?_
    rotate_left
    ·(intro w hSw; (try dsimp only at hSw); go_simp; try with_reducible rfl)
    simp only [E.pts]
    refine E.zP (is := [10, 11, 12, 13, 14, 15]) ?_
    iterate 6
     refine E.yP (v := ?_) rfl (by kernel_rfl) (fun c a w h => h) (by rfl) ?_ (fun _ => hHeld) ?_
     rotate_left
     ·(intro w hSw; clear hSw; go_simp; try with_reducible rfl)
     simp only [E.pts]
    refine E.eP ?_
    refine E.xT 16 (v := ?_) rfl (by kernel_rfl) (fun c a w h => h) (by rfl) ?_ hHeld ?_
    rotate_left
    ·(intro w hSw; (try dsimp only at hSw); go_simp; try with_reducible rfl)
    simp only [E.pts]
    refine E.zP (is := [17, 18]) ?_
    iterate 2
     refine E.yP (v := ?_) rfl (by kernel_rfl) (fun c a w h => h) (by rfl) ?_ (fun _ => hHeld) ?_
     rotate_left
     ·(intro w hSw; clear hSw; go_simp; try with_reducible rfl)
     simp only [E.pts]
    refine E.eP ?_
    refine E.xT 19 (v := ?_) rfl (by kernel_rfl) (fun c a w h => h) (by rfl) ?_ hHeld ?_
    rotate_left
    ·(intro w hSw; (try dsimp only at hSw); go_simp; try with_reducible rfl)
    simp only [E.pts]
    refine wpD_ready (rs := [20]) (by kernel_rfl) (by simp) ?_
    refine AllD.cons rfl (fun K hK => ?_) AllD.nil
    go_simp
    refine (must_false 153 p y4).mono ?_
    rintro e y5 ⟨rfl, hb⟩
    have HB1 := hid (HB0.out.trans (hb.mono HB0.out.size))
    clear hb
    have HF : Y.Hd (R = .error (153, p)) := ⟨by rw [HR.out, if_neg (by rw [HM.out]; simp [tr])]⟩
    refine ⟨rfl, ?_⟩
    rw [HF.out]
    exact ⟨rfl, H3.out.2.1.trans (Gw.of HB1.out)⟩
  ·have dd : decide (md <= 256) = false := decide_eq_false td
   refine wp_region_drop [] (S := fun wz : World => wz.cell? ⟨g, 2, none⟩ = some (.int .i64 ma) /\ wz.cell? ⟨g, 4, none⟩ = some (.int .i64 md) /\ wz.cell? ⟨g, 5, none⟩ = some (.int .i64 mr) /\ wz.cell? ⟨W.heap.size, 0, none⟩ = some (.int .i64 p.1) /\ wz.cell? ⟨W.heap.size, 1, none⟩ = some (.int .i64 p.2)) (by kernel_rfl) s0 (fun hHeld => ?_)
   have HB0 := hid (Below.refl y3.heap.size y3).drew
   generalize y3.drew = y4 at *
   clear s0
   refine E.zP (is := [0, 1, 2]) ?_
   iterate 3
    refine E.yP (v := ?_) rfl (by kernel_rfl) (fun c a w h => h) (by rfl) ?_ (fun _ => hHeld) ?_
    rotate_left
    ·(intro w hSw; clear hSw; go_simp; try with_reducible rfl)
    simp only [E.pts]
   refine E.eP ?_
   refine E.xT 3 (v := ?_) rfl (by kernel_rfl) (fun c a w h => h) (by rfl) ?_ hHeld ?_
   rotate_left
   ·(intro w hSw; (try dsimp only at hSw); go_simp; try with_reducible rfl)
   simp only [E.pts]
   refine E.zP (is := [4, 5, 6, 7, 8]) ?_
   iterate 5
    refine E.yP (v := ?_) rfl (by kernel_rfl) (fun c a w h => h) (by rfl) ?_ (fun _ => hHeld) ?_
    rotate_left
    ·(intro w hSw; clear hSw; go_simp; try with_reducible rfl)
    simp only [E.pts]
   refine E.eP ?_
   refine E.xT 9 (v := ?_) rfl (by kernel_rfl) (fun c a w h => h) (by rfl) ?_ hHeld ?_
   rotate_left
   ·(intro w hSw; (try dsimp only at hSw); go_simp; try with_reducible rfl)
   simp only [E.pts]
   refine E.zP (is := [10, 11, 12]) ?_
   iterate 3
    refine E.yP (v := ?_) rfl (by kernel_rfl) (fun c a w h => h) (by rfl) ?_ (fun _ => hHeld) ?_
    rotate_left
    ·(intro w hSw; clear hSw; go_simp; try with_reducible rfl)
    simp only [E.pts]
   refine E.eP ?_
   refine wpD_takeP (i := 13) (v := undef) rfl (by kernel_rfl) (by kernel_rfl) (by kernel_rfl) (by kernel_rfl) (fun c a w h => h) (Or.inr ⟨by rfl, rfl⟩) (fun _ => hHeld) ?_
   simp only [E.pts]
   refine wpD_takeP (i := 14) (v := undef) rfl (by kernel_rfl) (by kernel_rfl) (by kernel_rfl) (by kernel_rfl) (fun c a w h => h) (Or.inr ⟨by rfl, rfl⟩) (fun _ => hHeld) ?_
   simp only [E.pts]
   refine wpD_takeP (i := 15) (v := undef) rfl (by kernel_rfl) (by kernel_rfl) (by kernel_rfl) (by kernel_rfl) (fun c a w h => h) (Or.inr ⟨by rfl, rfl⟩) (fun _ => hHeld) ?_
   simp only [E.pts]
   refine wpD_takeP (i := 16) (v := undef) rfl (by kernel_rfl) (by kernel_rfl) (by kernel_rfl) (by kernel_rfl) (fun c a w h => h) (Or.inr ⟨by rfl, rfl⟩) (fun _ => hHeld) ?_
   simp only [E.pts]
   refine wpD_takeP (i := 17) (v := undef) rfl (by kernel_rfl) (by kernel_rfl) (by kernel_rfl) (by kernel_rfl) (fun c a w h => h) (Or.inr ⟨by rfl, rfl⟩) (fun _ => hHeld) ?_
   simp only [E.pts]
   refine E.xP 18 (v := ?_) rfl (by kernel_rfl) (fun c a w h => h) (by rfl) ?_ (fun _ => hHeld) ?_
   rotate_left
   ·(intro w hSw; clear hSw; go_simp; try with_reducible rfl)
   simp only [E.pts]
   refine E.xT 19 (v := ?_) rfl (by kernel_rfl) (fun c a w h => h) (by rfl) ?_ hHeld ?_
   rotate_left
   ·(intro w hSw; (try dsimp only at hSw); go_simp; try with_reducible rfl)
   simp only [E.pts]
   refine wpD_ready (rs := [20]) (by kernel_rfl) (by simp) ?_
   refine AllD.cons rfl (fun K hK => ?_) AllD.nil
   go_simp
   refine (must_false 153 p y4).mono ?_
   rintro e y5 ⟨rfl, hb⟩
   have HB1 := hid (HB0.out.trans (hb.mono HB0.out.size))
   clear hb
   have HF : Y.Hd (R = .error (153, p)) := ⟨by rw [HR.out, if_neg (by rw [HM.out]; simp [td])]⟩
   refine ⟨rfl, ?_⟩
   rw [HF.out]
   exact ⟨rfl, H3.out.2.1.trans (Gw.of HB1.out)⟩
 ·have da : decide (ma <= 256) = false := decide_eq_false ta
  refine wp_region_drop [] (S := fun wz : World => wz.cell? ⟨g, 2, none⟩ = some (.int .i64 ma) /\ wz.cell? ⟨g, 4, none⟩ = some (.int .i64 md) /\ wz.cell? ⟨g, 5, none⟩ = some (.int .i64 mr) /\ wz.cell? ⟨W.heap.size, 0, none⟩ = some (.int .i64 p.1) /\ wz.cell? ⟨W.heap.size, 1, none⟩ = some (.int .i64 p.2)) (by kernel_rfl) s0 (fun hHeld => ?_)
  have HB0 := hid (Below.refl y3.heap.size y3).drew
  generalize y3.drew = y4 at *
  clear s0
  refine E.zP (is := [0, 1, 2]) ?_
  iterate 3
   refine E.yP (v := ?_) rfl (by kernel_rfl) (fun c a w h => h) (by rfl) ?_ (fun _ => hHeld) ?_
   rotate_left
   ·(intro w hSw; clear hSw; go_simp; try with_reducible rfl)
   simp only [E.pts]
  refine E.eP ?_
  refine E.xT 3 (v := ?_) rfl (by kernel_rfl) (fun c a w h => h) (by rfl) ?_ hHeld ?_
  rotate_left
  ·(intro w hSw; (try dsimp only at hSw); go_simp; try with_reducible rfl)
  simp only [E.pts]
  refine E.zP (is := [4, 5]) ?_
  iterate 2
   refine E.yP (v := ?_) rfl (by kernel_rfl) (fun c a w h => h) (by rfl) ?_ (fun _ => hHeld) ?_
   rotate_left
   ·(intro w hSw; clear hSw; go_simp; try with_reducible rfl)
   simp only [E.pts]
  refine E.eP ?_
  refine wpD_takeP (i := 6) (v := undef) rfl (by kernel_rfl) (by kernel_rfl) (by kernel_rfl) (by kernel_rfl) (fun c a w h => h) (Or.inr ⟨by rfl, rfl⟩) (fun _ => hHeld) ?_
  simp only [E.pts]
  refine wpD_takeP (i := 7) (v := undef) rfl (by kernel_rfl) (by kernel_rfl) (by kernel_rfl) (by kernel_rfl) (fun c a w h => h) (Or.inr ⟨by rfl, rfl⟩) (fun _ => hHeld) ?_
  simp only [E.pts]
  refine wpD_takeP (i := 8) (v := undef) rfl (by kernel_rfl) (by kernel_rfl) (by kernel_rfl) (by kernel_rfl) (fun c a w h => h) (Or.inr ⟨by rfl, rfl⟩) (fun _ => hHeld) ?_
  simp only [E.pts]
  refine wpD_takeP (i := 9) (v := undef) rfl (by kernel_rfl) (by kernel_rfl) (by kernel_rfl) (by kernel_rfl) (fun c a w h => h) (Or.inr ⟨by rfl, rfl⟩) (fun _ => hHeld) ?_
  simp only [E.pts]
  refine wpD_takeP (i := 10) (v := undef) rfl (by kernel_rfl) (by kernel_rfl) (by kernel_rfl) (by kernel_rfl) (fun c a w h => h) (Or.inr ⟨by rfl, rfl⟩) (fun _ => hHeld) ?_
  simp only [E.pts]
  refine E.zP (is := [11, 12]) ?_
  iterate 2
   refine E.yP (v := ?_) rfl (by kernel_rfl) (fun c a w h => h) (by rfl) ?_ (fun _ => hHeld) ?_
   rotate_left
   ·(intro w hSw; clear hSw; go_simp; try with_reducible rfl)
   simp only [E.pts]
  refine E.eP ?_
  refine wpD_takeP (i := 13) (v := undef) rfl (by kernel_rfl) (by kernel_rfl) (by kernel_rfl) (by kernel_rfl) (fun c a w h => h) (Or.inr ⟨by rfl, rfl⟩) (fun _ => hHeld) ?_
  simp only [E.pts]
  refine wpD_takeP (i := 14) (v := undef) rfl (by kernel_rfl) (by kernel_rfl) (by kernel_rfl) (by kernel_rfl) (fun c a w h => h) (Or.inr ⟨by rfl, rfl⟩) (fun _ => hHeld) ?_
  simp only [E.pts]
  refine wpD_takeP (i := 15) (v := undef) rfl (by kernel_rfl) (by kernel_rfl) (by kernel_rfl) (by kernel_rfl) (fun c a w h => h) (Or.inr ⟨by rfl, rfl⟩) (fun _ => hHeld) ?_
  simp only [E.pts]
  refine wpD_takeP (i := 16) (v := undef) rfl (by kernel_rfl) (by kernel_rfl) (by kernel_rfl) (by kernel_rfl) (fun c a w h => h) (Or.inr ⟨by rfl, rfl⟩) (fun _ => hHeld) ?_
  simp only [E.pts]
  refine wpD_takeP (i := 17) (v := undef) rfl (by kernel_rfl) (by kernel_rfl) (by kernel_rfl) (by kernel_rfl) (fun c a w h => h) (Or.inr ⟨by rfl, rfl⟩) (fun _ => hHeld) ?_
  simp only [E.pts]
  refine E.xP 18 (v := ?_) rfl (by kernel_rfl) (fun c a w h => h) (by rfl) ?_ (fun _ => hHeld) ?_
  rotate_left
  ·(intro w hSw; clear hSw; go_simp; try with_reducible rfl)
  simp only [E.pts]
  refine E.xT 19 (v := ?_) rfl (by kernel_rfl) (fun c a w h => h) (by rfl) ?_ hHeld ?_
  rotate_left
  ·(intro w hSw; (try dsimp only at hSw); go_simp; try with_reducible rfl)
  simp only [E.pts]
  refine wpD_ready (rs := [20]) (by kernel_rfl) (by simp) ?_
  refine AllD.cons rfl (fun K hK => ?_) AllD.nil
  go_simp
  refine (must_false 153 p y4).mono ?_
  rintro e y5 ⟨rfl, hb⟩
  have HB1 := hid (HB0.out.trans (hb.mono HB0.out.size))
  clear hb
  have HF : Y.Hd (R = .error (153, p)) := ⟨by rw [HR.out, if_neg (by rw [HM.out]; simp [ta])]⟩
  refine ⟨rfl, ?_⟩
  rw [HF.out]
  exact ⟨rfl, H3.out.2.1.trans (Gw.of HB1.out)⟩
set_option maxHeartbeats 2000000
set_option maxRecDepth 100000
theorem sizeS : (Tryz.prog.info? 129).map (·.size) = some 3 := by kernel_rfl
def SB (W : World) (b : Nat) (s : St) : Prop := W.heap[b]? = some (.cells (stc s).toArray 129 (0, 0))
def PB (W : World) (b : Nat) (p : Ps) : Prop := W.heap[b]? = some (.cells [.int .i64 p.1, .int .i64 p.2].toArray 25 (0, 0))
theorem SB.cells {W : World} {b : Nat} {s : St} (h : SB W b s) : W.cell? ⟨b, 0, none⟩ = some (.bool s.dead) /\ W.cell? ⟨b, 1, none⟩ = some (.int .i64 s.h) /\ W.cell? ⟨b, 2, none⟩ = some (.string ⟨s.own.toArray⟩) :=
 ⟨S.cell_of W b 0 _ 129 _ h rfl, S.cell_of W b 1 _ 129 _ h rfl, S.cell_of W b 2 _ 129 _ h rfl⟩
theorem SB.fro {W : World} {b : Nat} {s : St} (h : SB W b s) (i : Nat) : W.frozen? ⟨b, i, none⟩ = false := S.frozen_of W b i _ 129 h
theorem PB.cells {W : World} {b : Nat} {p : Ps} (h : PB W b p) : W.cell? ⟨b, 0, none⟩ = some (.int .i64 p.1) /\ W.cell? ⟨b, 1, none⟩ = some (.int .i64 p.2) :=
 ⟨S.cell_of W b 0 _ 25 _ h rfl, S.cell_of W b 1 _ 25 _ h rfl⟩
theorem box_spr (s : St) (p : Ps) (W : World) : ∃ W0 W1 W2, W.alloc (.cells #[.bool s.dead, .int .i64 s.h, .string ⟨s.own.toArray⟩] 129) = W0 /\ W0.alloc (.cells #[.int .i64 p.1, .int .i64 p.2] 25) = W1 /\ W1.alloc (.cells #[.bool false, .int .i64 0, .string { data := #[] }] 129) = W2 /\ Below W.heap.size W W2 /\ W0.heap.size = W.heap.size + 1 /\ W1.heap.size = W.heap.size + 2 /\ W2.heap.size = W.heap.size + 3 /\ SB W2 W.heap.size s /\ PB W2 W0.heap.size p /\ SB W2 W1.heap.size s0 := by
 refine ⟨_, _, _, rfl, rfl, rfl, (((Below.refl _ _).alloc (Nat.le_refl _) _).alloc (by simp) _).alloc (by simp; omega) _, by simp, by simp, by simp, ?_, ?_, ?_⟩
 ·exact (Below.heap_alloc _ _ _ (by simp; omega)).trans ((Below.heap_alloc _ _ _ (by simp)).trans (heap_alloc_new W _))
 ·exact (Below.heap_alloc _ _ _ (by simp)).trans (heap_alloc_new _ _)
 ·exact heap_alloc_new _ _
theorem Gw.setR {g : Nat} {A B : World} (h : Gw g A B) (b : Nat) (c : Array Value) (hb : A.heap.size <= b) : Gw g A (B.setRow b c) :=
 ⟨h.os, h.tape, h.output, by rw [setRow_size]; exact h.size, fun k hk hg => (setRow_other B b k c (by omega)).trans (h.block k hk hg)⟩
theorem st_end {fn : Func} {T : Array Value} {b : Nat} {s : St} {W : World} (u : Tmp) (hf : fn.results = #[.cell u 129]) (ht : T.getD u undef = .pointer (some ⟨b, 0, none⟩)) (h : SB W b s) : (results fn T).run Tryz.prog W = .ok (.agg (stc s).toArray) W := by
 have e : (results fn T).run Tryz.prog W = ((asAddr (T.getD u undef)).run Tryz.prog W).andThen fun a w₁ => (loadVar 129 a).run Tryz.prog w₁ := by
  simp only [results, hf]
  simp [Sem.run_bind, Result.andThen]
 rw [e, ht]
 simp [asAddr, run_loadVar_row W b _ 129 _ _ _ h Tryz.underlying129 rfl sizeS]
theorem step_any (x : X) (a b : Int) (p : Ps) (hh : -1000 <= x.2.h /\ x.2.h <= 1000) (ha : 0 <= a /\ a <= 1000) (hb : 0 <= b /\ b <= 1000) (g : Nat) (mv av : Value) (W : World) (h : EW W g mv av x.1) :
  Calls Tryz.prog 100 #[.pointer (some ⟨g, 0, none⟩), .agg (stc x.2).toArray, .int .i64 a, .int .i64 b, .agg #[.int .i64 p.1, .int .i64 p.2]] W (EO W g mv av (fun s => .agg (stc s).toArray) (step x a b p)) := by
 obtain ⟨w, s⟩ := x
 obtain ⟨W0, W1, W2, hW0, hW1, hW2, hB, hs0, hs1, hs2, k1, k2, k3⟩ := box_spr s p W
 have hE : EW W2 g mv av w := (hB.block g h.lt).trans h
 have hgl := h.lt
 simp only at hh h
 have n1 : W.heap.size ≠ g := by omega
 have n2 : W0.heap.size ≠ g := by omega
 have n3 : W1.heap.size ≠ g := by omega
 have q1 : IntKind.i64.wrap (a - s.h) = a - s.h := S.i64_id _ (by omega) (by omega)
 have q2 : IntKind.i64.wrap (s.h - a) = s.h - a := S.i64_id _ (by omega) (by omega)
 have q3 : IntKind.i64.wrap (s.h - a + b) = s.h - a + b := S.i64_id _ (by omega) (by omega)
 have q4 : IntKind.i64.wrap (b - a) = b - a := S.i64_id _ (by omega) (by omega)
 have q5 : IntKind.i64.wrap (s.h + (b - a)) = s.h + (b - a) := S.i64_id _ (by omega) (by omega)
 have hcall := grow_any w (a - s.h) (s.h - a + b) 0 p g mv av W2 hE
 have HQ := hid (And.intro q1 (And.intro q2 q3))
 obtain ⟨x0, x1, x2⟩ := k1.cells
 obtain ⟨y0, y1⟩ := k2.cells
 have HK := hid (And.intro k1 (And.intro k2 (And.intro k3 (And.intro hs0 (And.intro hs1 hs2)))))
 have HB := hid hB
 have HR : Y.Hd (step (w, s) a b p = match grow w (a - s.h) (s.h - a + b) 0 p with | .error e => .error e | .ok w => .ok (w, { s with h := s.h + (b - a) })) := ⟨rfl⟩
 generalize step (w, s) a b p = R at *
 generalize hg : grow w (a - s.h) (s.h - a + b) 0 p = G at *
 have HN := hid (And.intro n1 (And.intro n2 (And.intro n3 hgl)))
 clear hg k1 k2 k3 hs0 hs1 hs2 hB hE h hh ha hb n1 n2 n3 hgl
 unfold stc
 go_enter Tryz.func100, Tryz.ntmps100
 go_wp2_with fail
 refine hcall.mono ?_
 intro e w1 hp
 clear hcall x0 x1 x2 y0 y1 hW0 hW1 hW2 q1 q2 q3
 cases G with
 | error er =>
  obtain ⟨rfl, hG⟩ := hp
  refine ⟨rfl, ?_⟩
  rw [HR.out]
  exact ⟨rfl, (Gw.of HB.out).trans hG⟩
 | ok w' =>
  obtain ⟨rfl, hE, hG⟩ := hp
  have k1 : SB w1 W.heap.size s := hG.keep HK.out.1 HN.out.1
  have k3 : SB w1 W1.heap.size s0 := hG.keep HK.out.2.2.1 HN.out.2.2.1
  obtain ⟨x0, x1, x2⟩ := k1.cells
  have f1 := k1.fro 1
  have k4 : SB (w1.setCell ⟨W.heap.size, 1, none⟩ (.int .i64 (s.h + (b - a)))) W.heap.size { s with h := s.h + (b - a) } := S.setCell_heap w1 W.heap.size 1 _ 129 _ k1
  have hne : W1.heap.size ≠ W.heap.size := by have := HK.out.2.2.2.2.1; omega
  have k5 : SB (w1.setCell ⟨W.heap.size, 1, none⟩ (.int .i64 (s.h + (b - a)))) W1.heap.size s0 := (S.setCell_other w1 W.heap.size 1 W1.heap.size (.int .i64 (s.h + (b - a))) hne).trans k3
  have hE4 : EW (w1.setCell ⟨W.heap.size, 1, none⟩ (.int .i64 (s.h + (b - a)))) g mv av w' := (S.setCell_other w1 W.heap.size 1 g (.int .i64 (s.h + (b - a))) (Ne.symm HN.out.1)).trans hE
  have hG4 : Gw g W (w1.setCell ⟨W.heap.size, 1, none⟩ (.int .i64 (s.h + (b - a)))) := ((Gw.of HB.out).trans hG).setN W.heap.size 1 (.int .i64 (s.h + (b - a))) (Nat.le_refl _)
  have H4 := hid (And.intro k4 (And.intro k5 (And.intro hE4 hG4)))
  clear k1 k3 k4 k5 hE4 hG4 hE hG
  go_upto_region 3 with fail
  clear x0 x1 x2 f1
  generalize w1.setCell ⟨W.heap.size, 1, none⟩ (.int .i64 (s.h + (b - a))) = w2 at *
  obtain ⟨x0, x1, x2⟩ := H4.out.1.cells
  have k6 : SB (w2.setRow W1.heap.size (stc { s with h := s.h + (b - a) }).toArray) W1.heap.size { s with h := s.h + (b - a) } := setRow_heap w2 W1.heap.size _ _ _ _ H4.out.2.1
  have hE6 : EW (w2.setRow W1.heap.size (stc { s with h := s.h + (b - a) }).toArray) g mv av w' := (setRow_other w2 W1.heap.size g _ (Ne.symm HN.out.2.2.1)).trans H4.out.2.2.1
  have hG6 : Gw g W (w2.setRow W1.heap.size (stc { s with h := s.h + (b - a) }).toArray) := H4.out.2.2.2.setR W1.heap.size _ (by have := HK.out.2.2.2.2.1; omega)
  have hst := H4.out.2.1
  unfold stc at k6 hE6 hG6
  simp only at k6 hE6 hG6
  go_wp2_with (refine wpList_store_row rfl 129 _ _ rfl W1.heap.size _ rfl rfl 129 _ hst (by exact sizeS) (by rfl) (by simp [Value.oneCell']) ?_)
  refine bodyPost_ret (st_end 10 rfl rfl k6) rfl ?_
  rw [HR.out]
  exact ⟨rfl, hE6, hG6⟩
end Go.Proofs.YtlilefhmohkfkaaGreatDoor.E
