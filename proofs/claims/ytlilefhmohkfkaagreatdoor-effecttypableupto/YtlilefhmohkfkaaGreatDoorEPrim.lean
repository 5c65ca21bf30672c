import Derived.Test.YtlilefhmohkfkaaGreatDoorEDrop
import Derived.Test.YtlilefhmohkfkaaGreatDoorELeaf
namespace Go.Proofs.YtlilefhmohkfkaaGreatDoor.E
open Go.RowKit
open Go.Proofs
open Go.Proofs.YtlilefhmohkfkaaGreatDoor.Y (Nd Df Ps ndc dfc hid)
set_option linter.unusedVariables false
set_option linter.unusedSimpArgs false
set_option maxHeartbeats 2000000
set_option maxRecDepth 100000
theorem pr_no (n : Nd) (q1 q2 : Option Addr) (d1 d2 : Nat) (w : Wk) (s : St) (hh : -1000 <= s.h /\ s.h <= 1000) (hl : s.own.length <= 1000) (g : Nat) (mv av : Value) (W : World) (h : EW W g mv av w) (x : Nat) (hx : n.op = (x : Int)) (h9 : 9 <= x) (h63 : x < 64) (hr : rfits n.op s = false) :
  Calls Tryz.prog 99 #[.pointer (some ⟨g, 0, none⟩), .agg #[.int .i64 n.k, .int .i64 n.op, .int .u16 n.v, .string n.nm, .slice q1 n.th.length d1, .slice q2 n.el.length d2, .bool n.has, .int .i64 n.p.1, .int .i64 n.p.2], .agg (stc s).toArray] W (EO W g mv av (fun s => .agg (stc s).toArray) (prim n.op n.p (w, s))) := by
 obtain ⟨W0, W1, W2, hW0, hW1, hW2, hB, hA, hF⟩ := box_nsr n q1 q2 d1 d2 s g mv av w W h
 have HA := hid hA
 have HB := hid hB
 have HF := hid hF
 have HG := hid (Gw.of (g := g) hB)
 clear hA hB hF h
 have HR : Y.Hd (prim n.op n.p (w, s) = .error (152, n.p)) := ⟨by unfold prim; rw [if_pos hr]⟩
 generalize prim n.op n.p (w, s) = R at *
 have hrf : ∀ V, Calls Tryz.prog 112 #[.int .i64 n.op, .agg (stc s).toArray] V fun e w' => e = .returned (.bool false) /\ Below V.heap.size V w' := fun V => by
  have := returnFits_any n.op s hl V
  rw [hr] at this
  exact this
 have HQ := hid hrf
 clear hrf
 have HK : Y.Hd (∀ wz, Below W2.heap.size W2 wz -> FR wz W.heap.size W0.heap.size W1.heap.size g (ndc n (.slice q1 n.th.length d1) (.slice q2 n.el.length d2)) s mv av w) := ⟨fun wz hz => HF.out.below hz⟩
 have HX := hid hx
 clear hx
 unfold stc
 go_enter Tryz.func99, Tryz.ntmps99
 go_upto_region 1 with fail
 have HS : Y.Hd (∀ wz, Below W2.heap.size W2 wz -> (fun wz : World => wz.cell? ⟨W.heap.size, 1, none⟩ = some (.int .i64 n.op) /\ wz.cell? ⟨W.heap.size, 7, none⟩ = some (.int .i64 n.p.1) /\ wz.cell? ⟨W.heap.size, 8, none⟩ = some (.int .i64 n.p.2) /\ wz.cell? ⟨W0.heap.size, 0, none⟩ = some (.bool s.dead) /\ wz.cell? ⟨W0.heap.size, 1, none⟩ = some (.int .i64 s.h) /\ wz.cell? ⟨W0.heap.size, 2, none⟩ = some (.string ⟨s.own.toArray⟩)) wz) := ⟨fun wz hz => by
  have hf := HK.out wz hz
  obtain ⟨_, c1, _, _, _, _, _, c7, c8⟩ := nd_cells hf.1
  obtain ⟨x0, x1, x2⟩ := hf.2.1.cells
  exact ⟨c1, c7, c8, x0, x1, x2⟩⟩
 refine wp_region_drop [] (S := fun wz : World => wz.cell? ⟨W.heap.size, 1, none⟩ = some (.int .i64 n.op) /\ wz.cell? ⟨W.heap.size, 7, none⟩ = some (.int .i64 n.p.1) /\ wz.cell? ⟨W.heap.size, 8, none⟩ = some (.int .i64 n.p.2) /\ wz.cell? ⟨W0.heap.size, 0, none⟩ = some (.bool s.dead) /\ wz.cell? ⟨W0.heap.size, 1, none⟩ = some (.int .i64 s.h) /\ wz.cell? ⟨W0.heap.size, 2, none⟩ = some (.string ⟨s.own.toArray⟩)) (by kernel_rfl) (HS.out W2.drew (Below.refl _ _).drew) (fun hHeld => ?_)
 have HB0 := hid (Below.refl W2.heap.size W2).drew
 generalize W2.drew = y0 at *
 clear hW0 hW1 hW2
 refine E.xP 0 (v := ?_) rfl (by kernel_rfl) (fun c a w h => h) (by rfl) ?_ (fun _ => hHeld) ?_
 rotate_left
 ·(intro w hSw; clear hSw; go_simp; try with_reducible rfl)
 simp only [E.pts]
 refine E.zT (is := [1, 2]) ?_
 iterate 2
  refine E.yT (v := ?_) rfl (by kernel_rfl) (fun c a w h => h) (by rfl) ?_ hHeld ?_
  rotate_left
  ·(intro w hSw; (try dsimp only at hSw); go_simp; try with_reducible rfl)
  simp only [E.pts]
 refine E.eT ?_
 refine E.xP 4 (v := ?_) rfl (by kernel_rfl) (fun c a w h => h) (by rfl) ?_ (fun _ => hHeld) ?_
 rotate_left
 ·(intro w hSw; clear hSw; go_simp; try with_reducible rfl)
 simp only [E.pts]
 refine E.xT 5 (v := ?_) rfl (by kernel_rfl) (fun c a w h => h) (by rfl) ?_ hHeld ?_
 rotate_left
 ·(intro w hSw; (try dsimp only at hSw); go_simp; try with_reducible rfl)
 simp only [E.pts]
 refine wpD_ready (rs := [3]) (by kernel_rfl) (by simp) ?_
 refine AllD.cons rfl (fun K hK => ?_) AllD.nil
 go_simp
 refine (HQ.out y0).mono ?_
 rintro e y1 ⟨rfl, hb⟩
 have HB1 := hid (HB0.out.trans (hb.mono HB0.out.size))
 clear hb
 refine hK.out _ _ (HS.out _ HB1.out) (fun hHeld => ?_)
 clear hK K
 try simp only [E.pts]
 refine wpD_ready (rs := [6]) (by kernel_rfl) (by simp) ?_
 refine AllD.cons rfl (fun K hK => ?_) AllD.nil
 go_simp
 refine (must_false 152 n.p y1).mono ?_
 rintro e y2 ⟨rfl, hb⟩
 refine ⟨rfl, ?_⟩
 rw [HR.out]
 exact ⟨rfl, HG.out.trans ((Gw.of HB1.out).trans (Gw.of hb))⟩
theorem pr_55 (n : Nd) (q1 q2 : Option Addr) (d1 d2 : Nat) (w : Wk) (s : St) (hh : -1000 <= s.h /\ s.h <= 1000) (hl : s.own.length <= 1000) (g : Nat) (mv av : Value) (W : World) (h : EW W g mv av w) (hx : n.op = ((55 : Nat) : Int)) (hr : rfits n.op s = true) :
  Calls Tryz.prog 99 #[.pointer (some ⟨g, 0, none⟩), .agg #[.int .i64 n.k, .int .i64 n.op, .int .u16 n.v, .string n.nm, .slice q1 n.th.length d1, .slice q2 n.el.length d2, .bool n.has, .int .i64 n.p.1, .int .i64 n.p.2], .agg (stc s).toArray] W (EO W g mv av (fun s => .agg (stc s).toArray) (prim n.op n.p (w, s))) := by
 obtain ⟨W0, W1, W2, hW0, hW1, hW2, hB, hA, hF⟩ := box_nsr n q1 q2 d1 d2 s g mv av w W h
 have HA := hid hA
 have HB := hid hB
 have HF := hid hF
 have HG := hid (Gw.of (g := g) hB)
 clear hA hB hF h
 have HR : Y.Hd (prim n.op n.p (w, s) = match step (w, s) (P.ri 55) (P.ro 55) n.p with | .error e => .error e | .ok y => put y n.p [4]) := ⟨by
  have e1 : n.op.toNat = 55 := by omega
  unfold prim; rw [if_neg (by rw [hr]; simp), e1]
  cases step (w, s) (P.ri 55) (P.ro 55) n.p with
  | error e => rfl
  | ok y => simp only; rw [if_pos (by omega)]⟩
 generalize prim n.op n.p (w, s) = R at *
 have hrf : ∀ V, Calls Tryz.prog 112 #[.int .i64 n.op, .agg (stc s).toArray] V fun e w' => e = .returned (.bool true) /\ Below V.heap.size V w' := fun V => by
  have := returnFits_any n.op s hl V
  rw [hr] at this
  exact this
 have HQ := hid hrf
 clear hrf
 have HK : Y.Hd (∀ wz, Below W2.heap.size W2 wz -> FR wz W.heap.size W0.heap.size W1.heap.size g (ndc n (.slice q1 n.th.length d1) (.slice q2 n.el.length d2)) s mv av w) := ⟨fun wz hz => HF.out.below hz⟩
 have HX := hid hx
 clear hx
 unfold stc
 go_enter Tryz.func99, Tryz.ntmps99
 go_upto_region 1 with fail
 have HS : Y.Hd (∀ wz, Below W2.heap.size W2 wz -> (fun wz : World => wz.cell? ⟨W.heap.size, 1, none⟩ = some (.int .i64 n.op) /\ wz.cell? ⟨W.heap.size, 7, none⟩ = some (.int .i64 n.p.1) /\ wz.cell? ⟨W.heap.size, 8, none⟩ = some (.int .i64 n.p.2) /\ wz.cell? ⟨W0.heap.size, 0, none⟩ = some (.bool s.dead) /\ wz.cell? ⟨W0.heap.size, 1, none⟩ = some (.int .i64 s.h) /\ wz.cell? ⟨W0.heap.size, 2, none⟩ = some (.string ⟨s.own.toArray⟩)) wz) := ⟨fun wz hz => by
  have hf := HK.out wz hz
  obtain ⟨_, c1, _, _, _, _, _, c7, c8⟩ := nd_cells hf.1
  obtain ⟨x0, x1, x2⟩ := hf.2.1.cells
  exact ⟨c1, c7, c8, x0, x1, x2⟩⟩
 refine wp_region_drop [] (S := fun wz : World => wz.cell? ⟨W.heap.size, 1, none⟩ = some (.int .i64 n.op) /\ wz.cell? ⟨W.heap.size, 7, none⟩ = some (.int .i64 n.p.1) /\ wz.cell? ⟨W.heap.size, 8, none⟩ = some (.int .i64 n.p.2) /\ wz.cell? ⟨W0.heap.size, 0, none⟩ = some (.bool s.dead) /\ wz.cell? ⟨W0.heap.size, 1, none⟩ = some (.int .i64 s.h) /\ wz.cell? ⟨W0.heap.size, 2, none⟩ = some (.string ⟨s.own.toArray⟩)) (by kernel_rfl) (HS.out W2.drew (Below.refl _ _).drew) (fun hHeld => ?_)
 have HB0 := hid (Below.refl W2.heap.size W2).drew
 generalize W2.drew = y0 at *
 clear hW0 hW1 hW2
 refine E.xP 0 (v := ?_) rfl (by kernel_rfl) (fun c a w h => h) (by rfl) ?_ (fun _ => hHeld) ?_
 rotate_left
 ·(intro w hSw; clear hSw; go_simp; try with_reducible rfl)
 simp only [E.pts]
 refine E.zT (is := [1, 2]) ?_
 iterate 2
  refine E.yT (v := ?_) rfl (by kernel_rfl) (fun c a w h => h) (by rfl) ?_ hHeld ?_
  rotate_left
  ·(intro w hSw; (try dsimp only at hSw); go_simp; try with_reducible rfl)
  simp only [E.pts]
 refine E.eT ?_
 refine E.xP 4 (v := ?_) rfl (by kernel_rfl) (fun c a w h => h) (by rfl) ?_ (fun _ => hHeld) ?_
 rotate_left
 ·(intro w hSw; clear hSw; go_simp; try with_reducible rfl)
 simp only [E.pts]
 refine E.xT 5 (v := ?_) rfl (by kernel_rfl) (fun c a w h => h) (by rfl) ?_ hHeld ?_
 rotate_left
 ·(intro w hSw; (try dsimp only at hSw); go_simp; try with_reducible rfl)
 simp only [E.pts]
 refine wpD_ready (rs := [3]) (by kernel_rfl) (by simp) ?_
 refine AllD.cons rfl (fun K hK => ?_) AllD.nil
 go_simp
 refine (HQ.out y0).mono ?_
 rintro e y1 ⟨rfl, hb⟩
 have HB1 := hid (HB0.out.trans (hb.mono HB0.out.size))
 clear hb
 refine hK.out _ _ (HS.out _ HB1.out) (fun hHeld => ?_)
 clear hK K
 try simp only [E.pts]
 refine wpD_ready (rs := [6]) (by kernel_rfl) (by simp) ?_
 refine AllD.cons rfl (fun K hK => ?_) AllD.nil
 go_simp
 refine (must_true 152 n.p y1).mono ?_
 rintro e y2 ⟨rfl, hb⟩
 have HB2 := hid (HB1.out.trans (hb.mono HB1.out.size))
 clear hb
 refine hK.out _ _ (HS.out _ HB2.out) (fun hHeld => ?_)
 clear hK K
 try simp only [E.pts]
 refine wpD_done (by kernel_rfl) ?_ _
 have HF2 := hid (HK.out _ HB2.out)
 have HG2 := hid (HG.out.trans (Gw.of HB2.out))
 clear hHeld HS HK HB0 HB1 HB2
 obtain ⟨c0, c1, c2, c3, c4, c5, c6, c7, c8⟩ := nd_cells HF2.out.1
 obtain ⟨x0, x1, x2⟩ := HF2.out.2.1.cells
 rw [HX.out] at c1
 have hof := P.of_at 55 (by decide) (by decide) y2
 unfold P.rowN P.rowV at hof
 go_wp2_with fail
 try simp only [Int.ofNat_eq_natCast, Int.cast_ofNat_Int] at *
 refine hof.mono ?_
 rintro e y3 ⟨rfl, hb⟩
 have HF3 := hid (HF2.out.below hb)
 have HG3 := hid (HG2.out.trans (Gw.of hb))
 clear hof hb
 clear c0 c1 c2 c3 c4 c5 c6 c7 c8 x0 x1 x2
 obtain ⟨y4, hy4⟩ : ∃ y4, y3.alloc (.cells #[.int .i64 55, .string (P.nm 55), .int .i64 (P.ri 55), .int .i64 (P.ro 55), .int .i64 (P.rc 55), .bool (P.rb 55)] 119) = y4 := ⟨_, rfl⟩
 have zr : Below y3.heap.size y3 y4 := by rw [<- hy4]; exact (Below.refl _ _).alloc (Nat.le_refl _) _
 have vr : y4.heap[y3.heap.size]? = some (.cells [.int .i64 55, .string (P.nm 55), .int .i64 (P.ri 55), .int .i64 (P.ro 55), .int .i64 (P.rc 55), .bool (P.rb 55)].toArray 119 (0, 0)) := by rw [<- hy4]; exact heap_alloc_new y3 _
 have r2 := S.cell_of y4 _ 2 _ 119 _ vr rfl
 have r3 := S.cell_of y4 _ 3 _ 119 _ vr rfl
 have HF4 := hid (HF3.out.below zr)
 have HG4 := hid (HG3.out.trans (Gw.of zr))
 clear zr vr
 obtain ⟨c0, c1, c2, c3, c4, c5, c6, c7, c8⟩ := nd_cells HF4.out.1
 obtain ⟨x0, x1, x2⟩ := HF4.out.2.1.cells
 have hrr := ri_ro 55 (by decide)
 have hstep := step_any (w, s) (P.ri 55) (P.ro 55) n.p hh (by omega) (by omega) g mv av y4 HF4.out.2.2.2
 generalize hgs : step (w, s) (P.ri 55) (P.ro 55) n.p = G at *
 have HGS := hid hgs
 clear hgs hrr
 unfold stc at hstep
 go_wp2_with fail
 refine hstep.mono ?_
 intro e y5 hp
 clear hstep r2 r3 hy4
 clear c0 c1 c2 c3 c4 c5 c6 c7 c8 x0 x1 x2
 cases G with
 | error er =>
  obtain ⟨rfl, hG⟩ := hp
  refine ⟨rfl, ?_⟩
  rw [HR.out]
  exact ⟨rfl, HG4.out.trans hG⟩
 | ok y =>
  obtain ⟨k', s'⟩ := y
  obtain ⟨rfl, hE, hG⟩ := hp
  have HF5 := hid (HF4.out.gw HA.out hG hE)
  have HG5 := hid (HG4.out.trans hG)
  clear hE hG
  have hst := HF5.out.2.1
  have HF6 := hid (HF5.out.row HA.out s')
  have HG6 := hid (HG5.out.setR W0.heap.size (stc s').toArray (by have := HA.out.n1; omega))
  unfold stc at HF6 HG6
  simp only
  go_upto_region 4 with (refine wpList_store_row rfl 129 _ _ rfl W0.heap.size _ rfl rfl 129 _ hst (by exact sizeS) (by rfl) (by simp [Value.oneCell']) ?_)
  clear hst
  generalize y5.setRow W0.heap.size [.bool s'.dead, .int .i64 s'.h, .string ⟨s'.own.toArray⟩].toArray = y6 at *
  obtain ⟨c0, c1, c2, c3, c4, c5, c6, c7, c8⟩ := nd_cells HF6.out.1
  obtain ⟨x0, x1, x2⟩ := HF6.out.2.1.cells
  rw [HX.out] at c1
  try simp only [Int.cast_ofNat_Int] at c1
  have hown : s'.own = s.own := step_own HGS.out
  have hlen2 : s'.own.length <= 1000 := by rw [hown]; exact hl
  obtain ⟨y7, hy7⟩ : ∃ y7, y6.alloc (.cells #[.int .u8 4] 5) = y7 := ⟨_, rfl⟩
  have z7 : Below y6.heap.size y6 y7 := by rw [<- hy7]; exact (Below.refl _ _).alloc (Nat.le_refl _) _
  have v7 : y7.heap[y6.heap.size]? = some (.cells [.int .u8 4].toArray 5 (0, 0)) := by rw [<- hy7]; exact heap_alloc_new y6 _
  have hbs : Y.BS y7 (· = y6.heap.size) (.slice (some ⟨y6.heap.size, 0, none⟩) 1 1) [4] := .inr ⟨_, 0, 1, rfl, rfl, fun j x hx => by
   match j, hx with
   | 0, hx => cases hx; exact S.cell_of y7 _ 0 _ 5 _ v7 rfl⟩
  have hlt := S.lt_of v7
  have HF7 := hid (HF6.out.below z7)
  have HG7 := hid (HG6.out.trans (Gw.of z7))
  have hput := put_any (k', s') n.p [4] hlen2 (by simp) _ (· = y6.heap.size) g mv av y7 (fun j hj => by rw [hj]; exact hlt) hbs HF7.out.2.2.2
  replace HR : Y.Hd (R = put (k', s') n.p [4]) := ⟨HR.out⟩
  generalize hgp : put (k', s') n.p [4] = Gp at *
  clear hgp hbs v7 z7 hlt hown hlen2
  unfold stc at hput
  go_wp2_with fail
  refine hput.mono ?_
  intro e y8 hp
  clear hput hy7
  clear c0 c1 c2 c3 c4 c5 c6 c7 c8 x0 x1 x2
  cases Gp with
  | error er =>
   obtain ⟨rfl, hG⟩ := hp
   refine ⟨rfl, ?_⟩
   rw [HR.out]
   exact ⟨rfl, HG7.out.trans hG⟩
  | ok z =>
   obtain ⟨k2, s2⟩ := z
   obtain ⟨rfl, hE, hG⟩ := hp
   have HF8 := hid (HF7.out.gw HA.out hG hE)
   have HG8 := hid (HG7.out.trans hG)
   clear hE hG
   simp only
   have k6 := HF8.out.res HA.out HG8.out s2
   have hst := HF8.out.2.2.1
   unfold stc at k6
   simp only at k6
   have H6 := hid k6
   clear k6
   go_wp2_with (refine wpList_store_row rfl 129 _ _ rfl W1.heap.size _ rfl rfl 129 _ hst (by exact sizeS) (by rfl) (by simp [Value.oneCell']) ?_)
   refine bodyPost_ret (st_end 6 rfl rfl H6.out.1) rfl ?_
   rw [HR.out]
   exact ⟨rfl, H6.out.2.1, H6.out.2.2⟩
theorem pr_56 (n : Nd) (q1 q2 : Option Addr) (d1 d2 : Nat) (w : Wk) (s : St) (hh : -1000 <= s.h /\ s.h <= 1000) (hl : s.own.length <= 1000) (g : Nat) (mv av : Value) (W : World) (h : EW W g mv av w) (hx : n.op = ((56 : Nat) : Int)) (hr : rfits n.op s = true) (ho : s.own ≠ []) :
  Calls Tryz.prog 99 #[.pointer (some ⟨g, 0, none⟩), .agg #[.int .i64 n.k, .int .i64 n.op, .int .u16 n.v, .string n.nm, .slice q1 n.th.length d1, .slice q2 n.el.length d2, .bool n.has, .int .i64 n.p.1, .int .i64 n.p.2], .agg (stc s).toArray] W (EO W g mv av (fun s => .agg (stc s).toArray) (prim n.op n.p (w, s))) := by
 obtain ⟨W0, W1, W2, hW0, hW1, hW2, hB, hA, hF⟩ := box_nsr n q1 q2 d1 d2 s g mv av w W h
 have HA := hid hA
 have HB := hid hB
 have HF := hid hF
 have HG := hid (Gw.of (g := g) hB)
 clear hA hB hF h
 have HR : Y.Hd (prim n.op n.p (w, s) = match step (w, s) (P.ri 56) (P.ro 56) n.p with | .error e => .error e | .ok y => .ok (y.1, { y.2 with own := y.2.own.dropLast })) := ⟨by
  have e1 : n.op.toNat = 56 := by omega
  unfold prim; rw [if_neg (by rw [hr]; simp), e1]
  cases step (w, s) (P.ri 56) (P.ro 56) n.p with
  | error e => rfl
  | ok y => simp only; rw [if_neg (by omega), if_pos (by omega)]⟩
 generalize prim n.op n.p (w, s) = R at *
 have hrf : ∀ V, Calls Tryz.prog 112 #[.int .i64 n.op, .agg (stc s).toArray] V fun e w' => e = .returned (.bool true) /\ Below V.heap.size V w' := fun V => by
  have := returnFits_any n.op s hl V
  rw [hr] at this
  exact this
 have HQ := hid hrf
 clear hrf
 have HK : Y.Hd (∀ wz, Below W2.heap.size W2 wz -> FR wz W.heap.size W0.heap.size W1.heap.size g (ndc n (.slice q1 n.th.length d1) (.slice q2 n.el.length d2)) s mv av w) := ⟨fun wz hz => HF.out.below hz⟩
 have HX := hid hx
 clear hx
 unfold stc
 go_enter Tryz.func99, Tryz.ntmps99
 go_upto_region 1 with fail
 have HS : Y.Hd (∀ wz, Below W2.heap.size W2 wz -> (fun wz : World => wz.cell? ⟨W.heap.size, 1, none⟩ = some (.int .i64 n.op) /\ wz.cell? ⟨W.heap.size, 7, none⟩ = some (.int .i64 n.p.1) /\ wz.cell? ⟨W.heap.size, 8, none⟩ = some (.int .i64 n.p.2) /\ wz.cell? ⟨W0.heap.size, 0, none⟩ = some (.bool s.dead) /\ wz.cell? ⟨W0.heap.size, 1, none⟩ = some (.int .i64 s.h) /\ wz.cell? ⟨W0.heap.size, 2, none⟩ = some (.string ⟨s.own.toArray⟩)) wz) := ⟨fun wz hz => by
  have hf := HK.out wz hz
  obtain ⟨_, c1, _, _, _, _, _, c7, c8⟩ := nd_cells hf.1
  obtain ⟨x0, x1, x2⟩ := hf.2.1.cells
  exact ⟨c1, c7, c8, x0, x1, x2⟩⟩
 refine wp_region_drop [] (S := fun wz : World => wz.cell? ⟨W.heap.size, 1, none⟩ = some (.int .i64 n.op) /\ wz.cell? ⟨W.heap.size, 7, none⟩ = some (.int .i64 n.p.1) /\ wz.cell? ⟨W.heap.size, 8, none⟩ = some (.int .i64 n.p.2) /\ wz.cell? ⟨W0.heap.size, 0, none⟩ = some (.bool s.dead) /\ wz.cell? ⟨W0.heap.size, 1, none⟩ = some (.int .i64 s.h) /\ wz.cell? ⟨W0.heap.size, 2, none⟩ = some (.string ⟨s.own.toArray⟩)) (by kernel_rfl) (HS.out W2.drew (Below.refl _ _).drew) (fun hHeld => ?_)
 have HB0 := hid (Below.refl W2.heap.size W2).drew
 generalize W2.drew = y0 at *
 clear hW0 hW1 hW2
 refine E.xP 0 (v := ?_) rfl (by kernel_rfl) (fun c a w h => h) (by rfl) ?_ (fun _ => hHeld) ?_
 rotate_left
 ·(intro w hSw; clear hSw; go_simp; try with_reducible rfl)
 simp only [E.pts]
 refine E.zT (is := [1, 2]) ?_
 iterate 2
  refine E.yT (v := ?_) rfl (by kernel_rfl) (fun c a w h => h) (by rfl) ?_ hHeld ?_
  rotate_left
  ·(intro w hSw; (try dsimp only at hSw); go_simp; try with_reducible rfl)
  simp only [E.pts]
 refine E.eT ?_
 refine E.xP 4 (v := ?_) rfl (by kernel_rfl) (fun c a w h => h) (by rfl) ?_ (fun _ => hHeld) ?_
 rotate_left
 ·(intro w hSw; clear hSw; go_simp; try with_reducible rfl)
 simp only [E.pts]
 refine E.xT 5 (v := ?_) rfl (by kernel_rfl) (fun c a w h => h) (by rfl) ?_ hHeld ?_
 rotate_left
 ·(intro w hSw; (try dsimp only at hSw); go_simp; try with_reducible rfl)
 simp only [E.pts]
 refine wpD_ready (rs := [3]) (by kernel_rfl) (by simp) ?_
 refine AllD.cons rfl (fun K hK => ?_) AllD.nil
 go_simp
 refine (HQ.out y0).mono ?_
 rintro e y1 ⟨rfl, hb⟩
 have HB1 := hid (HB0.out.trans (hb.mono HB0.out.size))
 clear hb
 refine hK.out _ _ (HS.out _ HB1.out) (fun hHeld => ?_)
 clear hK K
 try simp only [E.pts]
 refine wpD_ready (rs := [6]) (by kernel_rfl) (by simp) ?_
 refine AllD.cons rfl (fun K hK => ?_) AllD.nil
 go_simp
 refine (must_true 152 n.p y1).mono ?_
 rintro e y2 ⟨rfl, hb⟩
 have HB2 := hid (HB1.out.trans (hb.mono HB1.out.size))
 clear hb
 refine hK.out _ _ (HS.out _ HB2.out) (fun hHeld => ?_)
 clear hK K
 try simp only [E.pts]
 refine wpD_done (by kernel_rfl) ?_ _
 have HF2 := hid (HK.out _ HB2.out)
 have HG2 := hid (HG.out.trans (Gw.of HB2.out))
 clear hHeld HS HK HB0 HB1 HB2
 obtain ⟨c0, c1, c2, c3, c4, c5, c6, c7, c8⟩ := nd_cells HF2.out.1
 obtain ⟨x0, x1, x2⟩ := HF2.out.2.1.cells
 rw [HX.out] at c1
 have hof := P.of_at 56 (by decide) (by decide) y2
 unfold P.rowN P.rowV at hof
 go_wp2_with fail
 try simp only [Int.ofNat_eq_natCast, Int.cast_ofNat_Int] at *
 refine hof.mono ?_
 rintro e y3 ⟨rfl, hb⟩
 have HF3 := hid (HF2.out.below hb)
 have HG3 := hid (HG2.out.trans (Gw.of hb))
 clear hof hb
 clear c0 c1 c2 c3 c4 c5 c6 c7 c8 x0 x1 x2
 obtain ⟨y4, hy4⟩ : ∃ y4, y3.alloc (.cells #[.int .i64 56, .string (P.nm 56), .int .i64 (P.ri 56), .int .i64 (P.ro 56), .int .i64 (P.rc 56), .bool (P.rb 56)] 119) = y4 := ⟨_, rfl⟩
 have zr : Below y3.heap.size y3 y4 := by rw [<- hy4]; exact (Below.refl _ _).alloc (Nat.le_refl _) _
 have vr : y4.heap[y3.heap.size]? = some (.cells [.int .i64 56, .string (P.nm 56), .int .i64 (P.ri 56), .int .i64 (P.ro 56), .int .i64 (P.rc 56), .bool (P.rb 56)].toArray 119 (0, 0)) := by rw [<- hy4]; exact heap_alloc_new y3 _
 have r2 := S.cell_of y4 _ 2 _ 119 _ vr rfl
 have r3 := S.cell_of y4 _ 3 _ 119 _ vr rfl
 have HF4 := hid (HF3.out.below zr)
 have HG4 := hid (HG3.out.trans (Gw.of zr))
 clear zr vr
 obtain ⟨c0, c1, c2, c3, c4, c5, c6, c7, c8⟩ := nd_cells HF4.out.1
 obtain ⟨x0, x1, x2⟩ := HF4.out.2.1.cells
 have hrr := ri_ro 56 (by decide)
 have hstep := step_any (w, s) (P.ri 56) (P.ro 56) n.p hh (by omega) (by omega) g mv av y4 HF4.out.2.2.2
 generalize hgs : step (w, s) (P.ri 56) (P.ro 56) n.p = G at *
 have HGS := hid hgs
 clear hgs hrr
 unfold stc at hstep
 go_wp2_with fail
 refine hstep.mono ?_
 intro e y5 hp
 clear hstep r2 r3 hy4
 clear c0 c1 c2 c3 c4 c5 c6 c7 c8 x0 x1 x2
 cases G with
 | error er =>
  obtain ⟨rfl, hG⟩ := hp
  refine ⟨rfl, ?_⟩
  rw [HR.out]
  exact ⟨rfl, HG4.out.trans hG⟩
 | ok y =>
  obtain ⟨k', s'⟩ := y
  obtain ⟨rfl, hE, hG⟩ := hp
  have HF5 := hid (HF4.out.gw HA.out hG hE)
  have HG5 := hid (HG4.out.trans hG)
  clear hE hG
  have hst := HF5.out.2.1
  have HF6 := hid (HF5.out.row HA.out s')
  have HG6 := hid (HG5.out.setR W0.heap.size (stc s').toArray (by have := HA.out.n1; omega))
  unfold stc at HF6 HG6
  simp only
  go_upto_region 4 with (refine wpList_store_row rfl 129 _ _ rfl W0.heap.size _ rfl rfl 129 _ hst (by exact sizeS) (by rfl) (by simp [Value.oneCell']) ?_)
  clear hst
  generalize y5.setRow W0.heap.size [.bool s'.dead, .int .i64 s'.h, .string ⟨s'.own.toArray⟩].toArray = y6 at *
  obtain ⟨c0, c1, c2, c3, c4, c5, c6, c7, c8⟩ := nd_cells HF6.out.1
  obtain ⟨x0, x1, x2⟩ := HF6.out.2.1.cells
  rw [HX.out] at c1
  try simp only [Int.cast_ofNat_Int] at c1
  have f2 := HF6.out.2.1.fro 2
  have hown : s'.own = s.own := step_own HGS.out
  have hlen : 1 <= s'.own.length := by rw [hown]; cases hs : s.own with | nil => exact absurd hs ho | cons a r => simp
  have hlen2 : s'.own.length <= 1000 := by rw [hown]; exact hl
  have hsz : (⟨s'.own.toArray⟩ : ByteArray).size = s'.own.length := by simp [ByteArray.size]
  have hcut := cut_own s'.own
  have HF7 := hid (HF6.out.cell HA.out 2 (.string ⟨s'.own.dropLast.toArray⟩) { s' with own := s'.own.dropLast } rfl)
  have HG7 := hid (HG6.out.setN W0.heap.size 2 (.string ⟨s'.own.dropLast.toArray⟩) (by have := HA.out.n1; omega))
  clear hown ho
  go_upto_region 11 with fail
  clear f2 hlen hlen2 hsz hcut
  clear c0 c1 c2 c3 c4 c5 c6 c7 c8 x0 x1 x2
  generalize y6.setCell ⟨W0.heap.size, 2, none⟩ (.string ⟨s'.own.dropLast.toArray⟩) = y7 at *
  obtain ⟨x0, x1, x2⟩ := HF7.out.2.1.cells
  simp only at x0 x1 x2
  have k6 := HF7.out.res HA.out HG7.out { s' with own := s'.own.dropLast }
  have hst := HF7.out.2.2.1
  unfold stc at k6
  simp only at k6
  have H6 := hid k6
  clear k6
  go_wp2_with (refine wpList_store_row rfl 129 _ _ rfl W1.heap.size _ rfl rfl 129 _ hst (by exact sizeS) (by rfl) (by simp [Value.oneCell']) ?_)
  refine bodyPost_ret (st_end 6 rfl rfl H6.out.1) rfl ?_
  rw [HR.out]
  exact ⟨rfl, H6.out.2.1, H6.out.2.2⟩
theorem pr_11 (n : Nd) (q1 q2 : Option Addr) (d1 d2 : Nat) (w : Wk) (s : St) (hh : -1000 <= s.h /\ s.h <= 1000) (hl : s.own.length <= 1000) (g : Nat) (mv av : Value) (W : World) (h : EW W g mv av w) (hx : n.op = ((11 : Nat) : Int)) (hr : rfits n.op s = true) :
  Calls Tryz.prog 99 #[.pointer (some ⟨g, 0, none⟩), .agg #[.int .i64 n.k, .int .i64 n.op, .int .u16 n.v, .string n.nm, .slice q1 n.th.length d1, .slice q2 n.el.length d2, .bool n.has, .int .i64 n.p.1, .int .i64 n.p.2], .agg (stc s).toArray] W (EO W g mv av (fun s => .agg (stc s).toArray) (prim n.op n.p (w, s))) := by
 obtain ⟨W0, W1, W2, hW0, hW1, hW2, hB, hA, hF⟩ := box_nsr n q1 q2 d1 d2 s g mv av w W h
 have HA := hid hA
 have HB := hid hB
 have HF := hid hF
 have HG := hid (Gw.of (g := g) hB)
 clear hA hB hF h
 have HR : Y.Hd (prim n.op n.p (w, s) = match step (w, s) (P.ri 11) (P.ro 11) n.p with | .error e => .error e | .ok y => .ok (y.1, { y.2 with dead := true })) := ⟨by
  have e1 : n.op.toNat = 11 := by omega
  unfold prim; rw [if_neg (by rw [hr]; simp), e1]
  cases step (w, s) (P.ri 11) (P.ro 11) n.p with
  | error e => rfl
  | ok y => simp only; rw [if_neg (by omega), if_neg (by omega), if_pos (by omega)]⟩
 generalize prim n.op n.p (w, s) = R at *
 have hrf : ∀ V, Calls Tryz.prog 112 #[.int .i64 n.op, .agg (stc s).toArray] V fun e w' => e = .returned (.bool true) /\ Below V.heap.size V w' := fun V => by
  have := returnFits_any n.op s hl V
  rw [hr] at this
  exact this
 have HQ := hid hrf
 clear hrf
 have HK : Y.Hd (∀ wz, Below W2.heap.size W2 wz -> FR wz W.heap.size W0.heap.size W1.heap.size g (ndc n (.slice q1 n.th.length d1) (.slice q2 n.el.length d2)) s mv av w) := ⟨fun wz hz => HF.out.below hz⟩
 have HX := hid hx
 clear hx
 unfold stc
 go_enter Tryz.func99, Tryz.ntmps99
 go_upto_region 1 with fail
 have HS : Y.Hd (∀ wz, Below W2.heap.size W2 wz -> (fun wz : World => wz.cell? ⟨W.heap.size, 1, none⟩ = some (.int .i64 n.op) /\ wz.cell? ⟨W.heap.size, 7, none⟩ = some (.int .i64 n.p.1) /\ wz.cell? ⟨W.heap.size, 8, none⟩ = some (.int .i64 n.p.2) /\ wz.cell? ⟨W0.heap.size, 0, none⟩ = some (.bool s.dead) /\ wz.cell? ⟨W0.heap.size, 1, none⟩ = some (.int .i64 s.h) /\ wz.cell? ⟨W0.heap.size, 2, none⟩ = some (.string ⟨s.own.toArray⟩)) wz) := ⟨fun wz hz => by
  have hf := HK.out wz hz
  obtain ⟨_, c1, _, _, _, _, _, c7, c8⟩ := nd_cells hf.1
  obtain ⟨x0, x1, x2⟩ := hf.2.1.cells
  exact ⟨c1, c7, c8, x0, x1, x2⟩⟩
 refine wp_region_drop [] (S := fun wz : World => wz.cell? ⟨W.heap.size, 1, none⟩ = some (.int .i64 n.op) /\ wz.cell? ⟨W.heap.size, 7, none⟩ = some (.int .i64 n.p.1) /\ wz.cell? ⟨W.heap.size, 8, none⟩ = some (.int .i64 n.p.2) /\ wz.cell? ⟨W0.heap.size, 0, none⟩ = some (.bool s.dead) /\ wz.cell? ⟨W0.heap.size, 1, none⟩ = some (.int .i64 s.h) /\ wz.cell? ⟨W0.heap.size, 2, none⟩ = some (.string ⟨s.own.toArray⟩)) (by kernel_rfl) (HS.out W2.drew (Below.refl _ _).drew) (fun hHeld => ?_)
 have HB0 := hid (Below.refl W2.heap.size W2).drew
 generalize W2.drew = y0 at *
 clear hW0 hW1 hW2
 refine E.xP 0 (v := ?_) rfl (by kernel_rfl) (fun c a w h => h) (by rfl) ?_ (fun _ => hHeld) ?_
 rotate_left
 ·(intro w hSw; clear hSw; go_simp; try with_reducible rfl)
 simp only [E.pts]
 refine E.zT (is := [1, 2]) ?_
 iterate 2
  refine E.yT (v := ?_) rfl (by kernel_rfl) (fun c a w h => h) (by rfl) ?_ hHeld ?_
  rotate_left
  ·(intro w hSw; (try dsimp only at hSw); go_simp; try with_reducible rfl)
  simp only [E.pts]
 refine E.eT ?_
 refine E.xP 4 (v := ?_) rfl (by kernel_rfl) (fun c a w h => h) (by rfl) ?_ (fun _ => hHeld) ?_
 rotate_left
 ·(intro w hSw; clear hSw; go_simp; try with_reducible rfl)
 simp only [E.pts]
 refine E.xT 5 (v := ?_) rfl (by kernel_rfl) (fun c a w h => h) (by rfl) ?_ hHeld ?_
 rotate_left
 ·(intro w hSw; (try dsimp only at hSw); go_simp; try with_reducible rfl)
 simp only [E.pts]
 refine wpD_ready (rs := [3]) (by kernel_rfl) (by simp) ?_
 refine AllD.cons rfl (fun K hK => ?_) AllD.nil
 go_simp
 refine (HQ.out y0).mono ?_
 rintro e y1 ⟨rfl, hb⟩
 have HB1 := hid (HB0.out.trans (hb.mono HB0.out.size))
 clear hb
 refine hK.out _ _ (HS.out _ HB1.out) (fun hHeld => ?_)
 clear hK K
 try simp only [E.pts]
 refine wpD_ready (rs := [6]) (by kernel_rfl) (by simp) ?_
 refine AllD.cons rfl (fun K hK => ?_) AllD.nil
 go_simp
 refine (must_true 152 n.p y1).mono ?_
 rintro e y2 ⟨rfl, hb⟩
 have HB2 := hid (HB1.out.trans (hb.mono HB1.out.size))
 clear hb
 refine hK.out _ _ (HS.out _ HB2.out) (fun hHeld => ?_)
 clear hK K
 try simp only [E.pts]
 refine wpD_done (by kernel_rfl) ?_ _
 have HF2 := hid (HK.out _ HB2.out)
 have HG2 := hid (HG.out.trans (Gw.of HB2.out))
 clear hHeld HS HK HB0 HB1 HB2
 obtain ⟨c0, c1, c2, c3, c4, c5, c6, c7, c8⟩ := nd_cells HF2.out.1
 obtain ⟨x0, x1, x2⟩ := HF2.out.2.1.cells
 rw [HX.out] at c1
 have hof := P.of_at 11 (by decide) (by decide) y2
 unfold P.rowN P.rowV at hof
 go_wp2_with fail
 try simp only [Int.ofNat_eq_natCast, Int.cast_ofNat_Int] at *
 refine hof.mono ?_
 rintro e y3 ⟨rfl, hb⟩
 have HF3 := hid (HF2.out.below hb)
 have HG3 := hid (HG2.out.trans (Gw.of hb))
 clear hof hb
 clear c0 c1 c2 c3 c4 c5 c6 c7 c8 x0 x1 x2
 obtain ⟨y4, hy4⟩ : ∃ y4, y3.alloc (.cells #[.int .i64 11, .string (P.nm 11), .int .i64 (P.ri 11), .int .i64 (P.ro 11), .int .i64 (P.rc 11), .bool (P.rb 11)] 119) = y4 := ⟨_, rfl⟩
 have zr : Below y3.heap.size y3 y4 := by rw [<- hy4]; exact (Below.refl _ _).alloc (Nat.le_refl _) _
 have vr : y4.heap[y3.heap.size]? = some (.cells [.int .i64 11, .string (P.nm 11), .int .i64 (P.ri 11), .int .i64 (P.ro 11), .int .i64 (P.rc 11), .bool (P.rb 11)].toArray 119 (0, 0)) := by rw [<- hy4]; exact heap_alloc_new y3 _
 have r2 := S.cell_of y4 _ 2 _ 119 _ vr rfl
 have r3 := S.cell_of y4 _ 3 _ 119 _ vr rfl
 have HF4 := hid (HF3.out.below zr)
 have HG4 := hid (HG3.out.trans (Gw.of zr))
 clear zr vr
 obtain ⟨c0, c1, c2, c3, c4, c5, c6, c7, c8⟩ := nd_cells HF4.out.1
 obtain ⟨x0, x1, x2⟩ := HF4.out.2.1.cells
 have hrr := ri_ro 11 (by decide)
 have hstep := step_any (w, s) (P.ri 11) (P.ro 11) n.p hh (by omega) (by omega) g mv av y4 HF4.out.2.2.2
 generalize hgs : step (w, s) (P.ri 11) (P.ro 11) n.p = G at *
 have HGS := hid hgs
 clear hgs hrr
 unfold stc at hstep
 go_wp2_with fail
 refine hstep.mono ?_
 intro e y5 hp
 clear hstep r2 r3 hy4
 clear c0 c1 c2 c3 c4 c5 c6 c7 c8 x0 x1 x2
 cases G with
 | error er =>
  obtain ⟨rfl, hG⟩ := hp
  refine ⟨rfl, ?_⟩
  rw [HR.out]
  exact ⟨rfl, HG4.out.trans hG⟩
 | ok y =>
  obtain ⟨k', s'⟩ := y
  obtain ⟨rfl, hE, hG⟩ := hp
  have HF5 := hid (HF4.out.gw HA.out hG hE)
  have HG5 := hid (HG4.out.trans hG)
  clear hE hG
  have hst := HF5.out.2.1
  have HF6 := hid (HF5.out.row HA.out s')
  have HG6 := hid (HG5.out.setR W0.heap.size (stc s').toArray (by have := HA.out.n1; omega))
  unfold stc at HF6 HG6
  simp only
  go_upto_region 4 with (refine wpList_store_row rfl 129 _ _ rfl W0.heap.size _ rfl rfl 129 _ hst (by exact sizeS) (by rfl) (by simp [Value.oneCell']) ?_)
  clear hst
  generalize y5.setRow W0.heap.size [.bool s'.dead, .int .i64 s'.h, .string ⟨s'.own.toArray⟩].toArray = y6 at *
  obtain ⟨c0, c1, c2, c3, c4, c5, c6, c7, c8⟩ := nd_cells HF6.out.1
  obtain ⟨x0, x1, x2⟩ := HF6.out.2.1.cells
  rw [HX.out] at c1
  try simp only [Int.cast_ofNat_Int] at c1
  have f0 := HF6.out.2.1.fro 0
  have HF7 := hid (HF6.out.cell HA.out 0 (.bool true) { s' with dead := true } rfl)
  have HG7 := hid (HG6.out.setN W0.heap.size 0 (.bool true) (by have := HA.out.n1; omega))
  go_upto_region 11 with fail
  clear f0
  clear c0 c1 c2 c3 c4 c5 c6 c7 c8 x0 x1 x2
  generalize y6.setCell ⟨W0.heap.size, 0, none⟩ (.bool true) = y7 at *
  obtain ⟨x0, x1, x2⟩ := HF7.out.2.1.cells
  simp only at x0 x1 x2
  have k6 := HF7.out.res HA.out HG7.out { s' with dead := true }
  have hst := HF7.out.2.2.1
  unfold stc at k6
  simp only at k6
  have H6 := hid k6
  clear k6
  go_wp2_with (refine wpList_store_row rfl 129 _ _ rfl W1.heap.size _ rfl rfl 129 _ hst (by exact sizeS) (by rfl) (by simp [Value.oneCell']) ?_)
  refine bodyPost_ret (st_end 6 rfl rfl H6.out.1) rfl ?_
  rw [HR.out]
  exact ⟨rfl, H6.out.2.1, H6.out.2.2⟩
theorem pr_r (n : Nd) (q1 q2 : Option Addr) (d1 d2 : Nat) (w : Wk) (s : St) (hh : -1000 <= s.h /\ s.h <= 1000) (hl : s.own.length <= 1000) (g : Nat) (mv av : Value) (W : World) (h : EW W g mv av w) (x : Nat) (hx : n.op = (x : Int)) (h9 : 9 <= x) (h63 : x < 64) (b1 : (n.op == 55) = false) (b2 : (n.op == 56) = false) (b3 : (n.op == 11) = false) (hr : rfits n.op s = true) :
  Calls Tryz.prog 99 #[.pointer (some ⟨g, 0, none⟩), .agg #[.int .i64 n.k, .int .i64 n.op, .int .u16 n.v, .string n.nm, .slice q1 n.th.length d1, .slice q2 n.el.length d2, .bool n.has, .int .i64 n.p.1, .int .i64 n.p.2], .agg (stc s).toArray] W (EO W g mv av (fun s => .agg (stc s).toArray) (prim n.op n.p (w, s))) := by
 obtain ⟨W0, W1, W2, hW0, hW1, hW2, hB, hA, hF⟩ := box_nsr n q1 q2 d1 d2 s g mv av w W h
 have HA := hid hA
 have HB := hid hB
 have HF := hid hF
 have HG := hid (Gw.of (g := g) hB)
 clear hA hB hF h
 have HR : Y.Hd (prim n.op n.p (w, s) = match step (w, s) (P.ri x) (P.ro x) n.p with | .error e => .error e | .ok y => .ok y) := ⟨by
  have e1 : n.op.toNat = x := by omega
  unfold prim; rw [if_neg (by rw [hr]; simp), e1]
  cases step (w, s) (P.ri x) (P.ro x) n.p with
  | error e => rfl
  | ok y => simp only; rw [if_neg (by simpa using b1), if_neg (by simpa using b2), if_neg (by simpa using b3)]⟩
 generalize prim n.op n.p (w, s) = R at *
 have hrf : ∀ V, Calls Tryz.prog 112 #[.int .i64 n.op, .agg (stc s).toArray] V fun e w' => e = .returned (.bool true) /\ Below V.heap.size V w' := fun V => by
  have := returnFits_any n.op s hl V
  rw [hr] at this
  exact this
 have HQ := hid hrf
 clear hrf
 have HK : Y.Hd (∀ wz, Below W2.heap.size W2 wz -> FR wz W.heap.size W0.heap.size W1.heap.size g (ndc n (.slice q1 n.th.length d1) (.slice q2 n.el.length d2)) s mv av w) := ⟨fun wz hz => HF.out.below hz⟩
 have HX := hid hx
 clear hx
 unfold stc
 go_enter Tryz.func99, Tryz.ntmps99
 go_upto_region 1 with fail
 have HS : Y.Hd (∀ wz, Below W2.heap.size W2 wz -> (fun wz : World => wz.cell? ⟨W.heap.size, 1, none⟩ = some (.int .i64 n.op) /\ wz.cell? ⟨W.heap.size, 7, none⟩ = some (.int .i64 n.p.1) /\ wz.cell? ⟨W.heap.size, 8, none⟩ = some (.int .i64 n.p.2) /\ wz.cell? ⟨W0.heap.size, 0, none⟩ = some (.bool s.dead) /\ wz.cell? ⟨W0.heap.size, 1, none⟩ = some (.int .i64 s.h) /\ wz.cell? ⟨W0.heap.size, 2, none⟩ = some (.string ⟨s.own.toArray⟩)) wz) := ⟨fun wz hz => by
  have hf := HK.out wz hz
  obtain ⟨_, c1, _, _, _, _, _, c7, c8⟩ := nd_cells hf.1
  obtain ⟨x0, x1, x2⟩ := hf.2.1.cells
  exact ⟨c1, c7, c8, x0, x1, x2⟩⟩
 refine wp_region_drop [] (S := fun wz : World => wz.cell? ⟨W.heap.size, 1, none⟩ = some (.int .i64 n.op) /\ wz.cell? ⟨W.heap.size, 7, none⟩ = some (.int .i64 n.p.1) /\ wz.cell? ⟨W.heap.size, 8, none⟩ = some (.int .i64 n.p.2) /\ wz.cell? ⟨W0.heap.size, 0, none⟩ = some (.bool s.dead) /\ wz.cell? ⟨W0.heap.size, 1, none⟩ = some (.int .i64 s.h) /\ wz.cell? ⟨W0.heap.size, 2, none⟩ = some (.string ⟨s.own.toArray⟩)) (by kernel_rfl) (HS.out W2.drew (Below.refl _ _).drew) (fun hHeld => ?_)
 have HB0 := hid (Below.refl W2.heap.size W2).drew
 generalize W2.drew = y0 at *
 clear hW0 hW1 hW2
 refine E.xP 0 (v := ?_) rfl (by kernel_rfl) (fun c a w h => h) (by rfl) ?_ (fun _ => hHeld) ?_
 rotate_left
 ·(intro w hSw; clear hSw; go_simp; try with_reducible rfl)
 simp only [E.pts]
 refine E.zT (is := [1, 2]) ?_
 iterate 2
  refine E.yT (v := ?_) rfl (by kernel_rfl) (fun c a w h => h) (by rfl) ?_ hHeld ?_
  rotate_left
  ·(intro w hSw; (try dsimp only at hSw); go_simp; try with_reducible rfl)
  simp only [E.pts]
 refine E.eT ?_
 refine E.xP 4 (v := ?_) rfl (by kernel_rfl) (fun c a w h => h) (by rfl) ?_ (fun _ => hHeld) ?_
 rotate_left
 ·(intro w hSw; clear hSw; go_simp; try with_reducible rfl)
 simp only [E.pts]
 refine E.xT 5 (v := ?_) rfl (by kernel_rfl) (fun c a w h => h) (by rfl) ?_ hHeld ?_
 rotate_left
 ·(intro w hSw; (try dsimp only at hSw); go_simp; try with_reducible rfl)
 simp only [E.pts]
 refine wpD_ready (rs := [3]) (by kernel_rfl) (by simp) ?_
 refine AllD.cons rfl (fun K hK => ?_) AllD.nil
 go_simp
 refine (HQ.out y0).mono ?_
 rintro e y1 ⟨rfl, hb⟩
 have HB1 := hid (HB0.out.trans (hb.mono HB0.out.size))
 clear hb
 refine hK.out _ _ (HS.out _ HB1.out) (fun hHeld => ?_)
 clear hK K
 try simp only [E.pts]
 refine wpD_ready (rs := [6]) (by kernel_rfl) (by simp) ?_
 refine AllD.cons rfl (fun K hK => ?_) AllD.nil
 go_simp
 refine (must_true 152 n.p y1).mono ?_
 rintro e y2 ⟨rfl, hb⟩
 have HB2 := hid (HB1.out.trans (hb.mono HB1.out.size))
 clear hb
 refine hK.out _ _ (HS.out _ HB2.out) (fun hHeld => ?_)
 clear hK K
 try simp only [E.pts]
 refine wpD_done (by kernel_rfl) ?_ _
 have HF2 := hid (HK.out _ HB2.out)
 have HG2 := hid (HG.out.trans (Gw.of HB2.out))
 clear hHeld HS HK HB0 HB1 HB2
 obtain ⟨c0, c1, c2, c3, c4, c5, c6, c7, c8⟩ := nd_cells HF2.out.1
 obtain ⟨x0, x1, x2⟩ := HF2.out.2.1.cells
 rw [HX.out] at c1
 have hof := P.of_at x (by omega) h63 y2
 unfold P.rowN P.rowV at hof
 go_wp2_with fail
 try simp only [Int.ofNat_eq_natCast, Int.cast_ofNat_Int] at *
 refine hof.mono ?_
 rintro e y3 ⟨rfl, hb⟩
 have HF3 := hid (HF2.out.below hb)
 have HG3 := hid (HG2.out.trans (Gw.of hb))
 clear hof hb
 clear c0 c1 c2 c3 c4 c5 c6 c7 c8 x0 x1 x2
 obtain ⟨y4, hy4⟩ : ∃ y4, y3.alloc (.cells #[.int .i64 (x : Int), .string (P.nm x), .int .i64 (P.ri x), .int .i64 (P.ro x), .int .i64 (P.rc x), .bool (P.rb x)] 119) = y4 := ⟨_, rfl⟩
 have zr : Below y3.heap.size y3 y4 := by rw [<- hy4]; exact (Below.refl _ _).alloc (Nat.le_refl _) _
 have vr : y4.heap[y3.heap.size]? = some (.cells [.int .i64 (x : Int), .string (P.nm x), .int .i64 (P.ri x), .int .i64 (P.ro x), .int .i64 (P.rc x), .bool (P.rb x)].toArray 119 (0, 0)) := by rw [<- hy4]; exact heap_alloc_new y3 _
 have r2 := S.cell_of y4 _ 2 _ 119 _ vr rfl
 have r3 := S.cell_of y4 _ 3 _ 119 _ vr rfl
 have HF4 := hid (HF3.out.below zr)
 have HG4 := hid (HG3.out.trans (Gw.of zr))
 clear zr vr
 obtain ⟨c0, c1, c2, c3, c4, c5, c6, c7, c8⟩ := nd_cells HF4.out.1
 obtain ⟨x0, x1, x2⟩ := HF4.out.2.1.cells
 have hrr := ri_ro x (by omega)
 have hstep := step_any (w, s) (P.ri x) (P.ro x) n.p hh (by omega) (by omega) g mv av y4 HF4.out.2.2.2
 generalize hgs : step (w, s) (P.ri x) (P.ro x) n.p = G at *
 have HGS := hid hgs
 clear hgs hrr
 unfold stc at hstep
 go_wp2_with fail
 refine hstep.mono ?_
 intro e y5 hp
 clear hstep r2 r3 hy4
 clear c0 c1 c2 c3 c4 c5 c6 c7 c8 x0 x1 x2
 cases G with
 | error er =>
  obtain ⟨rfl, hG⟩ := hp
  refine ⟨rfl, ?_⟩
  rw [HR.out]
  exact ⟨rfl, HG4.out.trans hG⟩
 | ok y =>
  obtain ⟨k', s'⟩ := y
  obtain ⟨rfl, hE, hG⟩ := hp
  have HF5 := hid (HF4.out.gw HA.out hG hE)
  have HG5 := hid (HG4.out.trans hG)
  clear hE hG
  have hst := HF5.out.2.1
  have HF6 := hid (HF5.out.row HA.out s')
  have HG6 := hid (HG5.out.setR W0.heap.size (stc s').toArray (by have := HA.out.n1; omega))
  unfold stc at HF6 HG6
  simp only
  go_upto_region 4 with (refine wpList_store_row rfl 129 _ _ rfl W0.heap.size _ rfl rfl 129 _ hst (by exact sizeS) (by rfl) (by simp [Value.oneCell']) ?_)
  clear hst
  generalize y5.setRow W0.heap.size [.bool s'.dead, .int .i64 s'.h, .string ⟨s'.own.toArray⟩].toArray = y6 at *
  obtain ⟨c0, c1, c2, c3, c4, c5, c6, c7, c8⟩ := nd_cells HF6.out.1
  obtain ⟨x0, x1, x2⟩ := HF6.out.2.1.cells
  have k6 := HF6.out.res HA.out HG6.out s'
  have hst := HF6.out.2.2.1
  unfold stc at k6
  simp only at k6
  have H6 := hid k6
  clear k6
  go_wp2_with (refine wpList_store_row rfl 129 _ _ rfl W1.heap.size _ rfl rfl 129 _ hst (by exact sizeS) (by rfl) (by simp [Value.oneCell']) ?_)
  refine bodyPost_ret (st_end 6 rfl rfl H6.out.1) rfl ?_
  rw [HR.out]
  exact ⟨rfl, H6.out.2.1, H6.out.2.2⟩
theorem primitive_any (n : Nd) (q1 q2 : Option Addr) (d1 d2 : Nat) (x : X) (hh : -1000 <= x.2.h /\ x.2.h <= 1000) (hl : x.2.own.length <= 1000) (h9 : 9 <= n.op) (h63 : n.op <= 63) (g : Nat) (mv av : Value) (W : World) (h : EW W g mv av x.1) :
  Calls Tryz.prog 99 #[.pointer (some ⟨g, 0, none⟩), .agg #[.int .i64 n.k, .int .i64 n.op, .int .u16 n.v, .string n.nm, .slice q1 n.th.length d1, .slice q2 n.el.length d2, .bool n.has, .int .i64 n.p.1, .int .i64 n.p.2], .agg (stc x.2).toArray] W (EO W g mv av (fun s => .agg (stc s).toArray) (prim n.op n.p x)) := by
 obtain ⟨w, s⟩ := x
 simp only at hh hl h
 have hx : n.op = ((n.op.toNat : Nat) : Int) := by omega
 cases hr : rfits n.op s with
 | false => exact pr_no n q1 q2 d1 d2 w s hh hl g mv av W h n.op.toNat hx (by omega) (by omega) hr
 | true =>
  by_cases c1 : n.op = 55
  ·exact pr_55 n q1 q2 d1 d2 w s hh hl g mv av W h (by omega) hr
  by_cases c2 : n.op = 56
  ·refine pr_56 n q1 q2 d1 d2 w s hh hl g mv av W h (by omega) hr ?_
   intro c
   rw [c2] at hr
   unfold rfits kd at hr
   rw [c] at hr
   simp at hr
  by_cases c3 : n.op = 11
  ·exact pr_11 n q1 q2 d1 d2 w s hh hl g mv av W h (by omega) hr
  exact pr_r n q1 q2 d1 d2 w s hh hl g mv av W h n.op.toNat hx (by omega) (by omega) (by simpa using c1) (by simpa using c2) (by simpa using c3) hr
end Go.Proofs.YtlilefhmohkfkaaGreatDoor.E
