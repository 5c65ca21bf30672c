import Derived.Test.YtlilefhmohkfkaaGreatDoorEDrop
import Derived.Test.YtlilefhmohkfkaaGreatDoorEInv
namespace Go.Proofs.YtlilefhmohkfkaaGreatDoor.E
open Go.RowKit
open Go.Proofs
open Go.Proofs.YtlilefhmohkfkaaGreatDoor.Y (Nd Df Ps ndc dfc hid)
set_option linter.unusedVariables false
set_option linter.unusedSimpArgs false
set_option maxHeartbeats 2000000
set_option maxRecDepth 100000
theorem choice_any (n : Nd) (q1 q2 : Option Addr) (d1 d2 : Nat) (w : Wk) (s : St) (hx : XI (w, s)) (g : Nat) (mv av : Value) (W : World) (h : EW W g mv av w) (th : X -> Re) (i_th : Inv th) (h_th : (∀ (x : X) (V : World), XI x -> EW V g mv av x.1 -> Gw g W V -> Calls Tryz.prog 67 #[.pointer (some ⟨g, 0, none⟩), .slice q1 n.th.length d1, .agg (stc x.2).toArray] V (EO V g mv av (fun s => .agg (stc s).toArray) (th x)))) (el : X -> Re) (i_el : Inv el) (h_el : (∀ (x : X) (V : World), XI x -> EW V g mv av x.1 -> Gw g W V -> Calls Tryz.prog 67 #[.pointer (some ⟨g, 0, none⟩), .slice q2 n.el.length d2, .agg (stc x.2).toArray] V (EO V g mv av (fun s => .agg (stc s).toArray) (el x)))) :
  Calls Tryz.prog 102 #[.pointer (some ⟨g, 0, none⟩), .agg #[.int .i64 n.k, .int .i64 n.op, .int .u16 n.v, .string n.nm, .slice q1 n.th.length d1, .slice q2 n.el.length d2, .bool n.has, .int .i64 n.p.1, .int .i64 n.p.2], .agg (stc s).toArray] W (EO W g mv av (fun s => .agg (stc s).toArray) (choice th el n.p (w, s))) := by
 obtain ⟨W0, W1, W2, hW0, hW1, hW2, hB, hA, hF⟩ := box_nsr n q1 q2 d1 d2 s g mv av w W h
 have HA := hid hA
 have HF := hid hF
 have HG := hid (Gw.of (g := g) hB)
 have HXI := hid hx
 have H_th := hid h_th
 have I_th := hid i_th
 have H_el := hid h_el
 have I_el := hid i_el
 clear hA hB hF h hx h_th i_th h_el i_el
 have HR : Y.Hd (choice th el n.p (w, s) = match step (w, s) 1 0 n.p with | .error e => .error e | .ok y => (match th y with | .error e => .error e | .ok a => (match el (a.1, y.2) with | .error e => .error e | .ok b => if a.2.dead then .ok b else if b.2.dead = true \/ same a.2 b.2 = true then .ok (b.1, a.2) else .error (150, n.p)))) := ⟨rfl⟩
 generalize choice th el n.p (w, s) = R at *
 obtain ⟨c0, c1, c2, c3, c4, c5, c6, c7, c8⟩ := nd_cells HF.out.1
 obtain ⟨x0, x1, x2⟩ := HF.out.2.1.cells
 unfold stc
 go_enter Tryz.func102, Tryz.ntmps102
 have hcl := step_any (w, s) 1 0 n.p HXI.out.hh (by decide) (by decide) g mv av W2 HF.out.2.2.2
 unfold stc at hcl
 generalize hgc : step (w, s) 1 0 n.p = A at *
 have HcA := hid hgc
 clear hgc
 go_wp2_with fail
 refine hcl.mono ?_
 intro e y1 hp
 clear hcl hW0 hW1 hW2
 clear c0 c1 c2 c3 c4 c5 c6 c7 c8 x0 x1 x2
 cases A with
 | error er =>
  obtain ⟨rfl, hG⟩ := hp
  refine ⟨rfl, ?_⟩
  rw [HR.out]
  exact ⟨rfl, HG.out.trans hG⟩
 | ok y =>
  obtain ⟨k1, s1⟩ := y
  obtain ⟨rfl, hE, hG⟩ := hp
  have HF1 := hid (HF.out.gw HA.out hG hE)
  have HG1 := hid (HG.out.trans hG)
  clear hE hG
  (try simp only)
  have HX1 := hid (step_inv 1 0 n.p (by decide) (by decide) _ _ HXI.out HcA.out).1
  replace HR : Y.Hd (R = match th (k1, s1) with | .error e => .error e | .ok a => (match el (a.1, s1) with | .error e => .error e | .ok b => if a.2.dead then .ok b else if b.2.dead = true \/ same a.2 b.2 = true then .ok (b.1, a.2) else .error (150, n.p))) := ⟨HR.out⟩
  have hst := HF1.out.2.1
  have HF2 := hid (HF1.out.row HA.out s1)
  have HG2 := hid (HG1.out.setR W0.heap.size (stc s1).toArray (by have := HA.out.n1; omega))
  unfold stc at HF2 HG2
  (try unfold stc)
  go_upto_region 2 with (refine wpList_store_row rfl 129 _ _ rfl W0.heap.size _ rfl rfl 129 _ hst (by exact sizeS) (by rfl) (by simp [Value.oneCell']) ?_)
  clear hst
  generalize y1.setRow W0.heap.size [.bool s1.dead, .int .i64 s1.h, .string ⟨s1.own.toArray⟩].toArray = y2 at *
  obtain ⟨c0, c1, c2, c3, c4, c5, c6, c7, c8⟩ := nd_cells HF2.out.1
  obtain ⟨x0, x1, x2⟩ := HF2.out.2.1.cells
  have hcl := H_th.out (k1, s1) y2 HX1.out HF2.out.2.2.2 HG2.out
  unfold stc at hcl
  generalize hgc : th (k1, s1) = B at *
  have HcB := hid hgc
  clear hgc
  go_wp2_with fail
  refine hcl.mono ?_
  intro e y3 hp
  clear hcl
  clear c0 c1 c2 c3 c4 c5 c6 c7 c8 x0 x1 x2
  cases B with
  | error er =>
   obtain ⟨rfl, hG⟩ := hp
   refine ⟨rfl, ?_⟩
   rw [HR.out]
   exact ⟨rfl, HG2.out.trans hG⟩
  | ok y =>
   obtain ⟨k2, s2⟩ := y
   obtain ⟨rfl, hE, hG⟩ := hp
   have HF3 := hid (HF2.out.gw HA.out hG hE)
   have HG3 := hid (HG2.out.trans hG)
   clear hE hG
   (try simp only)
   obtain ⟨x2a, x2b⟩ := I_th.out _ _ HX1.out HcB.out
   have HX2 : Y.Hd (XI (k2, s1)) := ⟨⟨x2a.1, HX1.out.2.up x2b⟩⟩
   clear x2a x2b
   replace HR : Y.Hd (R = match el (k2, s1) with | .error e => .error e | .ok b => if s2.dead then .ok b else if b.2.dead = true \/ same s2 b.2 = true then .ok (b.1, s2) else .error (150, n.p)) := ⟨HR.out⟩
   obtain ⟨y4, hy4⟩ : ∃ y4, y3.alloc (.cells #[.bool s2.dead, .int .i64 s2.h, .string ⟨s2.own.toArray⟩] 129) = y4 := ⟨_, rfl⟩
   have zb : Below y3.heap.size y3 y4 := by rw [<- hy4]; exact (Below.refl _ _).alloc (Nat.le_refl _) _
   have HB4 : Y.Hd (SB y4 y3.heap.size s2) := ⟨by rw [<- hy4]; exact heap_alloc_new y3 _⟩
   have HF4 := hid (HF3.out.below zb)
   have HG4 := hid (HG3.out.trans (Gw.of zb))
   have hbg : y3.heap.size ≠ g := by have h1 := HA.out.lt; have h2 := HG3.out.size; omega
   have hbn : y3.heap.size ≠ W.heap.size /\ y3.heap.size ≠ W0.heap.size /\ y3.heap.size ≠ W1.heap.size := ⟨by have := S.lt_of HF3.out.1; omega, by have := S.lt_of HF3.out.2.1; omega, by have := S.lt_of HF3.out.2.2.1; omega⟩
   have HNb := hid (And.intro hbg hbn)
   clear zb hbg hbn
   obtain ⟨c0, c1, c2, c3, c4, c5, c6, c7, c8⟩ := nd_cells HF4.out.1
   obtain ⟨x0, x1, x2⟩ := HF4.out.2.1.cells
   (try unfold stc)
   have hcl := H_el.out (k2, s1) y4 HX2.out HF4.out.2.2.2 HG4.out
   unfold stc at hcl
   generalize hgc : el (k2, s1) = C at *
   have HcC := hid hgc
   clear hgc
   go_wp2_with fail
   refine hcl.mono ?_
   intro e y5 hp
   clear hcl hy4
   clear c0 c1 c2 c3 c4 c5 c6 c7 c8 x0 x1 x2
   cases C with
   | error er =>
    obtain ⟨rfl, hG⟩ := hp
    refine ⟨rfl, ?_⟩
    rw [HR.out]
    exact ⟨rfl, HG4.out.trans hG⟩
   | ok y =>
    obtain ⟨k3, s3⟩ := y
    obtain ⟨rfl, hE, hG⟩ := hp
    have HF5 := hid (HF4.out.gw HA.out hG hE)
    have HG5 := hid (HG4.out.trans hG)
    have HB5 : Y.Hd (SB y5 y3.heap.size s2) := ⟨hG.keep HB4.out HNb.out.1⟩
    clear hE hG
    (try simp only)
    replace HR : Y.Hd (R = if s2.dead then .ok (k3, s3) else if s3.dead = true \/ same s2 s3 = true then .ok (k3, s2) else .error (150, n.p)) := ⟨HR.out⟩
    obtain ⟨y6, hy6⟩ : ∃ y6, y5.alloc (.cells #[.bool s3.dead, .int .i64 s3.h, .string ⟨s3.own.toArray⟩] 129) = y6 := ⟨_, rfl⟩
    have zb : Below y5.heap.size y5 y6 := by rw [<- hy6]; exact (Below.refl _ _).alloc (Nat.le_refl _) _
    have HD6 : Y.Hd (SB y6 y5.heap.size s3) := ⟨by rw [<- hy6]; exact heap_alloc_new y5 _⟩
    have HF6 := hid (HF5.out.below zb)
    have HG6 := hid (HG5.out.trans (Gw.of zb))
    have hbg : y5.heap.size ≠ g := by have h1 := HA.out.lt; have h2 := HG5.out.size; omega
    have hbn : y5.heap.size ≠ W.heap.size /\ y5.heap.size ≠ W0.heap.size /\ y5.heap.size ≠ W1.heap.size := ⟨by have := S.lt_of HF5.out.1; omega, by have := S.lt_of HF5.out.2.1; omega, by have := S.lt_of HF5.out.2.2.1; omega⟩
    have HNd := hid (And.intro hbg hbn)
    have HB6 : Y.Hd (SB y6 y3.heap.size s2) := ⟨HB5.out.below zb⟩
    clear zb hbg hbn
    have heq := fun V => eql_st V s2 s3
    generalize hsm : same s2 s3 = sm at *
    clear hsm
    obtain ⟨dd, h2, o2⟩ := s2
    obtain ⟨de, h3, o3⟩ := s3
    simp only at heq
    cases dd
    ·
     replace HR : Y.Hd (R = if (⟨de, h3, o3⟩ : St).dead = true \/ sm = true then .ok (k3, (⟨false, h2, o2⟩ : St)) else .error (150, n.p)) := ⟨HR.out⟩
     obtain ⟨b0, b1, b2⟩ := HB6.out.cells
     obtain ⟨e0, e1, e2⟩ := HD6.out.cells
     simp only at b0 b1 b2 e0 e1 e2
     (try unfold stc)
     (try simp only)
     go_upto_region 6 with fail
     clear hy6 b0 b1 b2 e0 e1 e2
     cases de
     ·
      cases sm
      ·
       have HS : Y.Hd (∀ (wz : World), FR wz W.heap.size W0.heap.size W1.heap.size g (ndc n (.slice q1 n.th.length d1) (.slice q2 n.el.length d2)) s1 mv av k3 -> SB wz y3.heap.size ⟨false, h2, o2⟩ -> SB wz y5.heap.size ⟨false, h3, o3⟩ -> (fun wz : World => wz.cell? ⟨W.heap.size, 7, none⟩ = some (.int .i64 n.p.1) /\ wz.cell? ⟨W.heap.size, 8, none⟩ = some (.int .i64 n.p.2) /\ wz.cell? ⟨y3.heap.size, 0, none⟩ = some (.bool false) /\ wz.cell? ⟨y3.heap.size, 1, none⟩ = some (.int .i64 h2) /\ wz.cell? ⟨y3.heap.size, 2, none⟩ = some (.string ⟨o2.toArray⟩) /\ wz.cell? ⟨y5.heap.size, 0, none⟩ = some (.bool false) /\ wz.cell? ⟨y5.heap.size, 1, none⟩ = some (.int .i64 h3) /\ wz.cell? ⟨y5.heap.size, 2, none⟩ = some (.string ⟨o3.toArray⟩)) wz) := ⟨fun wz hf hbb hdd => by
        obtain ⟨_, _, _, _, _, _, _, c7, c8⟩ := nd_cells hf.1
        obtain ⟨b0, b1, b2⟩ := hbb.cells
        obtain ⟨e0, e1, e2⟩ := hdd.cells
        exact ⟨c7, c8, b0, b1, b2, e0, e1, e2⟩⟩
       have HFd := hid (HF6.out.below (Below.refl _ y6).drew)
       have HGd := hid (HG6.out.trans (Gw.of (Below.refl _ y6).drew))
       have HBd : Y.Hd (SB y6.drew y3.heap.size ⟨false, h2, o2⟩) := ⟨HB6.out⟩
       have HDd : Y.Hd (SB y6.drew y5.heap.size ⟨false, h3, o3⟩) := ⟨HD6.out⟩
       refine wp_region_drop [] (S := fun wz : World => wz.cell? ⟨W.heap.size, 7, none⟩ = some (.int .i64 n.p.1) /\ wz.cell? ⟨W.heap.size, 8, none⟩ = some (.int .i64 n.p.2) /\ wz.cell? ⟨y3.heap.size, 0, none⟩ = some (.bool false) /\ wz.cell? ⟨y3.heap.size, 1, none⟩ = some (.int .i64 h2) /\ wz.cell? ⟨y3.heap.size, 2, none⟩ = some (.string ⟨o2.toArray⟩) /\ wz.cell? ⟨y5.heap.size, 0, none⟩ = some (.bool false) /\ wz.cell? ⟨y5.heap.size, 1, none⟩ = some (.int .i64 h3) /\ wz.cell? ⟨y5.heap.size, 2, none⟩ = some (.string ⟨o3.toArray⟩)) (by kernel_rfl) (HS.out _ HFd.out HBd.out HDd.out) (fun hHeld => ?_)
       generalize y6.drew = y7 at *
       refine E.xP 0 (v := ?_) rfl (by kernel_rfl) (fun c a w h => h) (by rfl) ?_ (fun _ => hHeld) ?_
       rotate_left
       ·(intro w hSw; clear hSw; go_simp; try with_reducible rfl)
       simp only [E.pts]
       refine E.xT 1 (v := ?_) rfl (by kernel_rfl) (fun c a w h => h) (by rfl) ?_ hHeld ?_
       rotate_left
       ·(intro w hSw; (try dsimp only at hSw); go_simp; try with_reducible rfl)
       simp only [E.pts]
       refine E.xP 2 (v := ?_) rfl (by kernel_rfl) (fun c a w h => h) (by rfl) ?_ (fun _ => hHeld) ?_
       rotate_left
       ·(intro w hSw; clear hSw; go_simp; try with_reducible rfl)
       simp only [E.pts]
       refine E.zT (is := [3, 4]) ?_
       iterate 2
        refine E.yT (v := ?_) rfl (by kernel_rfl) (fun c a w h => h) (by rfl) ?_ hHeld ?_
        rotate_left
        ·(intro w hSw; (try dsimp only at hSw); go_simp; try with_reducible rfl)
        simp only [E.pts]
       refine E.eT ?_
       refine E.zP (is := [5, 6, 7]) ?_
       iterate 3
        refine E.yP (v := ?_) rfl (by kernel_rfl) (fun c a w h => h) (by rfl) ?_ (fun _ => hHeld) ?_
        rotate_left
        ·(intro w hSw; clear hSw; go_simp; try with_reducible rfl)
        simp only [E.pts]
       refine E.eP ?_
       refine E.xT 8 (v := ?_) rfl (by kernel_rfl) (fun c a w h => h) (by rfl) ?_ hHeld ?_
       rotate_left
       ·(intro w hSw; (try dsimp only at hSw); go_simp; try with_reducible rfl)
       simp only [E.pts]
       replace HR : Y.Hd (R = .error (150, n.p)) := ⟨by rw [HR.out, if_neg (by simp)]⟩
       refine wpD_ready (rs := [9]) (by kernel_rfl) (by simp) ?_
       refine AllD.cons rfl (fun K hK => ?_) AllD.nil
       go_simp
       refine (must_false 150 n.p y7).mono ?_
       rintro e y8 ⟨rfl, hb⟩
       refine ⟨rfl, ?_⟩
       rw [HR.out]
       exact ⟨rfl, HGd.out.trans (Gw.of hb)⟩
      ·
       have HS : Y.Hd (∀ (wz : World), FR wz W.heap.size W0.heap.size W1.heap.size g (ndc n (.slice q1 n.th.length d1) (.slice q2 n.el.length d2)) s1 mv av k3 -> SB wz y3.heap.size ⟨false, h2, o2⟩ -> SB wz y5.heap.size ⟨false, h3, o3⟩ -> (fun wz : World => wz.cell? ⟨W.heap.size, 7, none⟩ = some (.int .i64 n.p.1) /\ wz.cell? ⟨W.heap.size, 8, none⟩ = some (.int .i64 n.p.2) /\ wz.cell? ⟨y3.heap.size, 0, none⟩ = some (.bool false) /\ wz.cell? ⟨y3.heap.size, 1, none⟩ = some (.int .i64 h2) /\ wz.cell? ⟨y3.heap.size, 2, none⟩ = some (.string ⟨o2.toArray⟩) /\ wz.cell? ⟨y5.heap.size, 0, none⟩ = some (.bool false) /\ wz.cell? ⟨y5.heap.size, 1, none⟩ = some (.int .i64 h3) /\ wz.cell? ⟨y5.heap.size, 2, none⟩ = some (.string ⟨o3.toArray⟩)) wz) := ⟨fun wz hf hbb hdd => by
        obtain ⟨_, _, _, _, _, _, _, c7, c8⟩ := nd_cells hf.1
        obtain ⟨b0, b1, b2⟩ := hbb.cells
        obtain ⟨e0, e1, e2⟩ := hdd.cells
        exact ⟨c7, c8, b0, b1, b2, e0, e1, e2⟩⟩
       have HFd := hid (HF6.out.below (Below.refl _ y6).drew)
       have HGd := hid (HG6.out.trans (Gw.of (Below.refl _ y6).drew))
       have HBd : Y.Hd (SB y6.drew y3.heap.size ⟨false, h2, o2⟩) := ⟨HB6.out⟩
       have HDd : Y.Hd (SB y6.drew y5.heap.size ⟨false, h3, o3⟩) := ⟨HD6.out⟩
       refine wp_region_drop [] (S := fun wz : World => wz.cell? ⟨W.heap.size, 7, none⟩ = some (.int .i64 n.p.1) /\ wz.cell? ⟨W.heap.size, 8, none⟩ = some (.int .i64 n.p.2) /\ wz.cell? ⟨y3.heap.size, 0, none⟩ = some (.bool false) /\ wz.cell? ⟨y3.heap.size, 1, none⟩ = some (.int .i64 h2) /\ wz.cell? ⟨y3.heap.size, 2, none⟩ = some (.string ⟨o2.toArray⟩) /\ wz.cell? ⟨y5.heap.size, 0, none⟩ = some (.bool false) /\ wz.cell? ⟨y5.heap.size, 1, none⟩ = some (.int .i64 h3) /\ wz.cell? ⟨y5.heap.size, 2, none⟩ = some (.string ⟨o3.toArray⟩)) (by kernel_rfl) (HS.out _ HFd.out HBd.out HDd.out) (fun hHeld => ?_)
       generalize y6.drew = y7 at *
       refine E.xP 0 (v := ?_) rfl (by kernel_rfl) (fun c a w h => h) (by rfl) ?_ (fun _ => hHeld) ?_
       rotate_left
       ·(intro w hSw; clear hSw; go_simp; try with_reducible rfl)
       simp only [E.pts]
       refine E.xT 1 (v := ?_) rfl (by kernel_rfl) (fun c a w h => h) (by rfl) ?_ hHeld ?_
       rotate_left
       ·(intro w hSw; (try dsimp only at hSw); go_simp; try with_reducible rfl)
       simp only [E.pts]
       refine E.xP 2 (v := ?_) rfl (by kernel_rfl) (fun c a w h => h) (by rfl) ?_ (fun _ => hHeld) ?_
       rotate_left
       ·(intro w hSw; clear hSw; go_simp; try with_reducible rfl)
       simp only [E.pts]
       refine E.zT (is := [3, 4]) ?_
       iterate 2
        refine E.yT (v := ?_) rfl (by kernel_rfl) (fun c a w h => h) (by rfl) ?_ hHeld ?_
        rotate_left
        ·(intro w hSw; (try dsimp only at hSw); go_simp; try with_reducible rfl)
        simp only [E.pts]
       refine E.eT ?_
       refine E.zP (is := [5, 6, 7]) ?_
       iterate 3
        refine E.yP (v := ?_) rfl (by kernel_rfl) (fun c a w h => h) (by rfl) ?_ (fun _ => hHeld) ?_
        rotate_left
        ·(intro w hSw; clear hSw; go_simp; try with_reducible rfl)
        simp only [E.pts]
       refine E.eP ?_
       refine E.xT 8 (v := ?_) rfl (by kernel_rfl) (fun c a w h => h) (by rfl) ?_ hHeld ?_
       rotate_left
       ·(intro w hSw; (try dsimp only at hSw); go_simp; try with_reducible rfl)
       simp only [E.pts]
       replace HR : Y.Hd (R = .ok (k3, (⟨false, h2, o2⟩ : St))) := ⟨by rw [HR.out, if_pos (by simp)]⟩
       refine wpD_ready (rs := [9]) (by kernel_rfl) (by simp) ?_
       refine AllD.cons rfl (fun K hK => ?_) AllD.nil
       go_simp
       refine (must_true 150 n.p y7).mono ?_
       rintro e y8 ⟨rfl, hb⟩
       have HF8 := hid (HFd.out.below hb)
       have HG8 := hid (HGd.out.trans (Gw.of hb))
       have HB8 := hid (HBd.out.below hb)
       have HD8 := hid (HDd.out.below hb)
       clear hb
       refine hK.out _ _ (HS.out _ HF8.out HB8.out HD8.out) (fun hHeld => ?_)
       clear hK K hHeld
       try simp only [E.pts]
       refine wpD_done (by kernel_rfl) ?_ _
       obtain ⟨b0, b1, b2⟩ := HB8.out.cells
       simp only at b0 b1 b2
       have k6 := HF8.out.res HA.out HG8.out (⟨false, h2, o2⟩ : St)
       have hst := HF8.out.2.2.1
       unfold stc at k6
       (try simp only at k6)
       have H6 := hid k6
       clear k6
       go_wp2_with (refine wpList_store_row rfl 129 _ _ rfl W1.heap.size _ rfl rfl 129 _ hst (by exact sizeS) (by rfl) (by simp [Value.oneCell']) ?_)
       refine bodyPost_ret (st_end 6 rfl rfl H6.out.1) rfl ?_
       rw [HR.out]
       exact ⟨rfl, H6.out.2.1, H6.out.2.2⟩
     ·
      have HS : Y.Hd (∀ (wz : World), FR wz W.heap.size W0.heap.size W1.heap.size g (ndc n (.slice q1 n.th.length d1) (.slice q2 n.el.length d2)) s1 mv av k3 -> SB wz y3.heap.size ⟨false, h2, o2⟩ -> SB wz y5.heap.size ⟨true, h3, o3⟩ -> (fun wz : World => wz.cell? ⟨W.heap.size, 7, none⟩ = some (.int .i64 n.p.1) /\ wz.cell? ⟨W.heap.size, 8, none⟩ = some (.int .i64 n.p.2) /\ wz.cell? ⟨y3.heap.size, 0, none⟩ = some (.bool false) /\ wz.cell? ⟨y3.heap.size, 1, none⟩ = some (.int .i64 h2) /\ wz.cell? ⟨y3.heap.size, 2, none⟩ = some (.string ⟨o2.toArray⟩) /\ wz.cell? ⟨y5.heap.size, 0, none⟩ = some (.bool true) /\ wz.cell? ⟨y5.heap.size, 1, none⟩ = some (.int .i64 h3) /\ wz.cell? ⟨y5.heap.size, 2, none⟩ = some (.string ⟨o3.toArray⟩)) wz) := ⟨fun wz hf hbb hdd => by
       obtain ⟨_, _, _, _, _, _, _, c7, c8⟩ := nd_cells hf.1
       obtain ⟨b0, b1, b2⟩ := hbb.cells
       obtain ⟨e0, e1, e2⟩ := hdd.cells
       exact ⟨c7, c8, b0, b1, b2, e0, e1, e2⟩⟩
      have HFd := hid (HF6.out.below (Below.refl _ y6).drew)
      have HGd := hid (HG6.out.trans (Gw.of (Below.refl _ y6).drew))
      have HBd : Y.Hd (SB y6.drew y3.heap.size ⟨false, h2, o2⟩) := ⟨HB6.out⟩
      have HDd : Y.Hd (SB y6.drew y5.heap.size ⟨true, h3, o3⟩) := ⟨HD6.out⟩
      refine wp_region_drop [] (S := fun wz : World => wz.cell? ⟨W.heap.size, 7, none⟩ = some (.int .i64 n.p.1) /\ wz.cell? ⟨W.heap.size, 8, none⟩ = some (.int .i64 n.p.2) /\ wz.cell? ⟨y3.heap.size, 0, none⟩ = some (.bool false) /\ wz.cell? ⟨y3.heap.size, 1, none⟩ = some (.int .i64 h2) /\ wz.cell? ⟨y3.heap.size, 2, none⟩ = some (.string ⟨o2.toArray⟩) /\ wz.cell? ⟨y5.heap.size, 0, none⟩ = some (.bool true) /\ wz.cell? ⟨y5.heap.size, 1, none⟩ = some (.int .i64 h3) /\ wz.cell? ⟨y5.heap.size, 2, none⟩ = some (.string ⟨o3.toArray⟩)) (by kernel_rfl) (HS.out _ HFd.out HBd.out HDd.out) (fun hHeld => ?_)
      generalize y6.drew = y7 at *
      refine E.xP 0 (v := ?_) rfl (by kernel_rfl) (fun c a w h => h) (by rfl) ?_ (fun _ => hHeld) ?_
      rotate_left
      ·(intro w hSw; clear hSw; go_simp; try with_reducible rfl)
      simp only [E.pts]
      refine E.xT 1 (v := ?_) rfl (by kernel_rfl) (fun c a w h => h) (by rfl) ?_ hHeld ?_
      rotate_left
      ·(intro w hSw; (try dsimp only at hSw); go_simp; try with_reducible rfl)
      simp only [E.pts]
      refine E.xP 2 (v := ?_) rfl (by kernel_rfl) (fun c a w h => h) (by rfl) ?_ (fun _ => hHeld) ?_
      rotate_left
      ·(intro w hSw; clear hSw; go_simp; try with_reducible rfl)
      simp only [E.pts]
      refine wpD_takeP (i := 3) (v := undef) rfl (by kernel_rfl) (by kernel_rfl) (by kernel_rfl) (by kernel_rfl) (fun c a w h => h) (Or.inr ⟨by rfl, rfl⟩) (fun _ => hHeld) ?_
      simp only [E.pts]
      refine wpD_takeP (i := 4) (v := undef) rfl (by kernel_rfl) (by kernel_rfl) (by kernel_rfl) (by kernel_rfl) (fun c a w h => h) (Or.inr ⟨by rfl, rfl⟩) (fun _ => hHeld) ?_
      simp only [E.pts]
      refine wpD_takeP (i := 5) (v := undef) rfl (by kernel_rfl) (by kernel_rfl) (by kernel_rfl) (by kernel_rfl) (fun c a w h => h) (Or.inr ⟨by rfl, rfl⟩) (fun _ => hHeld) ?_
      simp only [E.pts]
      refine E.zP (is := [6, 7]) ?_
      iterate 2
       refine E.yP (v := ?_) rfl (by kernel_rfl) (fun c a w h => h) (by rfl) ?_ (fun _ => hHeld) ?_
       rotate_left
       ·(intro w hSw; clear hSw; go_simp; try with_reducible rfl)
       simp only [E.pts]
      refine E.eP ?_
      refine E.xT 8 (v := ?_) rfl (by kernel_rfl) (fun c a w h => h) (by rfl) ?_ hHeld ?_
      rotate_left
      ·(intro w hSw; (try dsimp only at hSw); go_simp; try with_reducible rfl)
      simp only [E.pts]
      replace HR : Y.Hd (R = .ok (k3, (⟨false, h2, o2⟩ : St))) := ⟨by rw [HR.out, if_pos (by simp)]⟩
      refine wpD_ready (rs := [9]) (by kernel_rfl) (by simp) ?_
      refine AllD.cons rfl (fun K hK => ?_) AllD.nil
      go_simp
      refine (must_true 150 n.p y7).mono ?_
      rintro e y8 ⟨rfl, hb⟩
      have HF8 := hid (HFd.out.below hb)
      have HG8 := hid (HGd.out.trans (Gw.of hb))
      have HB8 := hid (HBd.out.below hb)
      have HD8 := hid (HDd.out.below hb)
      clear hb
      refine hK.out _ _ (HS.out _ HF8.out HB8.out HD8.out) (fun hHeld => ?_)
      clear hK K hHeld
      try simp only [E.pts]
      refine wpD_done (by kernel_rfl) ?_ _
      obtain ⟨b0, b1, b2⟩ := HB8.out.cells
      simp only at b0 b1 b2
      have k6 := HF8.out.res HA.out HG8.out (⟨false, h2, o2⟩ : St)
      have hst := HF8.out.2.2.1
      unfold stc at k6
      (try simp only at k6)
      have H6 := hid k6
      clear k6
      go_wp2_with (refine wpList_store_row rfl 129 _ _ rfl W1.heap.size _ rfl rfl 129 _ hst (by exact sizeS) (by rfl) (by simp [Value.oneCell']) ?_)
      refine bodyPost_ret (st_end 6 rfl rfl H6.out.1) rfl ?_
      rw [HR.out]
      exact ⟨rfl, H6.out.2.1, H6.out.2.2⟩
    ·
     replace HR : Y.Hd (R = .ok (k3, (⟨de, h3, o3⟩ : St))) := ⟨HR.out⟩
     obtain ⟨b0, b1, b2⟩ := HB6.out.cells
     obtain ⟨e0, e1, e2⟩ := HD6.out.cells
     simp only at b0 b1 b2 e0 e1 e2
     (try unfold stc)
     (try simp only)
     have k6 := HF6.out.res HA.out HG6.out (⟨de, h3, o3⟩ : St)
     have hst := HF6.out.2.2.1
     unfold stc at k6
     (try simp only at k6)
     have H6 := hid k6
     clear k6
     go_wp2_with (refine wpList_store_row rfl 129 _ _ rfl W1.heap.size _ rfl rfl 129 _ hst (by exact sizeS) (by rfl) (by simp [Value.oneCell']) ?_)
     refine bodyPost_ret (st_end 6 rfl rfl H6.out.1) rfl ?_
     rw [HR.out]
     exact ⟨rfl, H6.out.2.1, H6.out.2.2⟩
end Go.Proofs.YtlilefhmohkfkaaGreatDoor.E
