import Derived.Test.YtlilefhmohkfkaaGreatDoorEDrop
import Derived.Test.YtlilefhmohkfkaaGreatDoorEInv
namespace Go.Proofs.YtlilefhmohkfkaaGreatDoor.E
open Go.RowKit
open Go.Proofs
open Go.Proofs.YtlilefhmohkfkaaGreatDoor.Y (Nd Df Ps ndc dfc hid)
set_option linter.unusedVariables false
set_option linter.unusedSimpArgs false
set_option maxHeartbeats 2000000
set_option maxRecDepth 100000
theorem choice_any (n : Nd) (q1 q2 : Option Addr) (d1 d2 : Nat) (w : Wk) (s : St) (hx : XI (w, s)) (g : Nat) (mv av : Value) (W : World) (h : EW W g mv av w) (th : X -> Re) (i_th : Inv th) (h_th : (∀ (x : X) (V : World), XI x -> EW V g mv av x.1 -> Gw g W V -> Calls Tryz.prog 67 #[.pointer (some ⟨g, 0, none⟩), .slice q1 n.th.length d1, .agg (stc x.2).toArray] V (EO V g mv av (fun s => .agg (stc s).toArray) (th x)))) (el : X -> Re) (i_el : Inv el) (h_el : (∀ (x : X) (V : World), XI x -> EW V g mv av x.1 -> Gw g W V -> Calls Tryz.prog 67 #[.pointer (some ⟨g, 0, none⟩), .slice q2 n.el.length d2, .agg (stc x.2).toArray] V (EO V g mv av (fun s => .agg (stc s).toArray) (el x)))) :
  Calls Tryz.prog 102 #[.pointer (some ⟨g, 0, none⟩), .agg #[.int .i64 n.k, .int .i64 n.op, .int .u16 n.v, .string n.nm, .slice q1 n.th.length d1, .slice q2 n.el.length d2, .bool n.has, .int .i64 n.p.1, .int .i64 n.p.2], .agg (stc s).toArray] W (EO W g mv av (fun s => .agg (stc s).toArray) (choice th el n.p (w, s))) := by
 obtain ⟨W0, W1, W2, hW0, hW1, hW2, hB, hA, hF⟩ := box_nsr n q1 q2 d1 d2 s g mv av w W h
 have HA := hid hA
 have HF := hid hF
 have HG := hid (Gw.of (g := g) hB)
 have HXI := hid hx
 have H_th := hid h_th
 have I_th := hid i_th
 have H_el := hid h_el
 have I_el := hid i_el
 clear hA hB hF h hx h_th i_th h_el i_el
 have HR : Y.Hd (choice th el n.p (w, s) = match step (w, s) 1 0 n.p with | .error e => .error e | .ok y => (match th y with | .error e => .error e | .ok a => (match el (a.1, y.2) with | .error e => .error e | .ok b => if a.2.dead then .ok b else if b.2.dead = true \/ same a.2 b.2 = true then .ok (b.1, a.2) else .error (150, n.p)))) := ⟨rfl⟩
 generalize choice th el n.p (w, s) = R at *
 obtain ⟨c0, c1, c2, c3, c4, c5, c6, c7, c8⟩ := nd_cells HF.out.1
 obtain ⟨x0, x1, x2⟩ := HF.out.2.1.cells
 unfold stc
 go_enter Tryz.func102, Tryz.ntmps102
 have hcl := step_any (w, s) 1 0 n.p HXI.out.hh (by decide) (by decide) g mv av W2 HF.out.2.2.2
 unfold stc at hcl
 generalize hgc : step (w, s) 1 0 n.p = A at *
 have HcA := hid hgc
 clear hgc
 go_wp2_with fail
 refine hcl.mono ?_
 intro e y1 hp
 clear hcl hW0 hW1 hW2
 clear c0 c1 c2 c3 c4 c5 c6 c7 c8 x0 x1 x2
 cases A with
 | error er =>
  obtain ⟨rfl, hG⟩ := hp
  refine ⟨rfl, ?_⟩
  rw [HR.out]
  exact ⟨rfl, HG.out.trans hG⟩
 | ok y =>
  obtain ⟨k1, s1⟩ := y
  obtain ⟨rfl, hE, hG⟩ := hp
  have HF1 := hid (HF.out.gw HA.out hG hE)
  have HG1 := hid (HG.out.trans hG)
  clear hE hG
  (try simp only)
  have HX1 := hid (step_inv 1 0 n.p (by decide) (by decide) _ _ HXI.out HcA.out).1
  replace HR : Y.Hd (R = match th (k1, s1) with | .error e => .error e | .ok a => (match el (a.1, s1) with | .error e => .error e | .ok b => if a.2.dead then .ok b else if b.2.dead = true \/ same a.2 b.2 = true then .ok (b.1, a.2) else .error (150, n.p))) := ⟨HR.out⟩
  have hst := HF1.out.2.1
  have HF2 := hid (HF1.out.row HA.out s1)
  have HG2 := hid (HG1.out.setR W0.heap.size (stc s1).toArray (by have := HA.out.n1; omega))
  unfold stc at HF2 HG2
  (try unfold stc)
  go_upto_region 2 with (refine wpList_store_row rfl 129 _ _ rfl W0.heap.size _ rfl rfl 129 _ hst (by exact sizeS) (by rfl) (by simp [Value.oneCell']) ?_)
  clear hst
  generalize y1.setRow W0.heap.size [.bool s1.dead, .int .i64 s1.h, .string ⟨s1.own.toArray⟩].toArray = y2 at *
  obtain ⟨c0, c1, c2, c3, c4, c5, c6, c7, c8⟩ := nd_cells HF2.out.1
  obtain ⟨x0, x1, x2⟩ := HF2.out.2.1.cells
  have hcl := H_th.out (k1, s1) y2 HX1.out HF2.out.2.2.2 HG2.out
  unfold stc at hcl
  generalize hgc : th (k1, s1) = B at *
  have HcB := hid hgc
  clear hgc
  go_wp2_with fail
  refine hcl.mono ?_
  intro e y3 hp
  clear hcl
  clear c0 c1 c2 c3 c4 c5 c6 c7 c8 x0 x1 x2
  cases B with
  | error er =>
   obtain ⟨rfl, hG⟩ := hp
   refine ⟨rfl, ?_⟩
   rw [HR.out]
   exact ⟨rfl, HG2.out.trans hG⟩
  | ok y =>
   obtain ⟨k2, s2⟩ := y
   obtain ⟨rfl, hE, hG⟩ := hp
   have HF3 := hid (HF2.out.gw HA.out hG hE)
   have HG3 := hid (HG2.out.trans hG)
   clear hE hG
   (try simp only)
   obtain ⟨x2a, x2b⟩ := I_th.out _ _ HX1.out HcB.out
   have HX2 : Y.Hd (XI (k2, s1)) := ⟨⟨x2a.1, HX1.out.2.up x2b⟩⟩
   clear x2a x2b
   replace HR : Y.Hd (R = match el (k2, s1) with | .error e => .error e | .ok b => if s2.dead then .ok b else if b.2.dead = true \/ same s2 b.2 = true then .ok (b.1, s2) else .error (150, n.p)) := ⟨HR.out⟩
   obtain ⟨y4, hy4⟩ : ∃ y4, y3.alloc (.cells #[.bool s2.dead, .int .i64 s2.h, .string ⟨s2.own.toArray⟩] 129) = y4 := ⟨_, rfl⟩
   have zb : Below y3.heap.size y3 y4 := by rw [<- hy4]; exact (Below.refl _ _).alloc (Nat.le_refl _) _
   have HB4 : Y.Hd (SB y4 y3.heap.size s2) := ⟨by rw [<- hy4]; exact heap_alloc_new y3 _⟩
   have HF4 := hid (HF3.out.below zb)
   have HG4 := hid (HG3.out.trans (Gw.of zb))
   have hbg : y3.heap.size ≠ g := by have h1 := HA.out.lt; have h2 := HG3.out.size; omega
   have hbn : y3.heap.size ≠ W.heap.size /\ y3.heap.size ≠ W0.heap.size /\ y3.heap.size ≠ W1.heap.size := ⟨by have := S.lt_of HF3.out.1; omega, by have := S.lt_of HF3.out.2.1; omega, by have := S.lt_of HF3.out.2.2.1; omega⟩
   have HNb := hid (And.intro hbg hbn)
   clear zb hbg hbn
   obtain ⟨c0, c1, c2, c3, c4, c5, c6, c7, c8⟩ := nd_cells HF4.out.1
   obtain ⟨x0, x1, x2⟩ := HF4.out.2.1.cells
   (try unfold stc)
   have hcl := H_el.out (k2, s1) y4 HX2.out HF4.out.2.2.2 HG4.out
   unfold stc at hcl
   generalize hgc : el (k2, s1) = C at *
   have HcC := hid hgc
   clear hgc
   go_wp2_with fail
   refine hcl.mono ?_
   intro e y5 hp
   clear hcl hy4
   clear c0 c1 c2 c3 c4 c5 c6 c7 c8 x0 x1 x2
   cases C with
   | error er =>
    obtain ⟨rfl, hG⟩ := hp
    refine ⟨rfl, ?_⟩
    rw [HR.out]
    exact ⟨rfl, HG4.out.trans hG⟩
   | ok y =>
    obtain ⟨k3, s3⟩ := y
    obtain ⟨rfl, hE, hG⟩ := hp
    have HF5 := hid (HF4.out.gw HA.out hG hE)
    have HG5 := hid (HG4.out.trans hG)
    have HB5 : Y.Hd (SB y5 y3.heap.size s2) := ⟨hG.keep HB4.out HNb.out.1⟩
    clear hE hG
    (try simp only)
    replace HR : Y.Hd (R = if s2.dead then .ok (k3, s3) else if s3.dead = true \/ same s2 s3 = true then .ok (k3, s2) else .error (150, n.p)) := ⟨HR.out⟩
    obtain ⟨y6, hy6⟩ : ∃ y6, y5.alloc (.cells #[.bool s3.dead, .int .i64 s3.h, .string ⟨s3.own.toArray⟩] 129) = y6 := ⟨_, rfl⟩
    have zb : Below y5.heap.size y5 y6 := by rw [<- hy6]; exact (Below.refl _ _).alloc (Nat.le_refl _) _
    have HD6 : Y.Hd (SB y6 y5.heap.size s3) := ⟨by rw [<- hy6]; exact heap_alloc_new y5 _⟩
    have HF6 := hid (HF5.out.below zb)
    have HG6 := hid (HG5.out.trans (Gw.of zb))
    have hbg : y5.heap.size ≠ g := by have h1 := HA.out.lt; have h2 := HG5.out.size; omega
    have hbn : y5.heap.size ≠ W.heap.size /\ y5.heap.size ≠ W0.heap.size /\ y5.heap.size ≠ W1.heap.size := ⟨by have := S.lt_of HF5.out.1; omega, by have := S.lt_of HF5.out.2.1; omega, by have := S.lt_of HF5.out.2.2.1; omega⟩
    have HNd := hid (And.intro hbg hbn)
    have HB6 : Y.Hd (SB y6 y3.heap.size s2) := ⟨HB5.out.below zb⟩
    clear zb hbg hbn
    have heq := fun V => eql_st V s2 s3
    generalize hsm : same s2 s3 = sm at *
    clear hsm
    obtain ⟨dd, h2, o2⟩ := s2
    obtain ⟨de, h3, o3⟩ := s3
    simp only at heq
    cases dd
    ·
     replace HR : Y.Hd (R = if (⟨de, h3, o3⟩ : St).dead = true \/ sm = true then .ok (k3, (⟨false, h2, o2⟩ : St)) else .error (150, n.p)) := ⟨HR.out⟩
     obtain ⟨b0, b1, b2⟩ := HB6.out.cells
     obtain ⟨e0, e1, e2⟩ := HD6.out.cells
     simp only at b0 b1 b2 e0 e1 e2
     (try unfold stc)
     (try simp only)
     go_upto_region 6 with fail
     clear hy6 b0 b1 b2 e0 e1 e2
     cases de
     ·
      cases sm
      ·
       have HS : Y.Hd (∀ (wz : World), FR wz W.heap.size W0.heap.size W1.heap.size g (ndc n (.slice q1 n.th.length d1) (.slice q2 n.el.length d2)) s1 mv av k3 -> SB wz y3.heap.size ⟨false, h2, o2⟩ -> SB wz y5.heap.size ⟨false, h3, o3⟩ -> (fun wz : World => wz.cell? ⟨W.heap.size, 7, none⟩ = some (.int .i64 n.p.1) /\ wz.cell? ⟨W.heap.size, 8, none⟩ = some (.int .i64 n.p.2) /\ wz.cell? ⟨y3.heap.size, 0, none⟩ = some (.bool false) /\ wz.cell? ⟨y3.heap.size, 1, none⟩ = some (.int .i64 h2) /\ wz.cell? ⟨y3.heap.size, 2, none⟩ = some (.string ⟨o2.toArray⟩) /\ wz.cell? ⟨y5.heap.size, 0, none⟩ = some (.bool false) /\ wz.cell? ⟨y5.heap.size, 1, none⟩ = some (.int .i64 h3) /\ wz.cell? ⟨y5.heap.size, 2, none⟩ = some (.string ⟨o3.toArray⟩)) wz) := ⟨fun wz hf hbb hdd => by
        obtain ⟨_, _, _, _, _, _, _, c7, c8⟩ := nd_cells hf.1
        obtain ⟨b0, b1, b2⟩ := hbb.cells
        obtain ⟨e0, e1, e2⟩ := hdd.cells
        exact ⟨c7, c8, b0, b1, b2, e0, e1, e2⟩⟩
       have HFd := hid (HF6.out.below (Below.refl _ y6).drew)
       have HGd := hid (HG6.out.trans (Gw.of (Below.refl _ y6).drew))
       have HBd : Y.Hd (SB y6.drew y3.heap.size ⟨false, h2, o2⟩) := ⟨HB6.out⟩
       have HDd : Y.Hd (SB y6.drew y5.heap.size ⟨false, h3, o3⟩) := ⟨HD6.out⟩
       refine wp_region_drop [] (S := fun wz : World => wz.cell? ⟨W.heap.size, 7, none⟩ = some (.int .i64 n.p.1) /\ wz.cell? ⟨W.heap.size, 8, none⟩ = some (.int .i64 n.p.2) /\ wz.cell? ⟨y3.heap.size, 0, none⟩ = some (.bool false) /\ wz.cell? ⟨y3.heap.size, 1, none⟩ = some (.int .i64 h2) /\ wz.cell? ⟨y3.heap.size, 2, none⟩ = some (.string ⟨o2.toArray⟩) /\ wz.cell? ⟨y5.heap.size, 0, none⟩ = some (.bool false) /\ wz.cell? ⟨y5.heap.size, 1, none⟩ = some (.int .i64 h3) /\ wz.cell? ⟨y5.heap.size, 2, none⟩ = some (.string ⟨o3.toArray⟩)) (by kernel_rfl) (HS.out _ HFd.out HBd.out HDd.out) (fun hHeld => ?_)
       generalize y6.drew = y7 at *
       refine E.xP 0 (v := ?_) rfl (by kernel_rfl) (fun c a w h => h) (by rfl) ?_ (fun _ => hHeld) ?_
       rotate_left
       ·(intro w hSw; clear hSw; go_simp; try with_reducible rfl)
       simp only [E.pts]
       refine E.xT 1 (v := ?_) rfl (by kernel_rfl) (fun c a w h => h) (by rfl) ?_ hHeld ?_
       rotate_left
       ·(intro w hSw; (try dsimp only at hSw); go_simp; try with_reducible rfl)
       simp only [E.pts]
       refine E.xP 2 (v := ?_) rfl (by kernel_rfl) (fun c a w h => h) (by rfl) ?_ (fun _ => hHeld) ?_
       rotate_left
       ·(intro w hSw; clear hSw; go_simp; try with_reducible rfl)
       simp only [E.pts]
       refine E.zT (is := [3, 4]) ?_
       iterate 2
        refine E.yT (v := ?_) rfl (by kernel_rfl) (fun c a w h => h) (by rfl) ?_ hHeld ?_
        rotate_left
        ·(intro w hSw; (try dsimp only at hSw); go_simp; try with_reducible rfl)
        simp only [E.pts]
       refine E.eT ?_
       refine E.zP (is := [5, 6, 7]) ?_
       iterate 3
        refine E.yP (v := ?_) rfl (by kernel_rfl) (fun c a w h => h) (by rfl) ?_ (fun _ => hHeld) ?_
        rotate_left
        ·(intro w hSw; clear hSw; go_simp; try with_reducible rfl)
        simp only [E.pts]
       refine E.eP ?_
       refine E.xT 8 (v := ?_) rfl (by kernel_rfl) (fun c a w h => h) (by rfl) ?_ hHeld ?_
       rotate_left
       ·(intro w hSw; (try dsimp only at hSw); go_simp; try with_reducible rfl)
       simp only [E.pts]
       replace HR : Y.Hd (R = .error (150, n.p)) := ⟨by rw [HR.out, if_neg (by simp)]⟩
       refine wpD_ready (rs := [9]) (by kernel_rfl) (by simp) ?_
       refine AllD.cons rfl (fun K hK => ?_) AllD.nil
       go_simp
       refine (must_false 150 n.p y7).mono ?_
       rintro e y8 ⟨rfl, hb⟩
       refine ⟨rfl, ?_⟩
       rw [HR.out]
       exact ⟨rfl, HGd.out.trans (Gw.of hb)⟩
      ·
       have HS : Y.Hd (∀ (wz : World), FR wz W.heap.size W0.heap.size W1.heap.size g (ndc n (.slice q1 n.th.length d1) (.slice q2 n.el.length d2)) s1 mv av k3 -> SB wz y3.heap.size ⟨false, h2, o2⟩ -> SB wz y5.heap.size ⟨false, h3, o3⟩ -> (fun wz : World => wz.cell? ⟨W.heap.size, 7, none⟩ = some (.int .i64 n.p.1) /\ wz.cell? ⟨W.heap.size, 8, none⟩ = some (.int .i64 n.p.2) /\ wz.cell? ⟨y3.heap.size, 0, none⟩ = some (.bool false) /\ wz.cell? ⟨y3.heap.size, 1, none⟩ = some (.int .i64 h2) /\ wz.cell? ⟨y3.heap.size, 2, none⟩ = some (.string ⟨o2.toArray⟩) /\ wz.cell? ⟨y5.heap.size, 0, none⟩ = some (.bool false) /\ wz.cell? ⟨y5.heap.size, 1, none⟩ = some (.int .i64 h3) /\ wz.cell? ⟨y5.heap.size, 2, none⟩ = some (.string ⟨o3.toArray⟩)) wz) := ⟨fun wz hf hbb hdd => by
        obtain ⟨_, _, _, _, _, _, _, c7, c8⟩ := nd_cells hf.1
        obtain ⟨b0, b1, b2⟩ := hbb.cells
        obtain ⟨e0, e1, e2⟩ := hdd.cells
        exact ⟨c7, c8, b0, b1, b2, e0, e1, e2⟩⟩
       have HFd := hid (HF6.out.below (Below.refl _ y6).drew)
       have HGd := hid (HG6.out.trans (Gw.of (Below.refl _ y6).drew))
       have HBd : Y.Hd (SB y6.drew y3.heap.size ⟨false, h2, o2⟩) := ⟨HB6.out⟩
       have HDd : Y.Hd (SB y6.drew y5.heap.size ⟨false, h3, o3⟩) := ⟨HD6.out⟩
       refine wp_region_drop [] (S := fun wz : World => wz.cell? ⟨W.heap.size, 7, none⟩ = some (.int .i64 n.p.1) /\ wz.cell? ⟨W.heap.size, 8, none⟩ = some (.int .i64 n.p.2) /\ wz.cell? ⟨y3.heap.size, 0, none⟩ = some (.bool false) /\ wz.cell? ⟨y3.heap.size, 1, none⟩ = some (.int .i64 h2) /\ wz.cell? ⟨y3.heap.size, 2, none⟩ = some (.string ⟨o2.toArray⟩) /\ wz.cell? ⟨y5.heap.size, 0, none⟩ = some (.bool false) /\ wz.cell? ⟨y5.heap.size, 1, none⟩ = some (.int .i64 h3) /\ wz.cell? ⟨y5.heap.size, 2, none⟩ = some (.string ⟨o3.toArray⟩)) (by kernel_rfl) (HS.out _ HFd.out HBd.out HDd.out) (fun hHeld => ?_)
       generalize y6.drew = y7 at *
       refine E.xP 0 (v := ?_) rfl (by kernel_rfl) (fun c a w h => h) (by rfl) ?_ (fun _ => hHeld) ?_
       rotate_left
       ·(intro w hSw; clear hSw; go_simp; try with_reducible rfl)
       simp only [E.pts]
       refine E.xT 1 (v := ?_) rfl (by kernel_rfl) (fun c a w h => h) (by rfl) ?_ hHeld ?_
       rotate_left
       ·(intro w hSw; (try dsimp only at hSw); go_simp; try with_reducible rfl)
       simp only [E.pts]
       refine E.xP 2 (v := ?_) rfl (by kernel_rfl) (fun c a w h => h) (by rfl) ?_ (fun _ => hHeld) ?_
       rotate_left
       ·(intro w hSw; clear hSw; go_simp; try with_reducible rfl)
       simp only [E.pts]
       refine E.zT (is := [3, 4]) ?_
       iterate 2
        refine E.yT (v := ?_) rfl (by kernel_rfl) (fun c a w h => h) (by rfl) ?_ hHeld ?_
        rotate_left
        ·(intro w hSw; (try dsimp only at hSw); go_simp; try with_reducible rfl)
        simp only [E.pts]
       refine E.eT ?_
       refine E.zP (is := [5, 6, 7]) ?_
       iterate 3
        refine E.yP (v := ?_) rfl (by kernel_rfl) (fun c a w h => h) (by rfl) ?_ (fun _ => hHeld) ?_
        rotate_left
        ·(intro w hSw; clear hSw; go_simp; try with_reducible rfl)
        simp only [E.pts]
       refine E.eP ?_
       refine E.xT 8 (v := ?_) rfl (by kernel_rfl) (fun c a w h => h) (by rfl) ?_ hHeld ?_
       rotate_left
       ·(intro w hSw; (try dsimp only at hSw); go_simp; try with_reducible rfl)
       simp only [E.pts]
       replace HR : Y.Hd (R = .ok (k3, (⟨false, h2, o2⟩ : St))) := ⟨by rw [HR.out, if_pos (by simp)]⟩
       refine wpD_ready (rs := [9]) (by kernel_rfl) (by simp) ?_
       refine AllD.cons rfl (fun K hK => ?_) AllD.nil
       go_simp
       refine (must_true 150 n.p y7).mono ?_
       rintro e y8 ⟨rfl, hb⟩
       have HF8 := hid (HFd.out.below hb)
       have HG8 := hid (HGd.out.trans (Gw.of hb))
       have HB8 := hid (HBd.out.below hb)
       have HD8 := hid (HDd.out.below hb)
       clear hb
       refine hK.out _ _ (HS.out _ HF8.out HB8.out HD8.out) (fun hHeld => ?_)
       clear hK K hHeld
       try simp only [E.pts]
       refine wpD_done (by kernel_rfl) ?_ _
       obtain ⟨b0, b1, b2⟩ := HB8.out.cells
       simp only at b0 b1 b2
       have k6 := HF8.out.res HA.out HG8.out (⟨false, h2, o2⟩ : St)
       have hst := HF8.out.2.2.1
       unfold stc at k6
       (try simp only at k6)
       have H6 := hid k6
       clear k6
       go_wp2_with (refine wpList_store_row rfl 129 _ _ rfl W1.heap.size _ rfl rfl 129 _ hst (by exact sizeS) (by rfl) (by simp [Value.oneCell']) ?_)
       refine bodyPost_ret (st_end 6 rfl rfl H6.out.1) rfl ?_
       rw [HR.out]
       exact ⟨rfl, H6.out.2.1, H6.out.2.2⟩
     ·
      have HS : Y.Hd (∀ (wz : World), FR wz W.heap.size W0.heap.size W1.heap.size g (ndc n (.slice q1 n.th.length d1) (.slice q2 n.el.length d2)) s1 mv av k3 -> SB wz y3.heap.size ⟨false, h2, o2⟩ -> SB wz y5.heap.size ⟨true, h3, o3⟩ -> (fun wz : World => wz.cell? ⟨W.heap.size, 7, none⟩ = some (.int .i64 n.p.1) /\ wz.cell? ⟨W.heap.size, 8, none⟩ = some (.int .i64 n.p.2) /\ wz.cell? ⟨y3.heap.size, 0, none⟩ = some (.bool false) /\ wz.cell? ⟨y3.heap.size, 1, none⟩ = some (.int .i64 h2) /\ wz.cell? ⟨y3.heap.size, 2, none⟩ = some (.string ⟨o2.toArray⟩) /\ wz.cell? ⟨y5.heap.size, 0, none⟩ = some (.bool true) /\ wz.cell? ⟨y5.heap.size, 1, none⟩ = some (.int .i64 h3) /\ wz.cell? ⟨y5.heap.size, 2, none⟩ = some (.string ⟨o3.toArray⟩)) wz) := ⟨fun wz hf hbb hdd => by
       obtain ⟨_, _, _, _, _, _, _, c7, c8⟩ := nd_cells hf.1
       obtain ⟨b0, b1, b2⟩ := hbb.cells
       obtain ⟨e0, e1, e2⟩ := hdd.cells
       exact ⟨c7, c8, b0, b1, b2, e0, e1, e2⟩⟩
      have HFd := hid (HF6.out.below (Below.refl _ y6).drew)
      have HGd := hid (HG6.out.trans (Gw.of (Below.refl _ y6).drew))
      have HBd : Y.Hd (SB y6.drew y3.heap.size ⟨false, h2, o2⟩) := ⟨HB6.out⟩
      have HDd : Y.Hd (SB y6.drew y5.heap.size ⟨true, h3, o3⟩) := ⟨HD6.out⟩
      refine wp_region_drop [] (S := fun wz : World => wz.cell? ⟨W.heap.size, 7, none⟩ = some (.int .i64 n.p.1) /\ wz.cell? ⟨W.heap.size, 8, none⟩ = some (.int .i64 n.p.2) /\ wz.cell? ⟨y3.heap.size, 0, none⟩ = some (.bool false) /\ wz.cell? ⟨y3.heap.size, 1, none⟩ = some (.int .i64 h2) /\ wz.cell? ⟨y3.heap.size, 2, none⟩ = some (.string ⟨o2.toArray⟩) /\ wz.cell? ⟨y5.heap.size, 0, none⟩ = some (.bool true) /\ wz.cell? ⟨y5.heap.size, 1, none⟩ = some (.int .i64 h3) /\ wz.cell? ⟨y5.heap.size, 2, none⟩ = some (.string ⟨o3.toArray⟩)) (by kernel_rfl) (HS.out _ HFd.out HBd.out HDd.out) (fun hHeld => ?_)
      generalize y6.drew = y7 at *
      refine E.xP 0 (v := ?_) rfl (by kernel_rfl) (fun c a w h => h) (by rfl) ?_ (fun _ => hHeld) ?_
      rotate_left
      ·(intro w hSw; clear hSw; go_simp; try with_reducible rfl)
      simp only [E.pts]
      refine E.xT 1 (v := ?_) rfl (by kernel_rfl) (fun c a w h => h) (by rfl) ?_ hHeld ?_
      rotate_left
      ·(intro w hSw; (try dsimp only at hSw); go_simp; try with_reducible rfl)
      simp only [E.pts]
      refine E.xP 2 (v := ?_) rfl (by kernel_rfl) (fun c a w h => h) (by rfl) ?_ (fun _ => hHeld) ?_
      rotate_left
      ·(intro w hSw; clear hSw; go_simp; try with_reducible rfl)
      simp only [E.pts]
      refine wpD_takeP (i := 3) (v := undef) rfl (by kernel_rfl) (by kernel_rfl) (by kernel_rfl) (by kernel_rfl) (fun c a w h => h) (Or.inr ⟨by rfl, rfl⟩) (fun _ => hHeld) ?_
      simp only [E.pts]
      refine wpD_takeP (i := 4) (v := undef) rfl (by kernel_rfl) (by kernel_rfl) (by kernel_rfl) (by kernel_rfl) (fun c a w h => h) (Or.inr ⟨by rfl, rfl⟩) (fun _ => hHeld) ?_
      simp only [E.pts]
      refine wpD_takeP (i := 5) (v := undef) rfl (by kernel_rfl) (by kernel_rfl) (by kernel_rfl) (by kernel_rfl) (fun c a w h => h) (Or.inr ⟨by rfl, rfl⟩) (fun _ => hHeld) ?_
      simp only [E.pts]
      refine E.zP (is := [6, 7]) ?_
      iterate 2
       refine E.yP (v := ?_) rfl (by kernel_rfl) (fun c a w h => h) (by rfl) ?_ (fun _ => hHeld) ?_
       rotate_left
       ·(intro w hSw; clear hSw; go_simp; try with_reducible rfl)
       simp only [E.pts]
      refine E.eP ?_
      refine E.xT 8 (v := ?_) rfl (by kernel_rfl) (fun c a w h => h) (by rfl) ?_ hHeld ?_
      rotate_left
      ·(intro w hSw; (try dsimp only at hSw); go_simp; try with_reducible rfl)
      simp only [E.pts]
      replace HR : Y.Hd (R = .ok (k3, (⟨false, h2, o2⟩ : St))) := ⟨by rw [HR.out, if_pos (by simp)]⟩
      refine wpD_ready (rs := [9]) (by kernel_rfl) (by simp) ?_
      refine AllD.cons rfl (fun K hK => ?_) AllD.nil
      go_simp
      refine (must_true 150 n.p y7).mono ?_
      rintro e y8 ⟨rfl, hb⟩
      have HF8 := hid (HFd.out.below hb)
      have HG8 := hid (HGd.out.trans (Gw.of hb))
      have HB8 := hid (HBd.out.below hb)
      have HD8 := hid (HDd.out.below hb)
      clear hb
      refine hK.out _ _ (HS.out _ HF8.out HB8.out HD8.out) (fun hHeld => ?_)
      clear hK K hHeld
      try simp only [E.pts]
      refine wpD_done (by kernel_rfl) ?_ _
      obtain ⟨b0, b1, b2⟩ := HB8.out.cells
      simp only at b0 b1 b2
      have k6 := HF8.out.res HA.out HG8.out (⟨false, h2, o2⟩ : St)
      have hst := HF8.out.2.2.1
      unfold stc at k6
      (try simp only at k6)
      have H6 := hid k6
      clear k6
      go_wp2_with (refine wpList_store_row rfl 129 _ _ rfl W1.heap.size _ rfl rfl 129 _ hst (by exact sizeS) (by rfl) (by simp [Value.oneCell']) ?_)
      refine bodyPost_ret (st_end 6 rfl rfl H6.out.1) rfl ?_
      rw [HR.out]
      exact ⟨rfl, H6.out.2.1, H6.out.2.2⟩
    ·
     replace HR : Y.Hd (R = .ok (k3, (⟨de, h3, o3⟩ : St))) := ⟨HR.out⟩
     obtain ⟨b0, b1, b2⟩ := HB6.out.cells
     obtain ⟨e0, e1, e2⟩ := HD6.out.cells
     simp only at b0 b1 b2 e0 e1 e2
     (try unfold stc)
     (try simp only)
     have k6 := HF6.out.res HA.out HG6.out (⟨de, h3, o3⟩ : St)
     have hst := HF6.out.2.2.1
     unfold stc at k6
     (try simp only at k6)
     have H6 := hid k6
     clear k6
     go_wp2_with (refine wpList_store_row rfl 129 _ _ rfl W1.heap.size _ rfl rfl 129 _ hst (by exact sizeS) (by rfl) (by simp [Value.oneCell']) ?_)
     refine bodyPost_ret (st_end 6 rfl rfl H6.out.1) rfl ?_
     rw [HR.out]
     exact ⟨rfl, H6.out.2.1, H6.out.2.2⟩
set_option maxHeartbeats 2000000
set_option maxRecDepth 100000
theorem nk_1 (op v : Int) (nm : ByteArray) (th el : List Nd) (has : Bool) (p : Ps) (q1 q2 : Option Addr) (d1 d2 : Nat) (w : Wk) (s : St) (g : Nat) (mv av : Value) (W : World) (h : EW W g mv av w) (R : Re) (hc : ∀ V, EW V g mv av w -> Gw g W V -> Calls Tryz.prog 99 #[.pointer (some ⟨g, 0, none⟩), .agg #[.int .i64 1, .int .i64 op, .int .u16 v, .string nm, .slice q1 th.length d1, .slice q2 el.length d2, .bool has, .int .i64 p.1, .int .i64 p.2], .agg (stc s).toArray] V (EO V g mv av (fun s => .agg (stc s).toArray) R)) :
  Calls Tryz.prog 81 #[.pointer (some ⟨g, 0, none⟩), .agg #[.int .i64 1, .int .i64 op, .int .u16 v, .string nm, .slice q1 th.length d1, .slice q2 el.length d2, .bool has, .int .i64 p.1, .int .i64 p.2], .agg (stc s).toArray] W (EO W g mv av (fun s => .agg (stc s).toArray) R) := by
 obtain ⟨W0, W1, W2, hW0, hW1, hW2, hB, hA, hF⟩ := box_nsr ⟨1, op, v, nm, th, el, has, p⟩ q1 q2 d1 d2 s g mv av w W h
 have HA := hid hA
 have HF := hid hF
 have HG := hid (Gw.of (g := g) hB)
 have hcl := hc W2 hF.2.2.2 (Gw.of (g := g) hB)
 clear hA hB hF h hc
 obtain ⟨c0, c1, c2, c3, c4, c5, c6, c7, c8⟩ := nd_cells HF.out.1
 obtain ⟨x0, x1, x2⟩ := HF.out.2.1.cells
 simp only at c0 c1 c2 c3 c4 c5 c6 c7 c8 hW0
 unfold stc at hcl
 unfold stc
 go_enter Tryz.func81, Tryz.ntmps81
 go_wp2_with fail
 refine hcl.mono ?_
 intro e y1 hp
 clear hcl hW0 hW1 hW2
 clear c0 c1 c2 c3 c4 c5 c6 c7 c8 x0 x1 x2
 have HR : Y.Hd (R = R) := ⟨rfl⟩
 cases R with
 | error er =>
  obtain ⟨rfl, hG⟩ := hp
  refine ⟨rfl, ?_⟩
  exact ⟨rfl, HG.out.trans hG⟩
 | ok y =>
  obtain ⟨k1, s1⟩ := y
  obtain ⟨rfl, hE, hG⟩ := hp
  have HF1 := hid (HF.out.gw HA.out hG hE)
  have HG1 := hid (HG.out.trans hG)
  clear hE hG
  (try simp only)
  have k6 := HF1.out.res HA.out HG1.out s1
  have hst := HF1.out.2.2.1
  unfold stc at k6
  (try simp only at k6)
  have H6 := hid k6
  clear k6
  go_wp2_with (refine wpList_store_row rfl 129 _ _ rfl W1.heap.size _ rfl rfl 129 _ hst (by exact sizeS) (by rfl) (by simp [Value.oneCell']) ?_)
  refine bodyPost_ret (st_end 6 rfl rfl H6.out.1) rfl ?_
  exact ⟨rfl, H6.out.2.1, H6.out.2.2⟩
theorem nk_2 (op v : Int) (nm : ByteArray) (th el : List Nd) (has : Bool) (p : Ps) (q1 q2 : Option Addr) (d1 d2 : Nat) (w : Wk) (s : St) (g : Nat) (mv av : Value) (W : World) (h : EW W g mv av w) (R : Re) (hc : ∀ V, EW V g mv av w -> Gw g W V -> Calls Tryz.prog 100 #[.pointer (some ⟨g, 0, none⟩), .agg (stc s).toArray, .int .i64 0, .int .i64 1, .agg #[.int .i64 p.1, .int .i64 p.2]] V (EO V g mv av (fun s => .agg (stc s).toArray) R)) :
  Calls Tryz.prog 81 #[.pointer (some ⟨g, 0, none⟩), .agg #[.int .i64 2, .int .i64 op, .int .u16 v, .string nm, .slice q1 th.length d1, .slice q2 el.length d2, .bool has, .int .i64 p.1, .int .i64 p.2], .agg (stc s).toArray] W (EO W g mv av (fun s => .agg (stc s).toArray) R) := by
 obtain ⟨W0, W1, W2, hW0, hW1, hW2, hB, hA, hF⟩ := box_nsr ⟨2, op, v, nm, th, el, has, p⟩ q1 q2 d1 d2 s g mv av w W h
 have HA := hid hA
 have HF := hid hF
 have HG := hid (Gw.of (g := g) hB)
 have hcl := hc W2 hF.2.2.2 (Gw.of (g := g) hB)
 clear hA hB hF h hc
 obtain ⟨c0, c1, c2, c3, c4, c5, c6, c7, c8⟩ := nd_cells HF.out.1
 obtain ⟨x0, x1, x2⟩ := HF.out.2.1.cells
 simp only at c0 c1 c2 c3 c4 c5 c6 c7 c8 hW0
 unfold stc at hcl
 unfold stc
 go_enter Tryz.func81, Tryz.ntmps81
 go_wp2_with fail
 refine hcl.mono ?_
 intro e y1 hp
 clear hcl hW0 hW1 hW2
 clear c0 c1 c2 c3 c4 c5 c6 c7 c8 x0 x1 x2
 have HR : Y.Hd (R = R) := ⟨rfl⟩
 cases R with
 | error er =>
  obtain ⟨rfl, hG⟩ := hp
  refine ⟨rfl, ?_⟩
  exact ⟨rfl, HG.out.trans hG⟩
 | ok y =>
  obtain ⟨k1, s1⟩ := y
  obtain ⟨rfl, hE, hG⟩ := hp
  have HF1 := hid (HF.out.gw HA.out hG hE)
  have HG1 := hid (HG.out.trans hG)
  clear hE hG
  (try simp only)
  have k6 := HF1.out.res HA.out HG1.out s1
  have hst := HF1.out.2.2.1
  unfold stc at k6
  (try simp only at k6)
  have H6 := hid k6
  clear k6
  go_wp2_with (refine wpList_store_row rfl 129 _ _ rfl W1.heap.size _ rfl rfl 129 _ hst (by exact sizeS) (by rfl) (by simp [Value.oneCell']) ?_)
  refine bodyPost_ret (st_end 6 rfl rfl H6.out.1) rfl ?_
  exact ⟨rfl, H6.out.2.1, H6.out.2.2⟩
theorem nk_3 (op v : Int) (nm : ByteArray) (th el : List Nd) (has : Bool) (p : Ps) (q1 q2 : Option Addr) (d1 d2 : Nat) (w : Wk) (s : St) (g : Nat) (mv av : Value) (W : World) (h : EW W g mv av w) (R : Re) (hc : ∀ V, EW V g mv av w -> Gw g W V -> Calls Tryz.prog 101 #[.pointer (some ⟨g, 0, none⟩), .agg #[.int .i64 3, .int .i64 op, .int .u16 v, .string nm, .slice q1 th.length d1, .slice q2 el.length d2, .bool has, .int .i64 p.1, .int .i64 p.2], .agg (stc s).toArray] V (EO V g mv av (fun s => .agg (stc s).toArray) R)) :
  Calls Tryz.prog 81 #[.pointer (some ⟨g, 0, none⟩), .agg #[.int .i64 3, .int .i64 op, .int .u16 v, .string nm, .slice q1 th.length d1, .slice q2 el.length d2, .bool has, .int .i64 p.1, .int .i64 p.2], .agg (stc s).toArray] W (EO W g mv av (fun s => .agg (stc s).toArray) R) := by
 obtain ⟨W0, W1, W2, hW0, hW1, hW2, hB, hA, hF⟩ := box_nsr ⟨3, op, v, nm, th, el, has, p⟩ q1 q2 d1 d2 s g mv av w W h
 have HA := hid hA
 have HF := hid hF
 have HG := hid (Gw.of (g := g) hB)
 have hcl := hc W2 hF.2.2.2 (Gw.of (g := g) hB)
 clear hA hB hF h hc
 obtain ⟨c0, c1, c2, c3, c4, c5, c6, c7, c8⟩ := nd_cells HF.out.1
 obtain ⟨x0, x1, x2⟩ := HF.out.2.1.cells
 simp only at c0 c1 c2 c3 c4 c5 c6 c7 c8 hW0
 unfold stc at hcl
 unfold stc
 go_enter Tryz.func81, Tryz.ntmps81
 go_wp2_with fail
 refine hcl.mono ?_
 intro e y1 hp
 clear hcl hW0 hW1 hW2
 clear c0 c1 c2 c3 c4 c5 c6 c7 c8 x0 x1 x2
 have HR : Y.Hd (R = R) := ⟨rfl⟩
 cases R with
 | error er =>
  obtain ⟨rfl, hG⟩ := hp
  refine ⟨rfl, ?_⟩
  exact ⟨rfl, HG.out.trans hG⟩
 | ok y =>
  obtain ⟨k1, s1⟩ := y
  obtain ⟨rfl, hE, hG⟩ := hp
  have HF1 := hid (HF.out.gw HA.out hG hE)
  have HG1 := hid (HG.out.trans hG)
  clear hE hG
  (try simp only)
  have k6 := HF1.out.res HA.out HG1.out s1
  have hst := HF1.out.2.2.1
  unfold stc at k6
  (try simp only at k6)
  have H6 := hid k6
  clear k6
  go_wp2_with (refine wpList_store_row rfl 129 _ _ rfl W1.heap.size _ rfl rfl 129 _ hst (by exact sizeS) (by rfl) (by simp [Value.oneCell']) ?_)
  refine bodyPost_ret (st_end 6 rfl rfl H6.out.1) rfl ?_
  exact ⟨rfl, H6.out.2.1, H6.out.2.2⟩
theorem nk_4 (op v : Int) (nm : ByteArray) (th el : List Nd) (has : Bool) (p : Ps) (q1 q2 : Option Addr) (d1 d2 : Nat) (w : Wk) (s : St) (g : Nat) (mv av : Value) (W : World) (h : EW W g mv av w) (R : Re) (hc : ∀ V, EW V g mv av w -> Gw g W V -> Calls Tryz.prog 102 #[.pointer (some ⟨g, 0, none⟩), .agg #[.int .i64 4, .int .i64 op, .int .u16 v, .string nm, .slice q1 th.length d1, .slice q2 el.length d2, .bool has, .int .i64 p.1, .int .i64 p.2], .agg (stc s).toArray] V (EO V g mv av (fun s => .agg (stc s).toArray) R)) :
  Calls Tryz.prog 81 #[.pointer (some ⟨g, 0, none⟩), .agg #[.int .i64 4, .int .i64 op, .int .u16 v, .string nm, .slice q1 th.length d1, .slice q2 el.length d2, .bool has, .int .i64 p.1, .int .i64 p.2], .agg (stc s).toArray] W (EO W g mv av (fun s => .agg (stc s).toArray) R) := by
 obtain ⟨W0, W1, W2, hW0, hW1, hW2, hB, hA, hF⟩ := box_nsr ⟨4, op, v, nm, th, el, has, p⟩ q1 q2 d1 d2 s g mv av w W h
 have HA := hid hA
 have HF := hid hF
 have HG := hid (Gw.of (g := g) hB)
 have hcl := hc W2 hF.2.2.2 (Gw.of (g := g) hB)
 clear hA hB hF h hc
 obtain ⟨c0, c1, c2, c3, c4, c5, c6, c7, c8⟩ := nd_cells HF.out.1
 obtain ⟨x0, x1, x2⟩ := HF.out.2.1.cells
 simp only at c0 c1 c2 c3 c4 c5 c6 c7 c8 hW0
 unfold stc at hcl
 unfold stc
 go_enter Tryz.func81, Tryz.ntmps81
 go_wp2_with fail
 refine hcl.mono ?_
 intro e y1 hp
 clear hcl hW0 hW1 hW2
 clear c0 c1 c2 c3 c4 c5 c6 c7 c8 x0 x1 x2
 have HR : Y.Hd (R = R) := ⟨rfl⟩
 cases R with
 | error er =>
  obtain ⟨rfl, hG⟩ := hp
  refine ⟨rfl, ?_⟩
  exact ⟨rfl, HG.out.trans hG⟩
 | ok y =>
  obtain ⟨k1, s1⟩ := y
  obtain ⟨rfl, hE, hG⟩ := hp
  have HF1 := hid (HF.out.gw HA.out hG hE)
  have HG1 := hid (HG.out.trans hG)
  clear hE hG
  (try simp only)
  have k6 := HF1.out.res HA.out HG1.out s1
  have hst := HF1.out.2.2.1
  unfold stc at k6
  (try simp only at k6)
  have H6 := hid k6
  clear k6
  go_wp2_with (refine wpList_store_row rfl 129 _ _ rfl W1.heap.size _ rfl rfl 129 _ hst (by exact sizeS) (by rfl) (by simp [Value.oneCell']) ?_)
  refine bodyPost_ret (st_end 6 rfl rfl H6.out.1) rfl ?_
  exact ⟨rfl, H6.out.2.1, H6.out.2.2⟩
theorem nk_5 (op v : Int) (nm : ByteArray) (th el : List Nd) (has : Bool) (p : Ps) (q1 q2 : Option Addr) (d1 d2 : Nat) (w : Wk) (s : St) (g : Nat) (mv av : Value) (W : World) (h : EW W g mv av w) (R : Re) (hc : ∀ V, EW V g mv av w -> Gw g W V -> Calls Tryz.prog 103 #[.pointer (some ⟨g, 0, none⟩), .agg #[.int .i64 5, .int .i64 op, .int .u16 v, .string nm, .slice q1 th.length d1, .slice q2 el.length d2, .bool has, .int .i64 p.1, .int .i64 p.2], .agg (stc s).toArray] V (EO V g mv av (fun s => .agg (stc s).toArray) R)) :
  Calls Tryz.prog 81 #[.pointer (some ⟨g, 0, none⟩), .agg #[.int .i64 5, .int .i64 op, .int .u16 v, .string nm, .slice q1 th.length d1, .slice q2 el.length d2, .bool has, .int .i64 p.1, .int .i64 p.2], .agg (stc s).toArray] W (EO W g mv av (fun s => .agg (stc s).toArray) R) := by
 obtain ⟨W0, W1, W2, hW0, hW1, hW2, hB, hA, hF⟩ := box_nsr ⟨5, op, v, nm, th, el, has, p⟩ q1 q2 d1 d2 s g mv av w W h
 have HA := hid hA
 have HF := hid hF
 have HG := hid (Gw.of (g := g) hB)
 have hcl := hc W2 hF.2.2.2 (Gw.of (g := g) hB)
 clear hA hB hF h hc
 obtain ⟨c0, c1, c2, c3, c4, c5, c6, c7, c8⟩ := nd_cells HF.out.1
 obtain ⟨x0, x1, x2⟩ := HF.out.2.1.cells
 simp only at c0 c1 c2 c3 c4 c5 c6 c7 c8 hW0
 unfold stc at hcl
 unfold stc
 go_enter Tryz.func81, Tryz.ntmps81
 go_wp2_with fail
 refine hcl.mono ?_
 intro e y1 hp
 clear hcl hW0 hW1 hW2
 clear c0 c1 c2 c3 c4 c5 c6 c7 c8 x0 x1 x2
 have HR : Y.Hd (R = R) := ⟨rfl⟩
 cases R with
 | error er =>
  obtain ⟨rfl, hG⟩ := hp
  refine ⟨rfl, ?_⟩
  exact ⟨rfl, HG.out.trans hG⟩
 | ok y =>
  obtain ⟨k1, s1⟩ := y
  obtain ⟨rfl, hE, hG⟩ := hp
  have HF1 := hid (HF.out.gw HA.out hG hE)
  have HG1 := hid (HG.out.trans hG)
  clear hE hG
  (try simp only)
  have k6 := HF1.out.res HA.out HG1.out s1
  have hst := HF1.out.2.2.1
  unfold stc at k6
  (try simp only at k6)
  have H6 := hid k6
  clear k6
  go_wp2_with (refine wpList_store_row rfl 129 _ _ rfl W1.heap.size _ rfl rfl 129 _ hst (by exact sizeS) (by rfl) (by simp [Value.oneCell']) ?_)
  refine bodyPost_ret (st_end 6 rfl rfl H6.out.1) rfl ?_
  exact ⟨rfl, H6.out.2.1, H6.out.2.2⟩
theorem nk_6 (op v : Int) (nm : ByteArray) (th el : List Nd) (has : Bool) (p : Ps) (q1 q2 : Option Addr) (d1 d2 : Nat) (w : Wk) (s : St) (g : Nat) (mv av : Value) (W : World) (h : EW W g mv av w) (R : Re) (hc : ∀ V, EW V g mv av w -> Gw g W V -> Calls Tryz.prog 104 #[.pointer (some ⟨g, 0, none⟩), .agg #[.int .i64 6, .int .i64 op, .int .u16 v, .string nm, .slice q1 th.length d1, .slice q2 el.length d2, .bool has, .int .i64 p.1, .int .i64 p.2], .agg (stc s).toArray] V (EO V g mv av (fun s => .agg (stc s).toArray) R)) :
  Calls Tryz.prog 81 #[.pointer (some ⟨g, 0, none⟩), .agg #[.int .i64 6, .int .i64 op, .int .u16 v, .string nm, .slice q1 th.length d1, .slice q2 el.length d2, .bool has, .int .i64 p.1, .int .i64 p.2], .agg (stc s).toArray] W (EO W g mv av (fun s => .agg (stc s).toArray) R) := by
 obtain ⟨W0, W1, W2, hW0, hW1, hW2, hB, hA, hF⟩ := box_nsr ⟨6, op, v, nm, th, el, has, p⟩ q1 q2 d1 d2 s g mv av w W h
 have HA := hid hA
 have HF := hid hF
 have HG := hid (Gw.of (g := g) hB)
 have hcl := hc W2 hF.2.2.2 (Gw.of (g := g) hB)
 clear hA hB hF h hc
 obtain ⟨c0, c1, c2, c3, c4, c5, c6, c7, c8⟩ := nd_cells HF.out.1
 obtain ⟨x0, x1, x2⟩ := HF.out.2.1.cells
 simp only at c0 c1 c2 c3 c4 c5 c6 c7 c8 hW0
 unfold stc at hcl
 unfold stc
 go_enter Tryz.func81, Tryz.ntmps81
 go_wp2_with fail
 refine hcl.mono ?_
 intro e y1 hp
 clear hcl hW0 hW1 hW2
 clear c0 c1 c2 c3 c4 c5 c6 c7 c8 x0 x1 x2
 have HR : Y.Hd (R = R) := ⟨rfl⟩
 cases R with
 | error er =>
  obtain ⟨rfl, hG⟩ := hp
  refine ⟨rfl, ?_⟩
  exact ⟨rfl, HG.out.trans hG⟩
 | ok y =>
  obtain ⟨k1, s1⟩ := y
  obtain ⟨rfl, hE, hG⟩ := hp
  have HF1 := hid (HF.out.gw HA.out hG hE)
  have HG1 := hid (HG.out.trans hG)
  clear hE hG
  (try simp only)
  have k6 := HF1.out.res HA.out HG1.out s1
  have hst := HF1.out.2.2.1
  unfold stc at k6
  (try simp only at k6)
  have H6 := hid k6
  clear k6
  go_wp2_with (refine wpList_store_row rfl 129 _ _ rfl W1.heap.size _ rfl rfl 129 _ hst (by exact sizeS) (by rfl) (by simp [Value.oneCell']) ?_)
  refine bodyPost_ret (st_end 6 rfl rfl H6.out.1) rfl ?_
  exact ⟨rfl, H6.out.2.1, H6.out.2.2⟩
theorem nk_7 (op v : Int) (nm : ByteArray) (th el : List Nd) (has : Bool) (p : Ps) (q1 q2 : Option Addr) (d1 d2 : Nat) (w : Wk) (s : St) (g : Nat) (mv av : Value) (W : World) (h : EW W g mv av w) (R : Re) (hc : ∀ V, EW V g mv av w -> Gw g W V -> Calls Tryz.prog 105 #[.pointer (some ⟨g, 0, none⟩), .agg #[.int .i64 7, .int .i64 op, .int .u16 v, .string nm, .slice q1 th.length d1, .slice q2 el.length d2, .bool has, .int .i64 p.1, .int .i64 p.2], .agg (stc s).toArray] V (EO V g mv av (fun s => .agg (stc s).toArray) R)) :
  Calls Tryz.prog 81 #[.pointer (some ⟨g, 0, none⟩), .agg #[.int .i64 7, .int .i64 op, .int .u16 v, .string nm, .slice q1 th.length d1, .slice q2 el.length d2, .bool has, .int .i64 p.1, .int .i64 p.2], .agg (stc s).toArray] W (EO W g mv av (fun s => .agg (stc s).toArray) R) := by
 obtain ⟨W0, W1, W2, hW0, hW1, hW2, hB, hA, hF⟩ := box_nsr ⟨7, op, v, nm, th, el, has, p⟩ q1 q2 d1 d2 s g mv av w W h
 have HA := hid hA
 have HF := hid hF
 have HG := hid (Gw.of (g := g) hB)
 have hcl := hc W2 hF.2.2.2 (Gw.of (g := g) hB)
 clear hA hB hF h hc
 obtain ⟨c0, c1, c2, c3, c4, c5, c6, c7, c8⟩ := nd_cells HF.out.1
 obtain ⟨x0, x1, x2⟩ := HF.out.2.1.cells
 simp only at c0 c1 c2 c3 c4 c5 c6 c7 c8 hW0
 unfold stc at hcl
 unfold stc
 go_enter Tryz.func81, Tryz.ntmps81
 go_wp2_with fail
 refine hcl.mono ?_
 intro e y1 hp
 clear hcl hW0 hW1 hW2
 clear c0 c1 c2 c3 c4 c5 c6 c7 c8 x0 x1 x2
 have HR : Y.Hd (R = R) := ⟨rfl⟩
 cases R with
 | error er =>
  obtain ⟨rfl, hG⟩ := hp
  refine ⟨rfl, ?_⟩
  exact ⟨rfl, HG.out.trans hG⟩
 | ok y =>
  obtain ⟨k1, s1⟩ := y
  obtain ⟨rfl, hE, hG⟩ := hp
  have HF1 := hid (HF.out.gw HA.out hG hE)
  have HG1 := hid (HG.out.trans hG)
  clear hE hG
  (try simp only)
  have k6 := HF1.out.res HA.out HG1.out s1
  have hst := HF1.out.2.2.1
  unfold stc at k6
  (try simp only at k6)
  have H6 := hid k6
  clear k6
  go_wp2_with (refine wpList_store_row rfl 129 _ _ rfl W1.heap.size _ rfl rfl 129 _ hst (by exact sizeS) (by rfl) (by simp [Value.oneCell']) ?_)
  refine bodyPost_ret (st_end 6 rfl rfl H6.out.1) rfl ?_
  exact ⟨rfl, H6.out.2.1, H6.out.2.2⟩
theorem nk_8 (op v : Int) (nm : ByteArray) (th el : List Nd) (has : Bool) (p : Ps) (q1 q2 : Option Addr) (d1 d2 : Nat) (w : Wk) (s : St) (g : Nat) (mv av : Value) (W : World) (h : EW W g mv av w) (R : Re) (hc : ∀ V, EW V g mv av w -> Gw g W V -> Calls Tryz.prog 106 #[.pointer (some ⟨g, 0, none⟩), .agg #[.int .i64 8, .int .i64 op, .int .u16 v, .string nm, .slice q1 th.length d1, .slice q2 el.length d2, .bool has, .int .i64 p.1, .int .i64 p.2], .agg (stc s).toArray] V (EO V g mv av (fun s => .agg (stc s).toArray) R)) :
  Calls Tryz.prog 81 #[.pointer (some ⟨g, 0, none⟩), .agg #[.int .i64 8, .int .i64 op, .int .u16 v, .string nm, .slice q1 th.length d1, .slice q2 el.length d2, .bool has, .int .i64 p.1, .int .i64 p.2], .agg (stc s).toArray] W (EO W g mv av (fun s => .agg (stc s).toArray) R) := by
 obtain ⟨W0, W1, W2, hW0, hW1, hW2, hB, hA, hF⟩ := box_nsr ⟨8, op, v, nm, th, el, has, p⟩ q1 q2 d1 d2 s g mv av w W h
 have HA := hid hA
 have HF := hid hF
 have HG := hid (Gw.of (g := g) hB)
 have hcl := hc W2 hF.2.2.2 (Gw.of (g := g) hB)
 clear hA hB hF h hc
 obtain ⟨c0, c1, c2, c3, c4, c5, c6, c7, c8⟩ := nd_cells HF.out.1
 obtain ⟨x0, x1, x2⟩ := HF.out.2.1.cells
 simp only at c0 c1 c2 c3 c4 c5 c6 c7 c8 hW0
 unfold stc at hcl
 unfold stc
 go_enter Tryz.func81, Tryz.ntmps81
 go_wp2_with fail
 refine hcl.mono ?_
 intro e y1 hp
 clear hcl hW0 hW1 hW2
 clear c0 c1 c2 c3 c4 c5 c6 c7 c8 x0 x1 x2
 have HR : Y.Hd (R = R) := ⟨rfl⟩
 cases R with
 | error er =>
  obtain ⟨rfl, hG⟩ := hp
  refine ⟨rfl, ?_⟩
  exact ⟨rfl, HG.out.trans hG⟩
 | ok y =>
  obtain ⟨k1, s1⟩ := y
  obtain ⟨rfl, hE, hG⟩ := hp
  have HF1 := hid (HF.out.gw HA.out hG hE)
  have HG1 := hid (HG.out.trans hG)
  clear hE hG
  (try simp only)
  have k6 := HF1.out.res HA.out HG1.out s1
  have hst := HF1.out.2.2.1
  unfold stc at k6
  (try simp only at k6)
  have H6 := hid k6
  clear k6
  go_wp2_with (refine wpList_store_row rfl 129 _ _ rfl W1.heap.size _ rfl rfl 129 _ hst (by exact sizeS) (by rfl) (by simp [Value.oneCell']) ?_)
  refine bodyPost_ret (st_end 6 rfl rfl H6.out.1) rfl ?_
  exact ⟨rfl, H6.out.2.1, H6.out.2.2⟩
theorem nk_9 (op v : Int) (nm : ByteArray) (th el : List Nd) (has : Bool) (p : Ps) (q1 q2 : Option Addr) (d1 d2 : Nat) (w : Wk) (s : St) (g : Nat) (mv av : Value) (W : World) (h : EW W g mv av w) (L : Except Er Wk) (R : Re) (hR : R = match L with | .error e => .error e | .ok w => .ok (w, (⟨true, 0, []⟩ : St))) (hc : ∀ V, EW V g mv av w -> Gw g W V -> Calls Tryz.prog 68 #[.pointer (some ⟨g, 0, none⟩), .agg (stc s).toArray, .agg #[.int .i64 p.1, .int .i64 p.2]] V (EU V g mv av L)) :
  Calls Tryz.prog 81 #[.pointer (some ⟨g, 0, none⟩), .agg #[.int .i64 9, .int .i64 op, .int .u16 v, .string nm, .slice q1 th.length d1, .slice q2 el.length d2, .bool has, .int .i64 p.1, .int .i64 p.2], .agg (stc s).toArray] W (EO W g mv av (fun s => .agg (stc s).toArray) R) := by
 obtain ⟨W0, W1, W2, hW0, hW1, hW2, hB, hA, hF⟩ := box_nsr ⟨9, op, v, nm, th, el, has, p⟩ q1 q2 d1 d2 s g mv av w W h
 have HA := hid hA
 have HF := hid hF
 have HG := hid (Gw.of (g := g) hB)
 have hcl := hc W2 hF.2.2.2 (Gw.of (g := g) hB)
 clear hA hB hF h hc
 obtain ⟨c0, c1, c2, c3, c4, c5, c6, c7, c8⟩ := nd_cells HF.out.1
 obtain ⟨x0, x1, x2⟩ := HF.out.2.1.cells
 simp only at c0 c1 c2 c3 c4 c5 c6 c7 c8 hW0
 unfold stc at hcl
 have HR := hid hR
 clear hR
 unfold stc
 go_enter Tryz.func81, Tryz.ntmps81
 go_wp2_with fail
 refine hcl.mono ?_
 intro e y1 hp
 clear hcl hW0 hW1 hW2
 clear c0 c1 c2 c3 c4 c5 c6 c7 c8 x0 x1 x2
 cases L with
 | error er =>
  obtain ⟨rfl, hG⟩ := hp
  refine ⟨rfl, ?_⟩
  rw [HR.out]
  exact ⟨rfl, HG.out.trans hG⟩
 | ok k1 =>
  obtain ⟨rfl, hE, hG⟩ := hp
  replace HR : Y.Hd (R = .ok (k1, (⟨true, 0, []⟩ : St))) := ⟨HR.out⟩
  have HF1 := hid (HF.out.gw HA.out hG hE)
  have HG1 := hid (HG.out.trans hG)
  clear hE hG
  have k6 := HF1.out.res HA.out HG1.out (⟨true, 0, []⟩ : St)
  have hst := HF1.out.2.2.1
  unfold stc at k6
  (try simp only at k6)
  have H6 := hid k6
  clear k6
  go_wp2_with (refine wpList_store_row rfl 129 _ _ rfl W1.heap.size _ rfl rfl 129 _ hst (by exact sizeS) (by rfl) (by simp [Value.oneCell']) ?_)
  refine bodyPost_ret (st_end 6 rfl rfl H6.out.1) rfl ?_
  rw [HR.out]
  exact ⟨rfl, H6.out.2.1, H6.out.2.2⟩
set_option maxHeartbeats 2000000
set_option maxRecDepth 100000
open Y (NV cells9)
open R (En lk ck cks cks_cons)
structure QN (at_ : En) (tl : List Ty) (names : List ByteArray) : Prop where
 ti : ∀ t ∈ tl, TI t
 nm : ∀ s ∈ names, ∀ i, lk at_ s = some i -> 0 <= i /\ i < tl.length
def NDE (at_ : En) (tl : List Ty) (names : List ByteArray) (n : Nd) : Prop := ∀ (tv ev : Value) (O : Nat -> Prop) (i : Nat × Bool) (x : X) (g : Nat) (mv av : Value) (W : World), (∀ j, O j -> j < W.heap.size) -> ¬ O g -> NV W O tv n.th -> NV W O ev n.el -> ck names n i = 0 -> XI x -> EW W g mv av x.1 -> LU W g mv av at_ tl ->
  Calls Tryz.prog 81 #[.pointer (some ⟨g, 0, none⟩), .agg (ndc n tv ev).toArray, .agg (stc x.2).toArray] W (EO W g mv av (fun s => .agg (stc s).toArray) (node (known at_ tl) n x))
def BDE (at_ : En) (tl : List Ty) (names : List ByteArray) (l : List Nd) : Prop := ∀ (v : Value) (O : Nat -> Prop) (i : Nat × Bool) (x : X) (g : Nat) (mv av : Value) (W : World), (∀ j, O j -> j < W.heap.size) -> ¬ O g -> NV W O v l -> cks names l i = 0 -> XI x -> EW W g mv av x.1 -> LU W g mv av at_ tl ->
  Calls Tryz.prog 67 #[.pointer (some ⟨g, 0, none⟩), v, .agg (stc x.2).toArray] W (EO W g mv av (fun s => .agg (stc s).toArray) (body (known at_ tl) l x))
theorem ck_parts (names : List ByteArray) (n : Nd) (i : Nat × Bool) (h : ck names n i = 0) : R.uses n = true /\ R.fits names n = true /\ cks names n.th (R.inn n i) = 0 /\ cks names n.el (R.inn n i) = 0 := by
 rw [R.ck_is] at h
 by_cases h0 : R.own1 names n i = 0
 ·rw [if_pos h0] at h
  have hu : R.uses n = true := by
   cases hu : R.uses n with
   | true => rfl
   | false => unfold R.own1 at h0; rw [hu] at h0; simp at h0
  have hf : R.fits names n = true := by
   cases hf : R.fits names n with
   | true => rfl
   | false => unfold R.own1 at h0; rw [hu, hf] at h0; simp at h0
  by_cases h1 : cks names n.th (R.inn n i) = 0
  ·rw [if_pos h1] at h; exact ⟨hu, hf, h1, h⟩
  ·rw [if_neg h1] at h; exact absurd h h1
 ·rw [if_neg h0] at h; exact absurd h h0
theorem nv_gw {W V : World} {O : Nat -> Prop} {v : Value} {l : List Nd} {g : Nat} (h : NV W O v l) (k : Gw g W V) (hO : ∀ j, O j -> j < W.heap.size) (hg : ¬ O g) : NV V O v l := h.kept (fun i hi => k.block i (hO i hi) (fun e => hg (e ▸ hi))) fun _ h => h
theorem node_of (at_ : En) (tl : List Ty) (names : List ByteArray) (q : QN at_ tl names) (n : Nd) (b1 : BDE at_ tl names n.th) (b2 : BDE at_ tl names n.el) : NDE at_ tl names n := by
 intro tv ev O i x g mv av W hO hOg ht he hck hx h hL
 obtain ⟨hu, hf, hc1, hc2⟩ := ck_parts names n i hck
 obtain ⟨q1, d1, rfl, _, _⟩ := ht.ex
 obtain ⟨q2, d2, rfl, _, _⟩ := he.ex
 have hth : ∀ (x : X) (V : World), XI x -> EW V g mv av x.1 -> Gw g W V -> Calls Tryz.prog 67 #[.pointer (some ⟨g, 0, none⟩), .slice q1 n.th.length d1, .agg (stc x.2).toArray] V (EO V g mv av (fun s => .agg (stc s).toArray) (body (known at_ tl) n.th x)) := fun x V hx hE hG =>
  b1 _ O _ x g mv av V (fun j hj => Nat.lt_of_lt_of_le (hO j hj) hG.size) hOg (nv_gw ht hG hO hOg) hc1 hx hE (hL.gw hG)
 have hel : ∀ (x : X) (V : World), XI x -> EW V g mv av x.1 -> Gw g W V -> Calls Tryz.prog 67 #[.pointer (some ⟨g, 0, none⟩), .slice q2 n.el.length d2, .agg (stc x.2).toArray] V (EO V g mv av (fun s => .agg (stc s).toArray) (body (known at_ tl) n.el x)) := fun x V hx hE hG =>
  b2 _ O _ x g mv av V (fun j hj => Nat.lt_of_lt_of_le (hO j hj) hG.size) hOg (nv_gw he hG hO hOg) hc2 hx hE (hL.gw hG)
 have hkn := known_ti (at_ := at_) q.ti
 have i1 := body_inv (known at_ tl) hkn n.th
 have i2 := body_inv (known at_ tl) hkn n.el
 have hin : n.k = 3 -> ∀ j, lk at_ n.nm = some j -> 0 <= j /\ j < tl.length := fun h3 j hj => by
  unfold R.fits at hf
  rw [if_neg (by omega), if_pos h3] at hf
  obtain ⟨s, hs, e⟩ := List.any_eq_true.1 hf
  simp at e
  exact q.nm s hs j (e ▸ hj)
 have hop : n.k = 1 -> 9 <= n.op /\ n.op <= 63 := fun h1 => by
  unfold R.fits at hf
  rw [if_pos h1] at hf
  simpa using hf
 have hk9 : 1 <= n.k /\ n.k <= 9 := by
  unfold R.uses R.usesF at hu
  simp only [Bool.and_eq_true, decide_eq_true_eq] at hu
  exact ⟨hu.1, hu.2.1⟩
 rw [node_is]
 obtain ⟨w, s⟩ := x
 obtain ⟨k, op, v, nm, th, el, has, p⟩ := n
 unfold ndc nodeB
 simp only at *
 by_cases c1 : k = 1
 ·subst c1
  rw [if_pos rfl]
  exact nk_1 op v nm th el has p q1 q2 d1 d2 w s g mv av W h _ (fun V hE hG => primitive_any ⟨1, op, v, nm, th, el, has, p⟩ q1 q2 d1 d2 (w, s) hx.hh hx.hl (hop rfl).1 (hop rfl).2 g mv av V hE)
 by_cases c2 : k = 2
 ·subst c2
  rw [if_neg (by decide), if_pos rfl]
  exact nk_2 op v nm th el has p q1 q2 d1 d2 w s g mv av W h _ (fun V hE hG => step_any (w, s) 0 1 p hx.hh (by decide) (by decide) g mv av V hE)
 by_cases c3 : k = 3
 ·subst c3
  rw [if_neg (by decide), if_neg (by decide), if_pos rfl]
  exact nk_3 op v nm th el has p q1 q2 d1 d2 w s g mv av W h _ (fun V hE hG => call_any ⟨3, op, v, nm, th, el, has, p⟩ q1 q2 d1 d2 (w, s) hx.hh hx.hl g mv av V hE at_ tl (hL.gw hG) (hin rfl) q.ti)
 by_cases c4 : k = 4
 ·subst c4
  rw [if_neg (by decide), if_neg (by decide), if_neg (by decide), if_pos rfl]
  exact nk_4 op v nm th el has p q1 q2 d1 d2 w s g mv av W h _ (fun V hE hG => choice_any ⟨4, op, v, nm, th, el, has, p⟩ q1 q2 d1 d2 w s hx g mv av V hE _ i1 (fun x V' a b c => hth x V' a b (hG.trans c)) _ i2 (fun x V' a b c => hel x V' a b (hG.trans c)))
 by_cases c5 : k = 5
 ·subst c5
  rw [if_neg (by decide), if_neg (by decide), if_neg (by decide), if_neg (by decide), if_pos rfl]
  exact nk_5 op v nm th el has p q1 q2 d1 d2 w s g mv av W h _ (fun V hE hG => until_any ⟨5, op, v, nm, th, el, has, p⟩ q1 q2 d1 d2 w s hx g mv av V hE _ i1 (fun x V' a b c => hth x V' a b (hG.trans c)))
 by_cases c6 : k = 6
 ·subst c6
  rw [if_neg (by decide), if_neg (by decide), if_neg (by decide), if_neg (by decide), if_neg (by decide), if_pos rfl]
  exact nk_6 op v nm th el has p q1 q2 d1 d2 w s g mv av W h _ (fun V hE hG => while_any ⟨6, op, v, nm, th, el, has, p⟩ q1 q2 d1 d2 w s hx g mv av V hE _ i1 (fun x V' a b c => hth x V' a b (hG.trans c)) _ i2 (fun x V' a b c => hel x V' a b (hG.trans c)))
 by_cases c7 : k = 7
 ·subst c7
  rw [if_neg (by decide), if_neg (by decide), if_neg (by decide), if_neg (by decide), if_neg (by decide), if_neg (by decide), if_pos rfl]
  exact nk_7 op v nm th el has p q1 q2 d1 d2 w s g mv av W h _ (fun V hE hG => again_any ⟨7, op, v, nm, th, el, has, p⟩ q1 q2 d1 d2 w s hx g mv av V hE _ i1 (fun x V' a b c => hth x V' a b (hG.trans c)))
 by_cases c8 : k = 8
 ·subst c8
  rw [if_neg (by decide), if_neg (by decide), if_neg (by decide), if_neg (by decide), if_neg (by decide), if_neg (by decide), if_neg (by decide), if_pos rfl]
  exact nk_8 op v nm th el has p q1 q2 d1 d2 w s g mv av W h _ (fun V hE hG => do_any ⟨8, op, v, nm, th, el, has, p⟩ q1 q2 d1 d2 w s hx g mv av V hE _ i1 (fun x V' a b c => hth x V' a b (hG.trans c)))
 by_cases c9 : k = 9
 ·subst c9
  rw [if_neg (by decide), if_neg (by decide), if_neg (by decide), if_neg (by decide), if_neg (by decide), if_neg (by decide), if_neg (by decide), if_neg (by decide)]
  exact nk_9 op v nm th el has p q1 q2 d1 d2 w s g mv av W h _ _ rfl (fun V hE hG => leave_any s p w g mv av V hE)
 omega
theorem body_of (at_ : En) (tl : List Ty) (names : List ByteArray) (q : QN at_ tl names) (l : List Nd) (hn : ∀ m ∈ l, NDE at_ tl names m) : BDE at_ tl names l := by
 intro v O i x g mv av W hO hOg hV hck hx h hL
 obtain ⟨p, c, rfl, hl, hp⟩ := hV.ex
 clear hV
 obtain ⟨w, s⟩ := x
 obtain ⟨W0, hW0⟩ : ∃ W0, W.alloc (.cells #[.bool s.dead, .int .i64 s.h, .string ⟨s.own.toArray⟩] 129) = W0 := ⟨_, rfl⟩
 obtain ⟨W1, hW1⟩ : ∃ W1, W0.alloc (.cells #[.bool false, .int .i64 0, .string { data := #[] }] 129) = W1 := ⟨_, rfl⟩
 have hs0 : W0.heap.size = W.heap.size + 1 := by rw [<- hW0]; simp
 have hB : Below W.heap.size W W1 := by rw [<- hW1, <- hW0]; exact ((Below.refl _ _).alloc (Nat.le_refl _) _).alloc (by simp) _
 have k1 : SB W1 W.heap.size s := by rw [<- hW1]; exact (Below.heap_alloc _ _ _ (by omega)).trans (by rw [<- hW0]; exact heap_alloc_new W _)
 have k2 : SB W1 W0.heap.size s0 := by rw [<- hW1]; exact heap_alloc_new W0 _
 have hE : EW W1 g mv av w := (hB.block g h.lt).trans h
 have hgl := h.lt
 have HS := hid (And.intro k1 (And.intro k2 (And.intro hE (And.intro hs0 hgl))))
 have HG := hid (Gw.of (g := g) hB)
 have HX := hid hx
 have HCK := hid hck
 have HR : Y.Hd (body (known at_ tl) l (w, s) = body (known at_ tl) (l.drop 0) (w, s)) := ⟨rfl⟩
 generalize hR : body (known at_ tl) l (w, s) = R at *
 clear hR k1 k2 hE hs0 hgl hB h hx hck
 unfold stc
 go_enter Tryz.func67, Tryz.ntmps67
 go_wp2
 clear hW0 hW1
 go_loopw [11] (fun ix wr => ∃ (k : Nat) (x : X), k <= l.length /\ ix = .int .i64 (k : Int) /\ XI x /\ SB wr W.heap.size x.2 /\ SB wr W0.heap.size s0 /\ EW wr g mv av x.1 /\ Gw g W wr /\ R = body (known at_ tl) (l.drop k) x /\ cks names (l.drop k) i = 0) (fun ix _ => l.length - (intOf ix).toNat)
 case atStart => exact ⟨0, (w, s), by omega, rfl, HX.out, HS.out.1, HS.out.2.1, HS.out.2.2.1, HG.out, HR.out, HCK.out⟩
 case round =>
  obtain ⟨k, x, hk, rfl, hx, hSB, hSR, hE, hG, hR, hc⟩ := hrel
  obtain ⟨w', s'⟩ := x
  by_cases hlt : k < l.length
  ·have i1 : (k : Int) < l.length := by omega
   have ea := List.getElem?_eq_getElem hlt
   have hd : l.drop k = l[k] :: l.drop (k + 1) := List.drop_eq_getElem_cons hlt
   have hm := hn l[k] (List.getElem_mem _)
   generalize l[k] = n at *
   obtain ⟨b, o, rfl, hOb, hN⟩ := hp k n ea
   obtain ⟨tv, ev, hcl, ht, he⟩ := hN.ex
   obtain ⟨q1, d1, rfl, _, _⟩ := ht.ex
   obtain ⟨q2, d2, rfl, _, _⟩ := he.ex
   have hbne : b ≠ g := fun e => hOg (e ▸ hOb)
   have kb := hG.block b (hO b hOb) hbne
   obtain ⟨g0, g1, g2, g3, g4, g5, g6, g7, g8⟩ := cells9 fun j x hx => (World.cell?_of_block (w := W) (a := ⟨b, o + k * 9 + j, none⟩) kb).trans (hcl j x hx)
   rw [hd, cks_cons] at hc
   have hc1 : ck names n i = 0 := by
    by_cases e : ck names n i = 0
    ·exact e
    ·rw [if_neg e] at hc; exact absurd hc e
   rw [if_pos hc1] at hc
   rw [hd, body_cons] at hR
   obtain ⟨y, hy⟩ : ∃ y, wr.alloc (.cells #[.int .i64 n.k, .int .i64 n.op, .int .u16 n.v, .string n.nm, .slice q1 n.th.length d1, .slice q2 n.el.length d2, .bool n.has, .int .i64 n.p.1, .int .i64 n.p.2] 30) = y := ⟨_, rfl⟩
   have zb : Below wr.heap.size wr y := by rw [<- hy]; exact (Below.refl _ _).alloc (Nat.le_refl _) _
   have vb : y.heap[wr.heap.size]? = some (.cells (ndc n (.slice q1 n.th.length d1) (.slice q2 n.el.length d2)).toArray 30 (0, 0)) := by rw [<- hy]; exact heap_alloc_new wr _
   have HS2 := hid (And.intro (hSB.below zb) (And.intro (hSR.below zb) (And.intro (hE.below zb) (hG.trans (Gw.of zb)))))
   obtain ⟨c0, c1, c2, c3, c4, c5, c6, c7, c8⟩ := nd_cells vb
   obtain ⟨x0, x1, x2⟩ := HS2.out.1.cells
   have hwn : wr.heap.size ≠ W.heap.size := by have := S.lt_of hSB; omega
   have hgne : W.heap.size ≠ g /\ W0.heap.size ≠ g /\ W0.heap.size ≠ W.heap.size := by have := HS.out.2.2.2.1; have := HS.out.2.2.2.2; omega
   have hcall := hm _ _ O i (w', s') g mv av y (fun j hj => Nat.lt_of_lt_of_le (hO j hj) HS2.out.2.2.2.size) hOg (nv_gw ht HS2.out.2.2.2 hO hOg) (nv_gw he HS2.out.2.2.2 hO hOg) hc1 hx HS2.out.2.2.1 (hL.gw HS2.out.2.2.2)
   have HINV := hid (node_inv (known at_ tl) (known_ti q.ti) n (w', s'))
   have HXx := hid hx
   have HRR := hid hR
   have HCC := hid hc
   have HNE := hid hgne
   have Hk := hid hk
   generalize hgn : node (known at_ tl) n (w', s') = GN at *
   clear hgn zb vb hbne kb hcl ht he hN hm hp hd ea hc1 hc hR hSB hSR hE hG hwn hx hk hgne
   obtain ⟨dd, hh1, oo1⟩ := s'
   unfold ndc stc at hcall
   simp only at hcall x0 x1 x2
   cases dd
   ·replace HRR : Y.Hd (R = match (generalizing := false) GN with | .error e => .error e | .ok y => body (known at_ tl) (l.drop (k + 1)) y) := ⟨HRR.out⟩
    go_wp2_with fail
    refine hcall.mono ?_
    intro e y1 hp
    clear hcall hy g0 g1 g2 g3 g4 g5 g6 g7 g8
    clear c0 c1 c2 c3 c4 c5 c6 c7 c8 x0 x1 x2
    cases GN with
    | error er =>
     obtain ⟨rfl, hG⟩ := hp
     refine ⟨rfl, ?_⟩
     rw [HRR.out]
     exact ⟨rfl, HS2.out.2.2.2.trans hG⟩
    | ok z =>
     obtain ⟨w2, s2⟩ := z
     obtain ⟨rfl, hE, hG⟩ := hp
     have hX2 := HINV.out _ HXx.out rfl
     replace HRR : Y.Hd (R = body (known at_ tl) (l.drop (k + 1)) (w2, s2)) := ⟨HRR.out⟩
     have hst : SB y1 W.heap.size ⟨false, hh1, oo1⟩ := hG.keep HS2.out.1 HNE.out.1
     have hsr : SB y1 W0.heap.size s0 := hG.keep HS2.out.2.1 HNE.out.2.1
     have HT : Y.Hd (SB (y1.setRow W.heap.size (stc s2).toArray) W.heap.size s2 /\ SB (y1.setRow W.heap.size (stc s2).toArray) W0.heap.size s0 /\ EW (y1.setRow W.heap.size (stc s2).toArray) g mv av w2 /\ Gw g W (y1.setRow W.heap.size (stc s2).toArray)) :=
      ⟨setRow_heap y1 W.heap.size _ _ _ _ hst, (setRow_other y1 W.heap.size _ _ HNE.out.2.2).trans hsr, (setRow_other y1 W.heap.size _ _ (Ne.symm HNE.out.1)).trans hE, (HS2.out.2.2.2.trans hG).setR W.heap.size _ (Nat.le_refl _)⟩
     unfold stc at HT
     clear hE hG hsr
     (try simp only)
     go_upto_region 7 with (refine wpList_store_row rfl 129 _ _ rfl W.heap.size _ rfl rfl 129 _ hst (by exact sizeS) (by rfl) (by simp [Value.oneCell']) ?_)
     clear hst
     generalize y1.setRow W.heap.size [.bool s2.dead, .int .i64 s2.h, .string ⟨s2.own.toArray⟩].toArray = y2 at *
     go_wp2
     go_roundw
     case rel =>
      first
       | exact ⟨k + 1, (w2, s2), by omega, by go_num, hX2.1, HT.out.1, HT.out.2.1, HT.out.2.2.1, HT.out.2.2.2, HRR.out, HCC.out⟩
       | ((repeat apply Exists.intro); refine ⟨⟨k + 1, (w2, s2), by omega, ?_, hX2.1, HT.out.1, HT.out.2.1, HT.out.2.2.1, HT.out.2.2.2, HRR.out, HCC.out⟩, rfl⟩; go_num)
     case measure => simp [intOf]; omega
   ·replace HRR : Y.Hd (R = .ok (w', ⟨true, hh1, oo1⟩)) := ⟨HRR.out⟩
    clear hcall
    have hst := HS2.out.2.1
    have HT : Y.Hd (SB (y.setRow W0.heap.size (stc ⟨true, hh1, oo1⟩).toArray) W0.heap.size ⟨true, hh1, oo1⟩ /\ EW (y.setRow W0.heap.size (stc ⟨true, hh1, oo1⟩).toArray) g mv av w' /\ Gw g W (y.setRow W0.heap.size (stc ⟨true, hh1, oo1⟩).toArray)) :=
     ⟨setRow_heap y W0.heap.size _ _ _ _ hst, (setRow_other y W0.heap.size _ _ (Ne.symm HNE.out.2.1)).trans HS2.out.2.2.1, HS2.out.2.2.2.setR W0.heap.size _ (by have := HS.out.2.2.2.1; omega)⟩
    unfold stc at HT
    simp only at HT
    go_wp2_with (refine wpList_store_row rfl 129 _ _ rfl W0.heap.size _ rfl rfl 129 _ hst (by exact sizeS) (by rfl) (by simp [Value.oneCell']) ?_)
    refine bodyPost_ret (st_end 6 rfl rfl HT.out.1) rfl ?_
    rw [HRR.out]
    exact ⟨rfl, HT.out.2.1, HT.out.2.2⟩
  ·have i1 : ¬ (k : Int) < l.length := by omega
   rw [List.drop_of_length_le (by omega), body_nil] at hR
   have HRR := hid hR
   have hst := hSR
   have HT : Y.Hd (SB (wr.setRow W0.heap.size (stc s').toArray) W0.heap.size s' /\ EW (wr.setRow W0.heap.size (stc s').toArray) g mv av w' /\ Gw g W (wr.setRow W0.heap.size (stc s').toArray)) :=
    ⟨setRow_heap wr W0.heap.size _ _ _ _ hst, (setRow_other wr W0.heap.size _ _ (by have := HS.out.2.2.2.1; have := HS.out.2.2.2.2; omega)).trans hE, hG.setR W0.heap.size _ (by have := HS.out.2.2.2.1; omega)⟩
   obtain ⟨x0, x1, x2⟩ := hSB.cells
   unfold stc at HT
   (try simp only at HT)
   clear hR hE hG hc hx
   go_wp2_with (refine wpList_store_row rfl 129 _ _ rfl W0.heap.size _ rfl rfl 129 _ hst (by exact sizeS) (by rfl) (by simp [Value.oneCell']) ?_)
   refine bodyPost_ret (st_end 6 rfl rfl HT.out.1) rfl ?_
   rw [HRR.out]
   exact ⟨rfl, HT.out.2.1, HT.out.2.2⟩
theorem node_any (at_ : En) (tl : List Ty) (names : List ByteArray) (q : QN at_ tl names) (n : Nd) : NDE at_ tl names n :=
 Nd.ind (fun n h1 h2 => node_of at_ tl names q n (body_of at_ tl names q n.th h1) (body_of at_ tl names q n.el h2)) n
theorem body_any (at_ : En) (tl : List Ty) (names : List ByteArray) (q : QN at_ tl names) (l : List Nd) : BDE at_ tl names l := body_of at_ tl names q l fun m _ => node_any at_ tl names q m
end Go.Proofs.YtlilefhmohkfkaaGreatDoor.E
