import Derived.Test.YtlilefhmohkfkaaGreatDoorEInv
namespace Go.Proofs.YtlilefhmohkfkaaGreatDoor.E
open Go.RowKit
open Go.Proofs
open Go.Proofs.YtlilefhmohkfkaaGreatDoor.Y (Nd Df Ps ndc dfc hid)
set_option linter.unusedVariables false
set_option linter.unusedSimpArgs false
set_option maxHeartbeats 2000000
set_option maxRecDepth 100000
theorem while_any (n : Nd) (q1 q2 : Option Addr) (d1 d2 : Nat) (w : Wk) (s : St) (hx : XI (w, s)) (g : Nat) (mv av : Value) (W : World) (h : EW W g mv av w) (th : X -> Re) (i_th : Inv th) (h_th : (∀ (x : X) (V : World), XI x -> EW V g mv av x.1 -> Gw g W V -> Calls Tryz.prog 67 #[.pointer (some ⟨g, 0, none⟩), .slice q1 n.th.length d1, .agg (stc x.2).toArray] V (EO V g mv av (fun s => .agg (stc s).toArray) (th x)))) (el : X -> Re) (i_el : Inv el) (h_el : (∀ (x : X) (V : World), XI x -> EW V g mv av x.1 -> Gw g W V -> Calls Tryz.prog 67 #[.pointer (some ⟨g, 0, none⟩), .slice q2 n.el.length d2, .agg (stc x.2).toArray] V (EO V g mv av (fun s => .agg (stc s).toArray) (el x)))) :
  Calls Tryz.prog 104 #[.pointer (some ⟨g, 0, none⟩), .agg #[.int .i64 n.k, .int .i64 n.op, .int .u16 n.v, .string n.nm, .slice q1 n.th.length d1, .slice q2 n.el.length d2, .bool n.has, .int .i64 n.p.1, .int .i64 n.p.2], .agg (stc s).toArray] W (EO W g mv av (fun s => .agg (stc s).toArray) (while_ th el n.p (w, s))) := by
 obtain ⟨W0, W1, W2, hW0, hW1, hW2, hB, hA, hF⟩ := box_nsr n q1 q2 d1 d2 s g mv av w W h
 have HA := hid hA
 have HF := hid hF
 have HG := hid (Gw.of (g := g) hB)
 have HXI := hid hx
 have H_th := hid h_th
 have I_th := hid i_th
 have H_el := hid h_el
 have I_el := hid i_el
 clear hA hB hF h hx h_th i_th h_el i_el
 have HR : Y.Hd (while_ th el n.p (w, s) = match th (w, s) with | .error e => .error e | .ok a => if a.2.dead then .ok a else (match step a 1 0 n.p with | .error e => .error e | .ok b => (match el b with | .error e => .error e | .ok c => (match back c.2 s n.p with | .error e => .error e | .ok _ => .ok (c.1, b.2))))) := ⟨rfl⟩
 generalize while_ th el n.p (w, s) = R at *
 obtain ⟨c0, c1, c2, c3, c4, c5, c6, c7, c8⟩ := nd_cells HF.out.1
 obtain ⟨x0, x1, x2⟩ := HF.out.2.1.cells
 unfold stc
 go_enter Tryz.func104, Tryz.ntmps104
 have hcl := H_th.out (w, s) W2 HXI.out HF.out.2.2.2 HG.out
 unfold stc at hcl
 generalize hgc : th (w, s) = A at *
 have HcA := hid hgc
 clear hgc
 go_wp2_with fail
 refine hcl.mono ?_
 intro e y1 hp
 clear hcl hW0 hW1 hW2
 clear c0 c1 c2 c3 c4 c5 c6 c7 c8 x0 x1 x2
 cases A with
 | error er =>
  obtain ⟨rfl, hG⟩ := hp
  refine ⟨rfl, ?_⟩
  rw [HR.out]
  exact ⟨rfl, HG.out.trans hG⟩
 | ok y =>
  obtain ⟨k1, s1⟩ := y
  obtain ⟨rfl, hE, hG⟩ := hp
  have HF1 := hid (HF.out.gw HA.out hG hE)
  have HG1 := hid (HG.out.trans hG)
  clear hE hG
  (try simp only)
  have HX1 := hid (I_th.out _ _ HXI.out HcA.out).1
  replace HR : Y.Hd (R = if s1.dead then .ok (k1, s1) else (match step (k1, s1) 1 0 n.p with | .error e => .error e | .ok b => (match el b with | .error e => .error e | .ok c => (match back c.2 s n.p with | .error e => .error e | .ok _ => .ok (c.1, b.2))))) := ⟨HR.out⟩
  obtain ⟨dd, h1, o1⟩ := s1
  cases dd
  ·
   replace HR : Y.Hd (R = match step (k1, (⟨false, h1, o1⟩ : St)) 1 0 n.p with | .error e => .error e | .ok b => (match el b with | .error e => .error e | .ok c => (match back c.2 s n.p with | .error e => .error e | .ok _ => .ok (c.1, b.2)))) := ⟨HR.out⟩
   obtain ⟨y2, hy2⟩ : ∃ y2, y1.alloc (.cells #[.bool false, .int .i64 h1, .string ⟨o1.toArray⟩] 129) = y2 := ⟨_, rfl⟩
   have zb : Below y1.heap.size y1 y2 := by rw [<- hy2]; exact (Below.refl _ _).alloc (Nat.le_refl _) _
   have HB2 : Y.Hd (SB y2 y1.heap.size ⟨false, h1, o1⟩) := ⟨by rw [<- hy2]; exact heap_alloc_new y1 _⟩
   have HF2 := hid (HF1.out.below zb)
   have HG2 := hid (HG1.out.trans (Gw.of zb))
   have hbg : y1.heap.size ≠ g := by have h1 := HA.out.lt; have h2 := HG1.out.size; omega
   have hbn : y1.heap.size ≠ W.heap.size /\ y1.heap.size ≠ W0.heap.size /\ y1.heap.size ≠ W1.heap.size := ⟨by have := S.lt_of HF1.out.1; omega, by have := S.lt_of HF1.out.2.1; omega, by have := S.lt_of HF1.out.2.2.1; omega⟩
   have HNb := hid (And.intro hbg hbn)
   clear zb hbg hbn
   obtain ⟨c0, c1, c2, c3, c4, c5, c6, c7, c8⟩ := nd_cells HF2.out.1
   obtain ⟨x0, x1, x2⟩ := HF2.out.2.1.cells
   obtain ⟨b0, b1, b2⟩ := HB2.out.cells
   simp only at b0 b1 b2
   (try unfold stc)
   (try simp only)
   have hcl := step_any (k1, ⟨false, h1, o1⟩) 1 0 n.p HX1.out.hh (by decide) (by decide) g mv av y2 HF2.out.2.2.2
   unfold stc at hcl
   generalize hgc : step (k1, ⟨false, h1, o1⟩) 1 0 n.p = B at *
   have HcB := hid hgc
   clear hgc
   go_wp2_with fail
   refine hcl.mono ?_
   intro e y3 hp
   clear hcl hy2 b0 b1 b2
   clear c0 c1 c2 c3 c4 c5 c6 c7 c8 x0 x1 x2
   cases B with
   | error er =>
    obtain ⟨rfl, hG⟩ := hp
    refine ⟨rfl, ?_⟩
    rw [HR.out]
    exact ⟨rfl, HG2.out.trans hG⟩
   | ok y =>
    obtain ⟨k2, s2⟩ := y
    obtain ⟨rfl, hE, hG⟩ := hp
    have HF3 := hid (HF2.out.gw HA.out hG hE)
    have HG3 := hid (HG2.out.trans hG)
    have HB3 : Y.Hd (SB y3 y1.heap.size ⟨false, h1, o1⟩) := ⟨hG.keep HB2.out HNb.out.1⟩
    clear hE hG
    (try simp only)
    have HX2 := hid (step_inv 1 0 n.p (by decide) (by decide) _ _ HX1.out HcB.out).1
    replace HR : Y.Hd (R = match el (k2, s2) with | .error e => .error e | .ok c => (match back c.2 s n.p with | .error e => .error e | .ok _ => .ok (c.1, s2))) := ⟨HR.out⟩
    have hst := HB3.out
    have HB4 : Y.Hd (SB (y3.setRow y1.heap.size (stc s2).toArray) y1.heap.size s2) := ⟨setRow_heap y3 y1.heap.size _ _ _ _ HB3.out⟩
    have HF4 : Y.Hd (FR (y3.setRow y1.heap.size (stc s2).toArray) W.heap.size W0.heap.size W1.heap.size g (ndc n (.slice q1 n.th.length d1) (.slice q2 n.el.length d2)) s mv av k2) := ⟨(setRow_other y3 y1.heap.size _ _ (Ne.symm HNb.out.2.1)).trans HF3.out.1, (setRow_other y3 y1.heap.size _ _ (Ne.symm HNb.out.2.2.1)).trans HF3.out.2.1, (setRow_other y3 y1.heap.size _ _ (Ne.symm HNb.out.2.2.2)).trans HF3.out.2.2.1, (setRow_other y3 y1.heap.size _ _ (Ne.symm HNb.out.1)).trans HF3.out.2.2.2⟩
    have HG4 : Y.Hd (Gw g W (y3.setRow y1.heap.size (stc s2).toArray)) := ⟨HG3.out.setR y1.heap.size _ (by have := HG1.out.size; omega)⟩
    unfold stc at HB4 HF4 HG4
    (try unfold stc)
    go_upto_region 5 with (refine wpList_store_row rfl 129 _ _ rfl y1.heap.size _ rfl rfl 129 _ hst (by exact sizeS) (by rfl) (by simp [Value.oneCell']) ?_)
    clear hst
    generalize y3.setRow y1.heap.size [.bool s2.dead, .int .i64 s2.h, .string ⟨s2.own.toArray⟩].toArray = y4 at *
    have HS : Y.Hd (∀ (wz : World) (kk : Wk), FR wz W.heap.size W0.heap.size W1.heap.size g (ndc n (.slice q1 n.th.length d1) (.slice q2 n.el.length d2)) s mv av kk -> SB wz y1.heap.size s2 -> (fun wz : World => wz.cell? ⟨W.heap.size, 5, none⟩ = some (.slice q2 n.el.length d2) /\ wz.cell? ⟨W.heap.size, 7, none⟩ = some (.int .i64 n.p.1) /\ wz.cell? ⟨W.heap.size, 8, none⟩ = some (.int .i64 n.p.2) /\ wz.cell? ⟨W0.heap.size, 0, none⟩ = some (.bool s.dead) /\ wz.cell? ⟨W0.heap.size, 1, none⟩ = some (.int .i64 s.h) /\ wz.cell? ⟨W0.heap.size, 2, none⟩ = some (.string ⟨s.own.toArray⟩) /\ wz.cell? ⟨y1.heap.size, 0, none⟩ = some (.bool s2.dead) /\ wz.cell? ⟨y1.heap.size, 1, none⟩ = some (.int .i64 s2.h) /\ wz.cell? ⟨y1.heap.size, 2, none⟩ = some (.string ⟨s2.own.toArray⟩)) wz) := ⟨fun wz kk hf hbb => by
     obtain ⟨_, _, _, _, _, c5, _, c7, c8⟩ := nd_cells hf.1
     obtain ⟨x0, x1, x2⟩ := hf.2.1.cells
     obtain ⟨b0, b1, b2⟩ := hbb.cells
     exact ⟨c5, c7, c8, x0, x1, x2, b0, b1, b2⟩⟩
    have HFd := hid (HF4.out.below (Below.refl _ y4).drew)
    have HGd := hid (HG4.out.trans (Gw.of (Below.refl _ y4).drew))
    have HBd : Y.Hd (SB y4.drew y1.heap.size s2) := ⟨HB4.out⟩
    refine wp_region_drop [] (S := fun wz : World => wz.cell? ⟨W.heap.size, 5, none⟩ = some (.slice q2 n.el.length d2) /\ wz.cell? ⟨W.heap.size, 7, none⟩ = some (.int .i64 n.p.1) /\ wz.cell? ⟨W.heap.size, 8, none⟩ = some (.int .i64 n.p.2) /\ wz.cell? ⟨W0.heap.size, 0, none⟩ = some (.bool s.dead) /\ wz.cell? ⟨W0.heap.size, 1, none⟩ = some (.int .i64 s.h) /\ wz.cell? ⟨W0.heap.size, 2, none⟩ = some (.string ⟨s.own.toArray⟩) /\ wz.cell? ⟨y1.heap.size, 0, none⟩ = some (.bool s2.dead) /\ wz.cell? ⟨y1.heap.size, 1, none⟩ = some (.int .i64 s2.h) /\ wz.cell? ⟨y1.heap.size, 2, none⟩ = some (.string ⟨s2.own.toArray⟩)) (by kernel_rfl) (HS.out _ _ HFd.out HBd.out) (fun hHeld => ?_)
    generalize y4.drew = y5 at *
    refine wpD_takeP (i := 0) (v := ?_) rfl (by kernel_rfl) (by kernel_rfl) (by kernel_rfl) (by kernel_rfl) (fun c a w h => h) (Or.inl ⟨by rfl, ?_⟩) (fun _ => hHeld) ?_
    rotate_left
    ·(intro w hSw; clear hSw; go_simp; try with_reducible rfl)
    simp only [Act.put, List.getElem_toArray, List.getElem_cons_zero, List.getElem_cons_succ, List.setIfInBounds_toArray, List.set_cons_zero, List.set_cons_succ]
    refine wpD_takeP (i := 1) (v := ?_) rfl (by kernel_rfl) (by kernel_rfl) (by kernel_rfl) (by kernel_rfl) (fun c a w h => h) (Or.inl ⟨by rfl, ?_⟩) (fun _ => hHeld) ?_
    rotate_left
    ·(intro w hSw; clear hSw; go_simp; try with_reducible rfl)
    simp only [Act.put, List.getElem_toArray, List.getElem_cons_zero, List.getElem_cons_succ, List.setIfInBounds_toArray, List.set_cons_zero, List.set_cons_succ]
    refine wpD_takeT (i := 2) (v := ?_) rfl (by kernel_rfl) (by kernel_rfl) (by kernel_rfl) (by kernel_rfl) (by kernel_rfl) (by kernel_rfl) (fun c a w h => h) (Or.inl ⟨by rfl, ?_⟩) hHeld ?_
    rotate_left
    ·(intro w hSw; (try dsimp only at hSw); go_simp; try with_reducible rfl)
    simp only [Act.put, List.getElem_toArray, List.getElem_cons_zero, List.getElem_cons_succ, List.setIfInBounds_toArray, List.set_cons_zero, List.set_cons_succ]
    refine wpD_takeT (i := 3) (v := ?_) rfl (by kernel_rfl) (by kernel_rfl) (by kernel_rfl) (by kernel_rfl) (by kernel_rfl) (by kernel_rfl) (fun c a w h => h) (Or.inl ⟨by rfl, ?_⟩) hHeld ?_
    rotate_left
    ·(intro w hSw; (try dsimp only at hSw); go_simp; try with_reducible rfl)
    simp only [Act.put, List.getElem_toArray, List.getElem_cons_zero, List.getElem_cons_succ, List.setIfInBounds_toArray, List.set_cons_zero, List.set_cons_succ]
    refine wpD_takeT (i := 5) (v := ?_) rfl (by kernel_rfl) (by kernel_rfl) (by kernel_rfl) (by kernel_rfl) (by kernel_rfl) (by kernel_rfl) (fun c a w h => h) (Or.inl ⟨by rfl, ?_⟩) hHeld ?_
    rotate_left
    ·(intro w hSw; (try dsimp only at hSw); go_simp; try with_reducible rfl)
    simp only [Act.put, List.getElem_toArray, List.getElem_cons_zero, List.getElem_cons_succ, List.setIfInBounds_toArray, List.set_cons_zero, List.set_cons_succ]
    refine wpD_takeP (i := 6) (v := ?_) rfl (by kernel_rfl) (by kernel_rfl) (by kernel_rfl) (by kernel_rfl) (fun c a w h => h) (Or.inl ⟨by rfl, ?_⟩) (fun _ => hHeld) ?_
    rotate_left
    ·(intro w hSw; clear hSw; go_simp; try with_reducible rfl)
    simp only [Act.put, List.getElem_toArray, List.getElem_cons_zero, List.getElem_cons_succ, List.setIfInBounds_toArray, List.set_cons_zero, List.set_cons_succ]
    refine wpD_takeT (i := 7) (v := ?_) rfl (by kernel_rfl) (by kernel_rfl) (by kernel_rfl) (by kernel_rfl) (by kernel_rfl) (by kernel_rfl) (fun c a w h => h) (Or.inl ⟨by rfl, ?_⟩) hHeld ?_
    rotate_left
    ·(intro w hSw; (try dsimp only at hSw); go_simp; try with_reducible rfl)
    simp only [Act.put, List.getElem_toArray, List.getElem_cons_zero, List.getElem_cons_succ, List.setIfInBounds_toArray, List.set_cons_zero, List.set_cons_succ]
    refine wpD_ready (rs := [4]) (by kernel_rfl) (by simp) ?_
    refine AllD.cons rfl (fun K hK => ?_) AllD.nil
    go_simp
    have hcl := H_el.out (k2, s2) y5 HX2.out HFd.out.2.2.2 HGd.out
    unfold stc at hcl
    generalize hgc : el (k2, s2) = C at *
    have HcC := hid hgc
    clear hgc
    refine hcl.mono ?_
    intro e y6 hp
    clear hcl
    cases C with
    | error er =>
     obtain ⟨rfl, hG⟩ := hp
     refine ⟨rfl, ?_⟩
     rw [HR.out]
     exact ⟨rfl, HGd.out.trans hG⟩
    | ok y =>
     obtain ⟨k3, s3⟩ := y
     obtain ⟨rfl, hE, hG⟩ := hp
     have HF6 := hid (HFd.out.gw HA.out hG hE)
     have HG6 := hid (HGd.out.trans hG)
     have HB6 : Y.Hd (SB y6 y1.heap.size s2) := ⟨hG.keep HBd.out HNb.out.1⟩
     clear hE hG
     (try simp only)
     replace HR : Y.Hd (R = match back s3 s n.p with | .error e => .error e | .ok _ => .ok (k3, s2)) := ⟨HR.out⟩
     refine hK.out _ _ (HS.out _ _ HF6.out HB6.out) (fun hHeld => ?_)
     clear hK K
     try simp only [Act.put, List.getElem_toArray, List.getElem_cons_zero, List.getElem_cons_succ, List.setIfInBounds_toArray, List.set_cons_zero, List.set_cons_succ]
     refine wpD_ready (rs := [8]) (by kernel_rfl) (by simp) ?_
     refine AllD.cons rfl (fun K hK => ?_) AllD.nil
     go_simp
     have hbk := back_any s3 s n.p y6
     unfold stc at hbk
     generalize hgk : back s3 s n.p = GK at *
     clear hgk
     refine hbk.mono ?_
     intro e y7 hp
     clear hbk
     obtain ⟨hp, hb⟩ := hp
     cases GK with
     | error er =>
      obtain rfl := hp
      refine ⟨rfl, ?_⟩
      rw [HR.out]
      exact ⟨rfl, HG6.out.trans (Gw.of hb)⟩
     | ok u =>
      obtain rfl := hp
      replace HR : Y.Hd (R = .ok (k3, s2)) := ⟨HR.out⟩
      have HF7 := hid (HF6.out.below hb)
      have HG7 := hid (HG6.out.trans (Gw.of hb))
      have HB7 := hid (HB6.out.below hb)
      clear hb
      refine hK.out _ _ (HS.out _ _ HF7.out HB7.out) (fun hHeld => ?_)
      clear hK K hHeld
      try simp only [Act.put, List.getElem_toArray, List.getElem_cons_zero, List.getElem_cons_succ, List.setIfInBounds_toArray, List.set_cons_zero, List.set_cons_succ]
      refine wpD_done (by kernel_rfl) ?_ _
      obtain ⟨b0, b1, b2⟩ := HB7.out.cells
      have k6 := HF7.out.res HA.out HG7.out s2
      have hst := HF7.out.2.2.1
      unfold stc at k6
      (try simp only at k6)
      have H6 := hid k6
      clear k6
      go_wp2_with (refine wpList_store_row rfl 129 _ _ rfl W1.heap.size _ rfl rfl 129 _ hst (by exact sizeS) (by rfl) (by simp [Value.oneCell']) ?_)
      refine bodyPost_ret (st_end 6 rfl rfl H6.out.1) rfl ?_
      rw [HR.out]
      exact ⟨rfl, H6.out.2.1, H6.out.2.2⟩
  ·
   replace HR : Y.Hd (R = .ok (k1, ⟨true, h1, o1⟩)) := ⟨HR.out⟩
   obtain ⟨y2, hy2⟩ : ∃ y2, y1.alloc (.cells #[.bool true, .int .i64 h1, .string ⟨o1.toArray⟩] 129) = y2 := ⟨_, rfl⟩
   have zb : Below y1.heap.size y1 y2 := by rw [<- hy2]; exact (Below.refl _ _).alloc (Nat.le_refl _) _
   have HB2 : Y.Hd (SB y2 y1.heap.size ⟨true, h1, o1⟩) := ⟨by rw [<- hy2]; exact heap_alloc_new y1 _⟩
   have HF2 := hid (HF1.out.below zb)
   have HG2 := hid (HG1.out.trans (Gw.of zb))
   have hbg : y1.heap.size ≠ g := by have h1 := HA.out.lt; have h2 := HG1.out.size; omega
   have hbn : y1.heap.size ≠ W.heap.size /\ y1.heap.size ≠ W0.heap.size /\ y1.heap.size ≠ W1.heap.size := ⟨by have := S.lt_of HF1.out.1; omega, by have := S.lt_of HF1.out.2.1; omega, by have := S.lt_of HF1.out.2.2.1; omega⟩
   have HNb := hid (And.intro hbg hbn)
   clear zb hbg hbn
   obtain ⟨c0, c1, c2, c3, c4, c5, c6, c7, c8⟩ := nd_cells HF2.out.1
   obtain ⟨x0, x1, x2⟩ := HF2.out.2.1.cells
   obtain ⟨b0, b1, b2⟩ := HB2.out.cells
   simp only at b0 b1 b2
   (try unfold stc)
   (try simp only)
   have k6 := HF2.out.res HA.out HG2.out ⟨true, h1, o1⟩
   have hst := HF2.out.2.2.1
   unfold stc at k6
   (try simp only at k6)
   have H6 := hid k6
   clear k6
   go_wp2_with (refine wpList_store_row rfl 129 _ _ rfl W1.heap.size _ rfl rfl 129 _ hst (by exact sizeS) (by rfl) (by simp [Value.oneCell']) ?_)
   refine bodyPost_ret (st_end 6 rfl rfl H6.out.1) rfl ?_
   rw [HR.out]
   exact ⟨rfl, H6.out.2.1, H6.out.2.2⟩
end Go.Proofs.YtlilefhmohkfkaaGreatDoor.E
