import Derived.Test.YtlilefhmohkfkaaGreatDoorEDrop
import Derived.Test.YtlilefhmohkfkaaGreatDoorEStrchoice
namespace Go.Proofs.YtlilefhmohkfkaaGreatDoor.E
open Go.RowKit
open Go.Proofs
open Go.Proofs.YtlilefhmohkfkaaGreatDoor.Y (Nd Df Ps ndc dfc hid)
set_option linter.unusedVariables false
set_option linter.unusedSimpArgs false
set_option maxHeartbeats 2000000
set_option maxRecDepth 100000
open Y (NV cells6)
open R (En cks)
theorem sizeH : (Tryz.prog.info? 45).map (·.size) = some 5 := by kernel_rfl
def shc (i o d r : Int) (nv : Bool) : List Value := [.int .i64 i, .int .i64 o, .int .i64 d, .int .i64 r, .bool nv]
def HB5 (W : World) (b : Nat) (i o d r : Int) (nv : Bool) : Prop := W.heap[b]? = some (.cells (shc i o d r nv).toArray 45 (0, 0))
theorem HB5.cells {W : World} {b : Nat} {i o d r : Int} {nv : Bool} (h : HB5 W b i o d r nv) : W.cell? ⟨b, 0, none⟩ = some (.int .i64 i) /\ W.cell? ⟨b, 1, none⟩ = some (.int .i64 o) /\ W.cell? ⟨b, 2, none⟩ = some (.int .i64 d) /\ W.cell? ⟨b, 3, none⟩ = some (.int .i64 r) /\ W.cell? ⟨b, 4, none⟩ = some (.bool nv) :=
 ⟨S.cell_of W b 0 _ 45 _ h rfl, S.cell_of W b 1 _ 45 _ h rfl, S.cell_of W b 2 _ 45 _ h rfl, S.cell_of W b 3 _ 45 _ h rfl, S.cell_of W b 4 _ 45 _ h rfl⟩
theorem sh_end {fn : Func} {T : Array Value} {b : Nat} {i o d r : Int} {nv : Bool} {W : World} (u : Tmp) (hf : fn.results = #[.cell u 45]) (ht : T.getD u undef = .pointer (some ⟨b, 0, none⟩)) (h : HB5 W b i o d r nv) : (results fn T).run Tryz.prog W = .ok (.agg (shc i o d r nv).toArray) W := by
 have e : (results fn T).run Tryz.prog W = ((asAddr (T.getD u undef)).run Tryz.prog W).andThen fun a w₁ => (loadVar 45 a).run Tryz.prog w₁ := by
  simp only [results, hf]
  simp [Sem.run_bind, Result.andThen]
 rw [e, ht]
 simp [asAddr, run_loadVar_row W b _ 45 _ _ _ h Tryz.underlying45 rfl sizeH]
def WO (W : World) (g : Nat) (r : Except Er Wk) (e : Ending) (w' : World) : Prop :=
 match r with
 | .error er => e = .panicked (flt er) /\ Gw g W w'
 | .ok w => e = .returned (.agg (shc w.i (if w.nv then 0 else w.i + w.lf) w.d w.r w.nv).toArray) /\ Gw g W w'
theorem df_cells {w : World} {b : Nat} {d : Df} {bv : Value} (h : w.heap[b]? = some (.cells (dfc d bv).toArray 27 (0, 0))) : w.cell? ⟨b, 0, none⟩ = some (.int .i64 d.k) /\ w.cell? ⟨b, 1, none⟩ = some (.string d.nm) /\ w.cell? ⟨b, 2, none⟩ = some (.int .u16 d.v) /\ w.cell? ⟨b, 3, none⟩ = some bv /\ w.cell? ⟨b, 4, none⟩ = some (.int .i64 d.p.1) /\ w.cell? ⟨b, 5, none⟩ = some (.int .i64 d.p.2) :=
 ⟨S.cell_of w b 0 _ 27 _ h rfl, S.cell_of w b 1 _ 27 _ h rfl, S.cell_of w b 2 _ 27 _ h rfl, S.cell_of w b 3 _ 27 _ h rfl, S.cell_of w b 4 _ 27 _ h rfl, S.cell_of w b 5 _ 27 _ h rfl⟩
theorem word_any (at_ : En) (tl : List Ty) (names : List ByteArray) (qn : QN at_ tl names) (d : Df) (bv : Value) (O : Nat -> Prop) (g : Nat) (mv av : Value) (W : World) (hO : ∀ j, O j -> j < W.heap.size) (hOg : ¬ O g) (hV : NV W O bv d.body) (hck : cks names d.body (0, false) = 0) (h : EW W g mv av w0) (hL : LU W g mv av at_ tl) :
  Calls Tryz.prog 57 #[.pointer (some ⟨g, 0, none⟩), .agg (dfc d bv).toArray] W (WO W g (word (known at_ tl) d)) := by
 obtain ⟨q, cq, rfl, _, _⟩ := hV.ex
 obtain ⟨W0, hW0⟩ : ∃ W0, W.alloc (.cells #[.int .i64 d.k, .string d.nm, .int .u16 d.v, .slice q d.body.length cq, .int .i64 d.p.1, .int .i64 d.p.2] 27) = W0 := ⟨_, rfl⟩
 obtain ⟨W1, hW1⟩ : ∃ W1, W0.alloc (.cells #[.int .i64 0, .int .i64 0, .int .i64 0, .int .i64 0, .bool false] 45) = W1 := ⟨_, rfl⟩
 have hs0 : W0.heap.size = W.heap.size + 1 := by rw [<- hW0]; simp
 have hB : Below W.heap.size W W1 := by rw [<- hW1, <- hW0]; exact ((Below.refl _ _).alloc (Nat.le_refl _) _).alloc (by simp) _
 have k1 : W1.heap[W.heap.size]? = some (.cells (dfc d (.slice q d.body.length cq)).toArray 27 (0, 0)) := by rw [<- hW1]; exact (Below.heap_alloc _ _ _ (by omega)).trans (by rw [<- hW0]; exact heap_alloc_new W _)
 have k2 : HB5 W1 W0.heap.size 0 0 0 0 false := by rw [<- hW1]; exact heap_alloc_new W0 _
 have hE : EW W1 g mv av w0 := (hB.block g h.lt).trans h
 have hgl := h.lt
 have n1 : W.heap.size ≠ g /\ W0.heap.size ≠ g /\ W0.heap.size ≠ W.heap.size := by omega
 have hG : Gw g W W1 := Gw.of hB
 have hcl := body_any at_ tl names qn d.body _ O (0, false) (w0, s0) g mv av W1 (fun j hj => Nat.lt_of_lt_of_le (hO j hj) hG.size) hOg (nv_gw hV hG hO hOg) hck xi_start hE (hL.gw hG)
 have HINV := hid (body_inv (known at_ tl) (known_ti qn.ti) d.body (w0, s0))
 have HS := hid (And.intro k1 (And.intro k2 (And.intro hG n1)))
 have HSZ := hid hs0
 have HR : Y.Hd (word (known at_ tl) d = match body (known at_ tl) d.body (w0, s0) with | .error e => .error e | .ok x => (match (if x.2.dead then .ok x.1 else leave x.2 d.p x.1) with | .error e => .error e | .ok w => if w.nv = true \/ w.i + w.lf <= 256 then .ok w else .error (153, d.p))) := ⟨rfl⟩
 generalize word (known at_ tl) d = R at *
 generalize hgb : body (known at_ tl) d.body (w0, s0) = G at *
 obtain ⟨c0, c1, c2, c3, c4, c5⟩ := df_cells k1
 clear hgb k1 k2 hE hG hB h hL hV hO hOg hck n1 hs0 hgl
 unfold stc s0 at hcl
 simp only at hcl
 unfold dfc
 go_enter Tryz.func57, Tryz.ntmps57
 go_wp2_with fail
 refine hcl.mono ?_
 intro e y1 hp
 clear hcl hW0 hW1 c0 c1 c2 c3 c4 c5
 cases G with
 | error er =>
  obtain ⟨rfl, hG⟩ := hp
  refine ⟨rfl, ?_⟩
  rw [HR.out]
  exact ⟨rfl, HS.out.2.2.1.trans hG⟩
 | ok x =>
  obtain ⟨w1, s1⟩ := x
  obtain ⟨rfl, hE, hG⟩ := hp
  have hX1 := (HINV.out _ xi_start rfl).1
  have HX := hid hX1
  replace HR : Y.Hd (R = match (if s1.dead then (.ok w1 : Except Er Wk) else leave s1 d.p w1) with | .error e => .error e | .ok w => if w.nv = true \/ w.i + w.lf <= 256 then .ok w else .error (153, d.p)) := ⟨HR.out⟩
  have k1 := hG.keep HS.out.1 HS.out.2.2.2.1
  have k2 : HB5 y1 W0.heap.size 0 0 0 0 false := hG.keep HS.out.2.1 HS.out.2.2.2.2.1
  have hG1 := HS.out.2.2.1.trans hG
  obtain ⟨y2, hy2⟩ : ∃ y2, y1.alloc (.cells #[.bool s1.dead, .int .i64 s1.h, .string ⟨s1.own.toArray⟩] 129) = y2 := ⟨_, rfl⟩
  have zb : Below y1.heap.size y1 y2 := by rw [<- hy2]; exact (Below.refl _ _).alloc (Nat.le_refl _) _
  have hb : SB y2 y1.heap.size s1 := by rw [<- hy2]; exact heap_alloc_new y1 _
  have HS2 : Y.Hd (y2.heap[W.heap.size]? = some (.cells (dfc d (.slice q d.body.length cq)).toArray 27 (0, 0)) /\ HB5 y2 W0.heap.size 0 0 0 0 false /\ EW y2 g mv av w1 /\ Gw g W y2) := ⟨(zb.block _ (S.lt_of k1)).trans k1, (zb.block _ (S.lt_of k2)).trans k2, hE.below zb, hG1.trans (Gw.of zb)⟩
  obtain ⟨b0, b1, b2⟩ := hb.cells
  clear k1 k2 hG1 zb hE hG hX1 HINV
  (try simp only)
  obtain ⟨dd, h1, o1⟩ := s1
  cases dd
  ·replace HR : Y.Hd (R = match leave ⟨false, h1, o1⟩ d.p w1 with | .error e => .error e | .ok w => if w.nv = true \/ w.i + w.lf <= 256 then .ok w else .error (153, d.p)) := ⟨HR.out⟩
   obtain ⟨c0, c1, c2, c3, c4, c5⟩ := df_cells HS2.out.1
   simp only at b0 b1 b2
   have hcl := leave_any ⟨false, h1, o1⟩ d.p w1 g mv av y2 HS2.out.2.2.1
   unfold stc at hcl
   simp only at hcl
   generalize hgl : leave ⟨false, h1, o1⟩ d.p w1 = L at *
   have HLV := hid hgl
   clear hgl
   go_wp2_with fail
   refine hcl.mono ?_
   intro e y3 hp
   clear hcl hy2 b0 b1 b2 c0 c1 c2 c3 c4 c5
   cases L with
   | error er =>
    obtain ⟨rfl, hG⟩ := hp
    refine ⟨rfl, ?_⟩
    rw [HR.out]
    exact ⟨rfl, HS2.out.2.2.2.trans hG⟩
   | ok w2 =>
    obtain ⟨rfl, hE, hG⟩ := hp
    have HWI := hid (leave_inv HX.out.1 HX.out.2 HLV.out).1
    replace HR : Y.Hd (R = if w2.nv = true \/ w2.i + w2.lf <= 256 then .ok w2 else .error (153, d.p)) := ⟨HR.out⟩
    have HS3 : Y.Hd (y3.heap[W.heap.size]? = some (.cells (dfc d (.slice q d.body.length cq)).toArray 27 (0, 0)) /\ HB5 y3 W0.heap.size 0 0 0 0 false /\ EW y3 g mv av w2 /\ Gw g W y3) := ⟨hG.keep HS2.out.1 HS.out.2.2.2.1, hG.keep HS2.out.2.1 HS.out.2.2.2.2.1, hE, HS2.out.2.2.2.trans hG⟩
    clear hE hG hb
    obtain ⟨i2, d2, r2, nv2, lf2⟩ := w2
    obtain ⟨e0, e1, e2, e3, e4, e5, e6, e7⟩ := HS3.out.2.2.1.cells
    simp only at e0 e1 e2 e3 e4 e5 e6 e7
    have hyg : y3.heap.size ≠ g /\ y3.heap.size ≠ W.heap.size /\ y3.heap.size ≠ W0.heap.size := ⟨by have := S.lt_of HS3.out.2.2.1; omega, by have := S.lt_of HS3.out.1; omega, by have := S.lt_of HS3.out.2.1; omega⟩
    cases nv2
    ·
     obtain ⟨u1, hu1⟩ : ∃ u1, y3.alloc (.cells #[.int .i64 i2, .int .i64 0, .int .i64 d2, .int .i64 r2, .bool false] 45) = u1 := ⟨_, rfl⟩
     have zb : Below y3.heap.size y3 u1 := by rw [<- hu1]; exact (Below.refl _ _).alloc (Nat.le_refl _) _
     have hb : HB5 u1 y3.heap.size i2 0 d2 r2 false := by rw [<- hu1]; exact heap_alloc_new y3 _
     have HU : Y.Hd (u1.heap[W.heap.size]? = some (.cells (dfc d (.slice q d.body.length cq)).toArray 27 (0, 0)) /\ HB5 u1 W0.heap.size 0 0 0 0 false /\ EW u1 g mv av ⟨i2, d2, r2, false, lf2⟩ /\ Gw g W u1 /\ HB5 u1 y3.heap.size i2 0 d2 r2 false) := ⟨(zb.block _ (S.lt_of HS3.out.1)).trans HS3.out.1, (zb.block _ (S.lt_of HS3.out.2.1)).trans HS3.out.2.1, HS3.out.2.2.1.below zb, HS3.out.2.2.2.trans (Gw.of zb), hb⟩
     obtain ⟨p0, p1, p2, p3, p4⟩ := hb.cells
     have HY := hid hyg
     clear zb hb hyg
     replace HR : Y.Hd (R = if false = true \/ i2 + lf2 <= 256 then .ok ⟨i2, d2, r2, false, lf2⟩ else .error (153, d.p)) := ⟨HR.out⟩
     have qw : IntKind.i64.wrap (i2 + lf2) = i2 + lf2 := S.i64_id _ (by have := HWI.out.i0; have := HWI.out.l0; simp only at *; omega) (by have := HWI.out.i1; have := HWI.out.l1; simp only at *; omega)
     have f0 := S.frozen_of u1 y3.heap.size 0 _ 45 HU.out.2.2.2.2
     have f1 := S.frozen_of u1 y3.heap.size 1 _ 45 HU.out.2.2.2.2
     have f2 := S.frozen_of u1 y3.heap.size 2 _ 45 HU.out.2.2.2.2
     have f3 := S.frozen_of u1 y3.heap.size 3 _ 45 HU.out.2.2.2.2
     have f4 := S.frozen_of u1 y3.heap.size 4 _ 45 HU.out.2.2.2.2
     go_upto_region 6 with fail
     clear f0 f1 f2 f3 f4 hu1 p0 p1 p2 p3 p4 e0 e1 e2 e3 e4 e5 e6 e7
     replace HU : Y.Hd ((u1.setCell ⟨y3.heap.size, 4, none⟩ (.bool false)).heap[W.heap.size]? = some (.cells (dfc d (.slice q d.body.length cq)).toArray 27 (0, 0)) /\ HB5 (u1.setCell ⟨y3.heap.size, 4, none⟩ (.bool false)) W0.heap.size 0 0 0 0 false /\ EW (u1.setCell ⟨y3.heap.size, 4, none⟩ (.bool false)) g mv av ⟨i2, d2, r2, false, lf2⟩ /\ Gw g W (u1.setCell ⟨y3.heap.size, 4, none⟩ (.bool false)) /\ HB5 (u1.setCell ⟨y3.heap.size, 4, none⟩ (.bool false)) y3.heap.size i2 0 d2 r2 false) :=
      ⟨(S.setCell_other u1 _ 4 _ _ (Ne.symm HY.out.2.1)).trans HU.out.1, (S.setCell_other u1 _ 4 _ _ (Ne.symm HY.out.2.2)).trans HU.out.2.1, (S.setCell_other u1 _ 4 _ _ (Ne.symm HY.out.1)).trans HU.out.2.2.1, HU.out.2.2.2.1.setN _ 4 _ (by have := HS3.out.2.2.2.size; omega), S.setCell_heap u1 _ 4 _ 45 _ HU.out.2.2.2.2⟩
     generalize u1.setCell ⟨y3.heap.size, 4, none⟩ (.bool false) = u1b at *
     have t1 : (fun wz : World => wz.cell? ⟨y3.heap.size, 0, none⟩ = some (.int .i64 i2) /\ wz.cell? ⟨g, 7, none⟩ = some (.int .i64 lf2)) u1b.drew := ⟨HU.out.2.2.2.2.cells.1, HU.out.2.2.1.cells.2.2.2.2.2.2.2⟩
     refine wp_region_drop [8] (S := fun wz : World => wz.cell? ⟨y3.heap.size, 0, none⟩ = some (.int .i64 i2) /\ wz.cell? ⟨g, 7, none⟩ = some (.int .i64 lf2)) (by kernel_rfl) t1 (fun hHeld => ?_)
     have HU2 : Y.Hd (u1b.drew.heap[W.heap.size]? = some (.cells (dfc d (.slice q d.body.length cq)).toArray 27 (0, 0)) /\ HB5 u1b.drew W0.heap.size 0 0 0 0 false /\ Gw g W u1b.drew /\ HB5 u1b.drew y3.heap.size i2 0 d2 r2 false) := ⟨HU.out.1, HU.out.2.1, HU.out.2.2.2.1.trans (Gw.of (Below.refl _ u1b).drew), HU.out.2.2.2.2⟩
     generalize u1b.drew = u2 at *
     clear t1 HU
     refine E.xP 0 (v := ?_) rfl (by kernel_rfl) (fun c a w h => h) (by rfl) ?_ (fun _ => hHeld) ?_
     rotate_left
     ·(intro w hSw; clear hSw; go_simp; try with_reducible rfl)
     simp only [E.pts]
     refine E.xT 1 (v := ?_) rfl (by kernel_rfl) (fun c a w h => h) (by rfl) ?_ hHeld ?_
     rotate_left
     ·(intro w hSw; (try dsimp only at hSw); go_simp; try with_reducible rfl)
     simp only [E.pts]
     refine E.zP (is := [2, 3, 4]) ?_
     iterate 3
      refine E.yP (v := ?_) rfl (by kernel_rfl) (fun c a w h => h) (by rfl) ?_ (fun _ => hHeld) ?_
      rotate_left
      ·(intro w hSw; clear hSw; go_simp; try with_reducible rfl)
      simp only [E.pts]
     refine E.eP ?_
     refine E.xT 5 (v := ?_) rfl (by kernel_rfl) (fun c a w h => h) (by rfl) ?_ hHeld ?_
     rotate_left
     ·(intro w hSw; (try dsimp only at hSw); go_simp; try with_reducible rfl)
     simp only [E.pts]
     refine E.zP (is := [6, 7]) ?_
     iterate 2
      refine E.yP (v := ?_) rfl (by kernel_rfl) (fun c a w h => h) (by rfl) ?_ (fun _ => hHeld) ?_
      rotate_left
      ·(intro w hSw; clear hSw; go_simp; try with_reducible rfl)
      simp only [E.pts]
     refine E.eP ?_
     obtain ⟨p0, p1, p2, p3, p4⟩ := HU2.out.2.2.2.cells
     have fz := S.frozen_of u2 y3.heap.size 1 _ 45 HU2.out.2.2.2
     refine wpD_ready (rs := [8]) (by kernel_rfl) (by simp) ?_
     refine AllD.late rfl (by kernel_rfl) (fun K hK => ?_)
     go_simp
     refine hK.out _ _ ?_
     clear hK K
     try simp only [E.pts]
     refine wpD_done (by kernel_rfl) ?_ _
     clear hHeld p0 p1 p2 p3 p4 fz
     have HU3 : Y.Hd ((u2.setCell ⟨y3.heap.size, 1, none⟩ (.int .i64 (i2 + lf2))).heap[W.heap.size]? = some (.cells (dfc d (.slice q d.body.length cq)).toArray 27 (0, 0)) /\ HB5 (u2.setCell ⟨y3.heap.size, 1, none⟩ (.int .i64 (i2 + lf2))) W0.heap.size 0 0 0 0 false /\ Gw g W (u2.setCell ⟨y3.heap.size, 1, none⟩ (.int .i64 (i2 + lf2))) /\ HB5 (u2.setCell ⟨y3.heap.size, 1, none⟩ (.int .i64 (i2 + lf2))) y3.heap.size i2 (i2 + lf2) d2 r2 false) :=
      ⟨(S.setCell_other u2 _ 1 _ _ (Ne.symm HY.out.2.1)).trans HU2.out.1, (S.setCell_other u2 _ 1 _ _ (Ne.symm HY.out.2.2)).trans HU2.out.2.1, HU2.out.2.2.1.setN _ 1 _ (by have := HS3.out.2.2.2.size; omega), S.setCell_heap u2 _ 1 _ 45 _ HU2.out.2.2.2⟩
     generalize u2.setCell ⟨y3.heap.size, 1, none⟩ (.int .i64 (i2 + lf2)) = u3 at *
     obtain ⟨p0, p1, p2, p3, p4⟩ := HU3.out.2.2.2.cells
     obtain ⟨c0, c1, c2, c3, c4, c5⟩ := df_cells HU3.out.1
     by_cases hle : i2 + lf2 <= 256
     ·have hde : decide (i2 + lf2 <= 256) = true := decide_eq_true hle
      replace HR : Y.Hd (R = .ok ⟨i2, d2, r2, false, lf2⟩) := ⟨HR.out.trans (if_pos (Or.inr hle))⟩
      clear hle
      go_wp2_with fail
      refine (must_true 153 d.p u3).mono ?_
      rintro e u4 ⟨rfl, hb⟩
      clear p0 p1 p2 p3 p4 c0 c1 c2 c3 c4 c5
      have HU4 : Y.Hd (True /\ HB5 u4 W0.heap.size 0 0 0 0 false /\ True /\ Gw g W u4 /\ HB5 u4 y3.heap.size i2 (i2 + lf2) d2 r2 false) := ⟨trivial, (hb.block _ (S.lt_of HU3.out.2.1)).trans HU3.out.2.1, trivial, HU3.out.2.2.1.trans (Gw.of hb), (hb.block _ (S.lt_of HU3.out.2.2.2)).trans HU3.out.2.2.2⟩
      clear hb
      obtain ⟨p0, p1, p2, p3, p4⟩ := HU4.out.2.2.2.2.cells
      have hst := HU4.out.2.1
      have HV : Y.Hd (HB5 (u4.setRow W0.heap.size (shc i2 (i2 + lf2) d2 r2 false).toArray) W0.heap.size i2 (i2 + lf2) d2 r2 false /\ Gw g W (u4.setRow W0.heap.size (shc i2 (i2 + lf2) d2 r2 false).toArray)) := ⟨setRow_heap u4 W0.heap.size _ _ _ _ hst, HU4.out.2.2.2.1.setR W0.heap.size _ (by have := HSZ.out; omega)⟩
      unfold shc at HV
      go_wp2_with (refine wpList_store_row rfl 45 _ _ rfl W0.heap.size _ rfl rfl 45 _ hst (by exact sizeH) (by rfl) (by simp [Value.oneCell']) ?_)
      refine bodyPost_ret (sh_end 4 rfl rfl HV.out.1) rfl ?_
      rw [HR.out]
      exact ⟨rfl, HV.out.2⟩
     ·have hde : decide (i2 + lf2 <= 256) = false := decide_eq_false hle
      replace HR : Y.Hd (R = .error (153, d.p)) := ⟨HR.out.trans (if_neg (by simpa using hle))⟩
      clear hle
      go_wp2_with fail
      refine (must_false 153 d.p u3).mono ?_
      rintro e u4 ⟨rfl, hb⟩
      refine ⟨rfl, ?_⟩
      rw [HR.out]
      exact ⟨rfl, HU3.out.2.2.1.trans (Gw.of hb)⟩
    ·
     obtain ⟨u1, hu1⟩ : ∃ u1, y3.alloc (.cells #[.int .i64 i2, .int .i64 0, .int .i64 d2, .int .i64 r2, .bool true] 45) = u1 := ⟨_, rfl⟩
     have zb : Below y3.heap.size y3 u1 := by rw [<- hu1]; exact (Below.refl _ _).alloc (Nat.le_refl _) _
     have hb : HB5 u1 y3.heap.size i2 0 d2 r2 true := by rw [<- hu1]; exact heap_alloc_new y3 _
     have HU : Y.Hd (u1.heap[W.heap.size]? = some (.cells (dfc d (.slice q d.body.length cq)).toArray 27 (0, 0)) /\ HB5 u1 W0.heap.size 0 0 0 0 false /\ EW u1 g mv av ⟨i2, d2, r2, true, lf2⟩ /\ Gw g W u1 /\ HB5 u1 y3.heap.size i2 0 d2 r2 true) := ⟨(zb.block _ (S.lt_of HS3.out.1)).trans HS3.out.1, (zb.block _ (S.lt_of HS3.out.2.1)).trans HS3.out.2.1, HS3.out.2.2.1.below zb, HS3.out.2.2.2.trans (Gw.of zb), hb⟩
     obtain ⟨p0, p1, p2, p3, p4⟩ := hb.cells
     have HY := hid hyg
     clear zb hb hyg
     replace HR : Y.Hd (R = .ok ⟨i2, d2, r2, true, lf2⟩) := ⟨HR.out.trans (if_pos (Or.inl rfl))⟩
     have hst := HU.out.2.1
     have HV : Y.Hd (HB5 (u1.setRow W0.heap.size (shc i2 0 d2 r2 true).toArray) W0.heap.size i2 0 d2 r2 true /\ Gw g W (u1.setRow W0.heap.size (shc i2 0 d2 r2 true).toArray)) := ⟨setRow_heap u1 W0.heap.size _ _ _ _ hst, HU.out.2.2.2.1.setR W0.heap.size _ (by have := HSZ.out; omega)⟩
     unfold shc at HV
     go_wp2_with (refine wpList_store_row rfl 45 _ _ rfl W0.heap.size _ rfl rfl 45 _ hst (by exact sizeH) (by rfl) (by simp [Value.oneCell']) ?_)
     refine bodyPost_ret (sh_end 4 rfl rfl HV.out.1) rfl ?_
     rw [HR.out]
     exact ⟨rfl, HV.out.2⟩
  ·replace HR : Y.Hd (R = if w1.nv = true \/ w1.i + w1.lf <= 256 then .ok w1 else .error (153, d.p)) := ⟨HR.out⟩
   simp only at b0 b1 b2
   have HWI := hid HX.out.1
   simp only at HWI
   clear HX
   go_upto_region 4 with fail
   clear hy2 b0 b1 b2 hb
   obtain ⟨i2, d2, r2, nv2, lf2⟩ := w1
   obtain ⟨e0, e1, e2, e3, e4, e5, e6, e7⟩ := HS2.out.2.2.1.cells
   simp only at e0 e1 e2 e3 e4 e5 e6 e7
   have hyg : y2.heap.size ≠ g /\ y2.heap.size ≠ W.heap.size /\ y2.heap.size ≠ W0.heap.size := ⟨by have := S.lt_of HS2.out.2.2.1; omega, by have := S.lt_of HS2.out.1; omega, by have := S.lt_of HS2.out.2.1; omega⟩
   cases nv2
   ·
    obtain ⟨u1, hu1⟩ : ∃ u1, y2.alloc (.cells #[.int .i64 i2, .int .i64 0, .int .i64 d2, .int .i64 r2, .bool false] 45) = u1 := ⟨_, rfl⟩
    have zb : Below y2.heap.size y2 u1 := by rw [<- hu1]; exact (Below.refl _ _).alloc (Nat.le_refl _) _
    have hb : HB5 u1 y2.heap.size i2 0 d2 r2 false := by rw [<- hu1]; exact heap_alloc_new y2 _
    have HU : Y.Hd (u1.heap[W.heap.size]? = some (.cells (dfc d (.slice q d.body.length cq)).toArray 27 (0, 0)) /\ HB5 u1 W0.heap.size 0 0 0 0 false /\ EW u1 g mv av ⟨i2, d2, r2, false, lf2⟩ /\ Gw g W u1 /\ HB5 u1 y2.heap.size i2 0 d2 r2 false) := ⟨(zb.block _ (S.lt_of HS2.out.1)).trans HS2.out.1, (zb.block _ (S.lt_of HS2.out.2.1)).trans HS2.out.2.1, HS2.out.2.2.1.below zb, HS2.out.2.2.2.trans (Gw.of zb), hb⟩
    obtain ⟨p0, p1, p2, p3, p4⟩ := hb.cells
    have HY := hid hyg
    clear zb hb hyg
    replace HR : Y.Hd (R = if false = true \/ i2 + lf2 <= 256 then .ok ⟨i2, d2, r2, false, lf2⟩ else .error (153, d.p)) := ⟨HR.out⟩
    have qw : IntKind.i64.wrap (i2 + lf2) = i2 + lf2 := S.i64_id _ (by have := HWI.out.i0; have := HWI.out.l0; simp only at *; omega) (by have := HWI.out.i1; have := HWI.out.l1; simp only at *; omega)
    have f0 := S.frozen_of u1 y2.heap.size 0 _ 45 HU.out.2.2.2.2
    have f1 := S.frozen_of u1 y2.heap.size 1 _ 45 HU.out.2.2.2.2
    have f2 := S.frozen_of u1 y2.heap.size 2 _ 45 HU.out.2.2.2.2
    have f3 := S.frozen_of u1 y2.heap.size 3 _ 45 HU.out.2.2.2.2
    have f4 := S.frozen_of u1 y2.heap.size 4 _ 45 HU.out.2.2.2.2
    go_upto_region 6 with fail
    clear f0 f1 f2 f3 f4 hu1 p0 p1 p2 p3 p4 e0 e1 e2 e3 e4 e5 e6 e7
    replace HU : Y.Hd ((u1.setCell ⟨y2.heap.size, 4, none⟩ (.bool false)).heap[W.heap.size]? = some (.cells (dfc d (.slice q d.body.length cq)).toArray 27 (0, 0)) /\ HB5 (u1.setCell ⟨y2.heap.size, 4, none⟩ (.bool false)) W0.heap.size 0 0 0 0 false /\ EW (u1.setCell ⟨y2.heap.size, 4, none⟩ (.bool false)) g mv av ⟨i2, d2, r2, false, lf2⟩ /\ Gw g W (u1.setCell ⟨y2.heap.size, 4, none⟩ (.bool false)) /\ HB5 (u1.setCell ⟨y2.heap.size, 4, none⟩ (.bool false)) y2.heap.size i2 0 d2 r2 false) :=
     ⟨(S.setCell_other u1 _ 4 _ _ (Ne.symm HY.out.2.1)).trans HU.out.1, (S.setCell_other u1 _ 4 _ _ (Ne.symm HY.out.2.2)).trans HU.out.2.1, (S.setCell_other u1 _ 4 _ _ (Ne.symm HY.out.1)).trans HU.out.2.2.1, HU.out.2.2.2.1.setN _ 4 _ (by have := HS2.out.2.2.2.size; omega), S.setCell_heap u1 _ 4 _ 45 _ HU.out.2.2.2.2⟩
    generalize u1.setCell ⟨y2.heap.size, 4, none⟩ (.bool false) = u1b at *
    have t1 : (fun wz : World => wz.cell? ⟨y2.heap.size, 0, none⟩ = some (.int .i64 i2) /\ wz.cell? ⟨g, 7, none⟩ = some (.int .i64 lf2)) u1b.drew := ⟨HU.out.2.2.2.2.cells.1, HU.out.2.2.1.cells.2.2.2.2.2.2.2⟩
    refine wp_region_drop [8] (S := fun wz : World => wz.cell? ⟨y2.heap.size, 0, none⟩ = some (.int .i64 i2) /\ wz.cell? ⟨g, 7, none⟩ = some (.int .i64 lf2)) (by kernel_rfl) t1 (fun hHeld => ?_)
    have HU2 : Y.Hd (u1b.drew.heap[W.heap.size]? = some (.cells (dfc d (.slice q d.body.length cq)).toArray 27 (0, 0)) /\ HB5 u1b.drew W0.heap.size 0 0 0 0 false /\ Gw g W u1b.drew /\ HB5 u1b.drew y2.heap.size i2 0 d2 r2 false) := ⟨HU.out.1, HU.out.2.1, HU.out.2.2.2.1.trans (Gw.of (Below.refl _ u1b).drew), HU.out.2.2.2.2⟩
    generalize u1b.drew = u2 at *
    clear t1 HU
    refine E.xP 0 (v := ?_) rfl (by kernel_rfl) (fun c a w h => h) (by rfl) ?_ (fun _ => hHeld) ?_
    rotate_left
    ·(intro w hSw; clear hSw; go_simp; try with_reducible rfl)
    simp only [E.pts]
    refine E.xT 1 (v := ?_) rfl (by kernel_rfl) (fun c a w h => h) (by rfl) ?_ hHeld ?_
    rotate_left
    ·(intro w hSw; (try dsimp only at hSw); go_simp; try with_reducible rfl)
    simp only [E.pts]
    refine E.zP (is := [2, 3, 4]) ?_
    iterate 3
     refine E.yP (v := ?_) rfl (by kernel_rfl) (fun c a w h => h) (by rfl) ?_ (fun _ => hHeld) ?_
     rotate_left
     ·(intro w hSw; clear hSw; go_simp; try with_reducible rfl)
     simp only [E.pts]
    refine E.eP ?_
    refine E.xT 5 (v := ?_) rfl (by kernel_rfl) (fun c a w h => h) (by rfl) ?_ hHeld ?_
    rotate_left
    ·(intro w hSw; (try dsimp only at hSw); go_simp; try with_reducible rfl)
    simp only [E.pts]
    refine E.zP (is := [6, 7]) ?_
    iterate 2
     refine E.yP (v := ?_) rfl (by kernel_rfl) (fun c a w h => h) (by rfl) ?_ (fun _ => hHeld) ?_
     rotate_left
     ·(intro w hSw; clear hSw; go_simp; try with_reducible rfl)
     simp only [E.pts]
    refine E.eP ?_
    obtain ⟨p0, p1, p2, p3, p4⟩ := HU2.out.2.2.2.cells
    have fz := S.frozen_of u2 y2.heap.size 1 _ 45 HU2.out.2.2.2
    refine wpD_ready (rs := [8]) (by kernel_rfl) (by simp) ?_
    refine AllD.late rfl (by kernel_rfl) (fun K hK => ?_)
    go_simp
    refine hK.out _ _ ?_
    clear hK K
    try simp only [E.pts]
    refine wpD_done (by kernel_rfl) ?_ _
    clear hHeld p0 p1 p2 p3 p4 fz
    have HU3 : Y.Hd ((u2.setCell ⟨y2.heap.size, 1, none⟩ (.int .i64 (i2 + lf2))).heap[W.heap.size]? = some (.cells (dfc d (.slice q d.body.length cq)).toArray 27 (0, 0)) /\ HB5 (u2.setCell ⟨y2.heap.size, 1, none⟩ (.int .i64 (i2 + lf2))) W0.heap.size 0 0 0 0 false /\ Gw g W (u2.setCell ⟨y2.heap.size, 1, none⟩ (.int .i64 (i2 + lf2))) /\ HB5 (u2.setCell ⟨y2.heap.size, 1, none⟩ (.int .i64 (i2 + lf2))) y2.heap.size i2 (i2 + lf2) d2 r2 false) :=
     ⟨(S.setCell_other u2 _ 1 _ _ (Ne.symm HY.out.2.1)).trans HU2.out.1, (S.setCell_other u2 _ 1 _ _ (Ne.symm HY.out.2.2)).trans HU2.out.2.1, HU2.out.2.2.1.setN _ 1 _ (by have := HS2.out.2.2.2.size; omega), S.setCell_heap u2 _ 1 _ 45 _ HU2.out.2.2.2⟩
    generalize u2.setCell ⟨y2.heap.size, 1, none⟩ (.int .i64 (i2 + lf2)) = u3 at *
    obtain ⟨p0, p1, p2, p3, p4⟩ := HU3.out.2.2.2.cells
    obtain ⟨c0, c1, c2, c3, c4, c5⟩ := df_cells HU3.out.1
    by_cases hle : i2 + lf2 <= 256
    ·have hde : decide (i2 + lf2 <= 256) = true := decide_eq_true hle
     replace HR : Y.Hd (R = .ok ⟨i2, d2, r2, false, lf2⟩) := ⟨HR.out.trans (if_pos (Or.inr hle))⟩
     clear hle
     go_wp2_with fail
     refine (must_true 153 d.p u3).mono ?_
     rintro e u4 ⟨rfl, hb⟩
     clear p0 p1 p2 p3 p4 c0 c1 c2 c3 c4 c5
     have HU4 : Y.Hd (True /\ HB5 u4 W0.heap.size 0 0 0 0 false /\ True /\ Gw g W u4 /\ HB5 u4 y2.heap.size i2 (i2 + lf2) d2 r2 false) := ⟨trivial, (hb.block _ (S.lt_of HU3.out.2.1)).trans HU3.out.2.1, trivial, HU3.out.2.2.1.trans (Gw.of hb), (hb.block _ (S.lt_of HU3.out.2.2.2)).trans HU3.out.2.2.2⟩
     clear hb
     obtain ⟨p0, p1, p2, p3, p4⟩ := HU4.out.2.2.2.2.cells
     have hst := HU4.out.2.1
     have HV : Y.Hd (HB5 (u4.setRow W0.heap.size (shc i2 (i2 + lf2) d2 r2 false).toArray) W0.heap.size i2 (i2 + lf2) d2 r2 false /\ Gw g W (u4.setRow W0.heap.size (shc i2 (i2 + lf2) d2 r2 false).toArray)) := ⟨setRow_heap u4 W0.heap.size _ _ _ _ hst, HU4.out.2.2.2.1.setR W0.heap.size _ (by have := HSZ.out; omega)⟩
     unfold shc at HV
     go_wp2_with (refine wpList_store_row rfl 45 _ _ rfl W0.heap.size _ rfl rfl 45 _ hst (by exact sizeH) (by rfl) (by simp [Value.oneCell']) ?_)
     refine bodyPost_ret (sh_end 4 rfl rfl HV.out.1) rfl ?_
     rw [HR.out]
     exact ⟨rfl, HV.out.2⟩
    ·have hde : decide (i2 + lf2 <= 256) = false := decide_eq_false hle
     replace HR : Y.Hd (R = .error (153, d.p)) := ⟨HR.out.trans (if_neg (by simpa using hle))⟩
     clear hle
     go_wp2_with fail
     refine (must_false 153 d.p u3).mono ?_
     rintro e u4 ⟨rfl, hb⟩
     refine ⟨rfl, ?_⟩
     rw [HR.out]
     exact ⟨rfl, HU3.out.2.2.1.trans (Gw.of hb)⟩
   ·
    obtain ⟨u1, hu1⟩ : ∃ u1, y2.alloc (.cells #[.int .i64 i2, .int .i64 0, .int .i64 d2, .int .i64 r2, .bool true] 45) = u1 := ⟨_, rfl⟩
    have zb : Below y2.heap.size y2 u1 := by rw [<- hu1]; exact (Below.refl _ _).alloc (Nat.le_refl _) _
    have hb : HB5 u1 y2.heap.size i2 0 d2 r2 true := by rw [<- hu1]; exact heap_alloc_new y2 _
    have HU : Y.Hd (u1.heap[W.heap.size]? = some (.cells (dfc d (.slice q d.body.length cq)).toArray 27 (0, 0)) /\ HB5 u1 W0.heap.size 0 0 0 0 false /\ EW u1 g mv av ⟨i2, d2, r2, true, lf2⟩ /\ Gw g W u1 /\ HB5 u1 y2.heap.size i2 0 d2 r2 true) := ⟨(zb.block _ (S.lt_of HS2.out.1)).trans HS2.out.1, (zb.block _ (S.lt_of HS2.out.2.1)).trans HS2.out.2.1, HS2.out.2.2.1.below zb, HS2.out.2.2.2.trans (Gw.of zb), hb⟩
    obtain ⟨p0, p1, p2, p3, p4⟩ := hb.cells
    have HY := hid hyg
    clear zb hb hyg
    replace HR : Y.Hd (R = .ok ⟨i2, d2, r2, true, lf2⟩) := ⟨HR.out.trans (if_pos (Or.inl rfl))⟩
    have hst := HU.out.2.1
    have HV : Y.Hd (HB5 (u1.setRow W0.heap.size (shc i2 0 d2 r2 true).toArray) W0.heap.size i2 0 d2 r2 true /\ Gw g W (u1.setRow W0.heap.size (shc i2 0 d2 r2 true).toArray)) := ⟨setRow_heap u1 W0.heap.size _ _ _ _ hst, HU.out.2.2.2.1.setR W0.heap.size _ (by have := HSZ.out; omega)⟩
    unfold shc at HV
    go_wp2_with (refine wpList_store_row rfl 45 _ _ rfl W0.heap.size _ rfl rfl 45 _ hst (by exact sizeH) (by rfl) (by simp [Value.oneCell']) ?_)
    refine bodyPost_ret (sh_end 4 rfl rfl HV.out.1) rfl ?_
    rw [HR.out]
    exact ⟨rfl, HV.out.2⟩
end Go.Proofs.YtlilefhmohkfkaaGreatDoor.E
