import Derived.Test.YtlilefhmohkfkaaGreatDoorEDrop
import Derived.Test.YtlilefhmohkfkaaGreatDoorERfQ
import Derived.Test.YtlilefhmohkfkaaGreatDoorEWord
namespace Go.Proofs.YtlilefhmohkfkaaGreatDoor.E
open Go.RowKit
open Go.Proofs
open Go.Proofs.YtlilefhmohkfkaaGreatDoor.Y (Nd Df Ps ndc dfc hid NV cells9 cells6)
open R (ck cks cks_cons)
set_option linter.unusedVariables false
set_option linter.unusedSimpArgs false
set_option maxHeartbeats 2000000
set_option maxRecDepth 100000
theorem ty_end {fn : Func} {T : Array Value} {b : Nat} {t : Ty} {W : World} (u : Tmp) (hf : fn.results = #[.cell u 81]) (ht : T.getD u undef = .pointer (some ⟨b, 0, none⟩)) (h : TB W b t) : (results fn T).run Tryz.prog W = .ok (.agg (tyc t).toArray) W := by
 have e : (results fn T).run Tryz.prog W = ((asAddr (T.getD u undef)).run Tryz.prog W).andThen fun a w₁ => (loadVar 81 a).run Tryz.prog w₁ := by
  simp only [results, hf]
  simp [Sem.run_bind, Result.andThen]
 rw [e, ht]
 simp [asAddr, run_loadVar_row W b _ 81 _ _ _ h Tryz.underlying81 rfl sizeRT]
structure OB (W wz : World) (a b g : Nat) (kv : Value) (dc : List Value) (w : Rw) : Prop where
 db : wz.heap[a]? = some (.cells dc.toArray 27 (0, 0))
 rb : TB wz b t0
 rw : RW wz g kv w
 be : Below W.heap.size W wz
 al : W.heap.size <= a
 ab : a < b
 bg : b < g
theorem OB.go {W wz wy : World} {a b g : Nat} {kv : Value} {dc : List Value} {w w' : Rw} (h : OB W wz a b g kv dc w) (k : Gw g wz wy) (hr : RW wy g kv w') : OB W wy a b g kv dc w' :=
 ⟨k.keep h.db (by have := h.ab; have := h.bg; omega), k.keep h.rb (by have := h.bg; omega), hr, Gw.below h.be k (by have := h.al; have := h.ab; have := h.bg; omega), h.al, h.ab, h.bg⟩
theorem OB.fin {W wz : World} {a b g : Nat} {kv : Value} {dc : List Value} {w : Rw} (h : OB W wz a b g kv dc w) (t : Ty) : TB (wz.setRow b (tyc t).toArray) b t /\ Below W.heap.size W (wz.setRow b (tyc t).toArray) :=
 ⟨setRow_heap wz b _ _ _ _ h.rb, h.be.os, h.be.tape, h.be.output, by rw [size_setRow]; exact h.be.size, fun i hi => (setRow_other wz b i _ (by have := h.al; have := h.ab; omega)).trans (h.be.block i hi)⟩
theorem of_r (tl : List Ty) (htl : tl.length <= 1048576) (names : List ByteArray) (d : Df) (hck : cks names d.body (0, false) = 0) (bv : Value) (O : Nat -> Prop) (kv : Value) (W : World) (hO : ∀ j, O j -> j < W.heap.size) (hV : NV W O bv d.body) (hk : ∀ g, W.heap.size <= g -> KV W g kv tl) :
  Calls Tryz.prog 34 #[kv, .agg (dfc d bv).toArray] W fun e w' => e = .returned (.agg (tyc (rty (find tl) d)).toArray) /\ Below W.heap.size W w' := by
 obtain ⟨q, c, hbv, _, _⟩ := id hV.ex
 subst hbv
 obtain ⟨qk, ck', hkv, _, _⟩ := id (hk W.heap.size (Nat.le_refl _)).ex
 subst hkv
 obtain ⟨W0, hW0⟩ : ∃ W0, W.alloc (.cells #[.int .i64 d.k, .string d.nm, .int .u16 d.v, .slice q d.body.length c, .int .i64 d.p.1, .int .i64 d.p.2] 27) = W0 := ⟨_, rfl⟩
 obtain ⟨W1, hW1⟩ : ∃ W1, W0.alloc (.cells #[.string ⟨#[]⟩, .int .i64 0, .int .i64 0, .int .i64 0, .int .i64 0, .bool false, .int .i64 0, .int .i64 0, .int .i64 0] 81) = W1 := ⟨_, rfl⟩
 obtain ⟨W2, hW2⟩ : ∃ W2, W1.alloc (.cells #[.slice qk tl.length ck', .int .i64 0, .int .i64 0, .int .i64 0, .bool false, .int .i64 0, .int .i64 0, .int .i64 0, .int .i64 0] 96) = W2 := ⟨_, rfl⟩
 have s0' : W0.heap.size = W.heap.size + 1 := by rw [<- hW0]; simp
 have s1' : W1.heap.size = W.heap.size + 2 := by rw [<- hW1]; simp; omega
 have b0 : Below W.heap.size W W0 := by rw [<- hW0]; exact (Below.refl _ _).alloc (Nat.le_refl _) _
 have b1 : Below W0.heap.size W0 W1 := by rw [<- hW1]; exact (Below.refl _ _).alloc (Nat.le_refl _) _
 have b2 : Below W1.heap.size W1 W2 := by rw [<- hW2]; exact (Below.refl _ _).alloc (Nat.le_refl _) _
 have v0 : W0.heap[W.heap.size]? = some (.cells (dfc d (.slice q d.body.length c)).toArray 27 (0, 0)) := by rw [<- hW0]; exact heap_alloc_new W _
 have v1 : TB W1 W0.heap.size t0 := by rw [<- hW1]; exact heap_alloc_new W0 _
 have v2 : RW W2 W1.heap.size (.slice qk tl.length ck') (rwOf w0) := by rw [<- hW2]; exact heap_alloc_new W1 _
 have hB : Below W.heap.size W W2 := (b0.trans (b1.mono (by omega))).trans (b2.mono (by omega))
 have HF : Y.Hd (OB W W2 W.heap.size W0.heap.size W1.heap.size (.slice qk tl.length ck') (dfc d (.slice q d.body.length c)) (rwOf w0)) := ⟨(b2.block _ (by omega)).trans ((b1.block _ (by omega)).trans v0), (b2.block _ (by omega)).trans v1, v2, hB, Nat.le_refl _, by omega, by omega⟩
 have hcb := br_any tl htl names d.body (.slice q d.body.length c) O (0, false) (rwOf w0, rsOf s0) (.slice none 0 0) W1.heap.size (.slice qk tl.length ck') W2 (fun j hj => Nat.lt_of_lt_of_le (hO j hj) hB.size) (fun hj => by have := hO _ hj; omega) (hV.below hB hO) hck ⟨by decide, by decide⟩ v2 (.inl ⟨rfl, rfl⟩) ((hk W1.heap.size (by omega)).kept fun b cur hb hc => hB.block b (S.lt_of hc))
 have HR : Y.Hd (rty (find tl) d = rtyW d (if (rbody (find tl) d.body (rwOf w0, rsOf s0)).1.e = 0 /\ (rbody (find tl) d.body (rwOf w0, rsOf s0)).2.dead = false then (rends (rbody (find tl) d.body (rwOf w0, rsOf s0)) d.p).1 else (rbody (find tl) d.body (rwOf w0, rsOf s0)).1)) := ⟨rfl⟩
 generalize rty (find tl) d = R at *
 generalize rbody (find tl) d.body (rwOf w0, rsOf s0) = Y at *
 obtain ⟨w1, h1, o1, dd1⟩ := Y
 obtain ⟨c0, c1, c2, c3, c4, c5⟩ := df_cells HF.out.db
 unfold rsc rsOf s0 toI at hcb
 simp only [List.map_nil] at hcb
 unfold dfc
 clear v0 v1 v2 b0 b1 b2 hB s0' s1' hV hk hO
 go_enter Tryz.func34, Tryz.ntmps34
 go_wp2_with fail
 refine hcb.mono ?_
 rintro e y1 ⟨v', rfl, hov, hrw, hgw⟩
 obtain ⟨q2, e2, hv2, _, _⟩ := id hov.ex
 (try simp only at hv2)
 subst hv2
 clear hcb hW0 hW1 hW2 c0 c1 c2 c3 c4 c5
 replace HF := hid (HF.out.go hgw hrw)
 unfold rsc
 simp only
 obtain ⟨y2, hy2⟩ : ∃ y2, y1.alloc (.cells #[.int .i64 h1, .slice q2 o1.length e2, .bool dd1] 99) = y2 := ⟨_, rfl⟩
 have zb : Below y1.heap.size y1 y2 := by rw [<- hy2]; exact (Below.refl _ _).alloc (Nat.le_refl _) _
 have zr : RB y2 y1.heap.size (.slice q2 o1.length e2) ⟨h1, o1, dd1⟩ := by rw [<- hy2]; exact heap_alloc_new y1 _
 replace HF := hid (HF.out.go (Gw.of zb) (HF.out.rw.below zb))
 obtain ⟨x0, x1, x2⟩ := zr.cells
 obtain ⟨c0, c1, c2, c3, c4, c5⟩ := df_cells HF.out.db
 have r6 := HF.out.rw.cells.2.2.2.2.2.2.1
 (try simp only at x0 x1 x2 r6)
 have hce := ends_r w1 ⟨h1, o1, dd1⟩ (.slice q2 o1.length e2) d.p W1.heap.size (.slice qk tl.length ck') y2 HF.out.rw (hov.below zb)
 unfold rsc at hce
 simp only at hce
 clear zb zr hov hrw hgw
 go_upto_region 3 with fail
 go_cut [25] (fun s25 wc => s25 = .bool (decide (w1.e = 0 /\ dd1 = false)) /\ wc = y2)
 case first =>
  clear hce hy2
  by_cases hc1 : w1.e = 0
  ·have d6 : (w1.e == 0) = true := by simpa using hc1
   have H1 := hid hc1
   clear hc1
   cases dd1
   ·go_wp2
    go_meet
    case rel => exact ⟨by simp [H1.out], rfl⟩
   ·go_wp2
    go_meet
    case rel => exact ⟨by simp, rfl⟩
  ·have d6 : (w1.e == 0) = false := by simpa using hc1
   go_wp2
   go_meet
   case rel => exact ⟨by simp [hc1], rfl⟩
 case rest =>
 obtain ⟨rfl, hwc⟩ := hcut
 subst hwc
 clear r6
 go_upto_if 25 with fail
 go_cut [] (fun wc => OB W wc W.heap.size W0.heap.size W1.heap.size (.slice qk tl.length ck') (dfc d (.slice q d.body.length c)) (if w1.e = 0 /\ dd1 = false then (rends (w1, ⟨h1, o1, dd1⟩) d.p).1 else w1))
 case first =>
  by_cases hc1 : w1.e = 0 /\ dd1 = false
  ·have HE : Y.Hd ((if w1.e = 0 /\ dd1 = false then (rends (w1, ⟨h1, o1, dd1⟩) d.p).1 else w1) = (rends (w1, ⟨h1, o1, dd1⟩) d.p).1) := ⟨if_pos hc1⟩
   rw [decide_eq_true hc1]
   clear hc1 hy2
   go_wp2_with fail
   refine hce.mono ?_
   rintro e y3 ⟨v', rfl, hov, hrw, hgw⟩
   clear hce
   have HT := hid (HF.out.go hgw hrw)
   clear hov hrw hgw
   go_wp2
   go_meet
   case rel => rw [HE.out]; exact HT.out
  ·have HE : Y.Hd ((if w1.e = 0 /\ dd1 = false then (rends (w1, ⟨h1, o1, dd1⟩) d.p).1 else w1) = w1) := ⟨if_neg hc1⟩
   rw [decide_eq_false hc1]
   clear hc1 hy2 hce
   go_wp2
   go_meet
   case rel => rw [HE.out]; exact HF.out
 case rest =>
  clear HF hce hy2 x0 x1 x2 c0 c1 c2 c3 c4 c5
  obtain ⟨W3, hW3⟩ : ∃ wb, wb = wc := ⟨_, rfl⟩
  rw [<- hW3] at hcut ⊢
  clear hW3
  replace HR : Y.Hd (R = rtyW d (if w1.e = 0 /\ dd1 = false then (rends (w1, ⟨h1, o1, dd1⟩) d.p).1 else w1)) := ⟨HR.out⟩
  generalize (if w1.e = 0 /\ dd1 = false then (rends (w1, ⟨h1, o1, dd1⟩) d.p).1 else w1) = w2 at *
  have HF := hid hcut
  clear hcut
  obtain ⟨c0, c1, c2, c3, c4, c5⟩ := df_cells HF.out.db
  obtain ⟨r0, r1, r2, r3, r4, r5, r6, r7, r8⟩ := HF.out.rw.cells
  by_cases he : w2.e = 0
  ·have d6 : (w2.e != 0) = false := by simpa using he
   replace HR : Y.Hd (R = if 256 < rout w2 then ⟨d.nm, 0, 0, 0, 0, false, 153, d.p⟩ else ⟨d.nm, w2.i, rout w2, w2.d, w2.r, !w2.ex, 0, (0, 0)⟩) := ⟨by rw [HR.out]; unfold rtyW; rw [if_pos he]⟩
   clear he
   go_upto_region 7 with fail
   have HB0 := hid (Below.refl W3.heap.size W3).drew
   have HMK : Y.Hd (∀ wz, Below W3.heap.size W3 wz -> (fun wz : World => wz.cell? ⟨W1.heap.size, 1, none⟩ = some (.int .i64 w2.i) /\ wz.cell? ⟨W1.heap.size, 2, none⟩ = some (.int .i64 w2.d) /\ wz.cell? ⟨W1.heap.size, 3, none⟩ = some (.int .i64 w2.r) /\ wz.cell? ⟨W1.heap.size, 4, none⟩ = some (.bool w2.ex)) wz) := ⟨fun wz hz => by
    obtain ⟨r0, r1, r2, r3, r4, r5, r6, r7, r8⟩ := (HF.out.rw.below hz).cells
    exact ⟨r1, r2, r3, r4⟩⟩
   clear c0 c1 c2 c3 c4 c5 r0 r1 r2 r3 r4 r5 r6 r7 r8
   refine wp_region_drop [19] (S := fun wz : World => wz.cell? ⟨W1.heap.size, 1, none⟩ = some (.int .i64 w2.i) /\ wz.cell? ⟨W1.heap.size, 2, none⟩ = some (.int .i64 w2.d) /\ wz.cell? ⟨W1.heap.size, 3, none⟩ = some (.int .i64 w2.r) /\ wz.cell? ⟨W1.heap.size, 4, none⟩ = some (.bool w2.ex)) (by kernel_rfl) (HMK.out _ HB0.out) (fun hHeld => ?_)
   generalize W3.drew = y0 at *
   refine E.zD (is := [0, 1, 2, 3, 4, 5, 6, 7, 8, 9, 10, 11, 12, 13, 14, 15, 16, 17]) ?_
   iterate 18
    refine E.yD (v := ?_) rfl (by kernel_rfl) (fun c a w h => h) (by rfl) ?_ hHeld ?_
    rotate_left
    ·(intro w hSw; (try dsimp only at hSw); go_simp; try with_reducible rfl)
    simp only [E.pts]
   refine E.eD ?_
   refine wpD_ready (rs := [18]) (by kernel_rfl) (by simp) ?_
   refine AllD.cons rfl (fun K hK => ?_) AllD.nil
   go_simp
   obtain ⟨y1', hy1'⟩ : ∃ y1', y0.alloc (.cells #[.int .i64 0, .int .i64 0, .int .i64 0, .int .i64 0, .bool false] 45) = y1' := ⟨_, rfl⟩
   obtain ⟨bx, hbx⟩ : ∃ bx, y0.heap.size = bx := ⟨_, rfl⟩
   have zb : Below y0.heap.size y0 y1' := by rw [<- hy1']; exact (Below.refl _ _).alloc (Nat.le_refl _) _
   have zv : y1'.heap[bx]? = some (.cells #[.int .i64 0, .int .i64 0, .int .i64 0, .int .i64 0, .bool false] 45 (0, 0)) := by rw [<- hy1', <- hbx]; exact heap_alloc_new y0 _
   rw [hy1', hbx]
   have HB1 := hid (HB0.out.trans (zb.mono HB0.out.size))
   have hbw : W3.heap.size <= bx := by rw [<- hbx]; exact HB0.out.size
   refine hK.out _ _ (HMK.out _ HB1.out) (fun hHeld => ?_)
   clear hK K hy1' hbx zb
   try simp only [E.pts]
   refine wpD_ready (rs := [19]) (by kernel_rfl) (by simp) ?_
   refine AllD.late rfl (by kernel_rfl) (fun K hK => ?_)
   (try rw [if_pos (by rfl)])
   refine wp_store_row 45 _ _ rfl bx ([Value.int .i64 w2.i, .int .i64 0, .int .i64 w2.d, .int .i64 w2.r, .bool (!w2.ex)]).toArray (by simp [Act.eval]) (by simp [Act.eval]) 45 _ zv (by kernel_rfl) (by rfl) (by simp [Value.oneCell']) ?_
   refine hK.out _ _ ?_
   clear hK K
   try simp only [E.pts]
   refine wpD_done (by kernel_rfl) ?_ _
   have hx2 : (y1'.setRow bx ([Value.int .i64 w2.i, .int .i64 0, .int .i64 w2.d, .int .i64 w2.r, .bool (!w2.ex)]).toArray).heap[bx]? = some (.cells ([Value.int .i64 w2.i, .int .i64 0, .int .i64 w2.d, .int .i64 w2.r, .bool (!w2.ex)]).toArray 45 (0, 0)) := setRow_heap y1' bx _ _ _ _ zv
   have hb2 : Below bx y1' (y1'.setRow bx ([Value.int .i64 w2.i, .int .i64 0, .int .i64 w2.d, .int .i64 w2.r, .bool (!w2.ex)]).toArray) := ⟨rfl, rfl, rfl, by rw [size_setRow]; exact Nat.le_refl _, fun i hi => setRow_other y1' bx i _ (by omega)⟩
   generalize y1'.setRow bx ([Value.int .i64 w2.i, .int .i64 0, .int .i64 w2.d, .int .i64 w2.r, .bool (!w2.ex)]).toArray = y4 at *
   have HNX : Y.Hd (W.heap.size < bx /\ W0.heap.size < bx /\ W1.heap.size < bx) := ⟨by have := HF.out.ab; have := HF.out.bg; have := HF.out.al; have := S.lt_of HF.out.rw; omega⟩
   have hbW : Below W3.heap.size W3 y4 := HB1.out.trans (hb2.mono hbw)
   replace HF := hid (HF.out.go (Gw.of hbW) (HF.out.rw.below hbW))
   have HX := hid hx2
   clear hx2 hb2 hbW zv HMK HB0 HB1 hHeld
   have q4 := HF.out.rw.cells.2.2.2.2.1
   go_upto_if 68 with fail
   clear q4
   go_cut [] (fun wc => OB W wc W.heap.size W0.heap.size W1.heap.size (.slice qk tl.length ck') (dfc d (.slice q d.body.length c)) w2 /\ wc.heap[bx]? = some (.cells [Value.int .i64 w2.i, .int .i64 (rout w2), .int .i64 w2.d, .int .i64 w2.r, .bool (!w2.ex)].toArray 45 (0, 0)))
   case first =>
    cases hex : w2.ex
    ·have HE : Y.Hd (rout w2 = 0) := ⟨by unfold rout; rw [hex]; rfl⟩
     go_wp2
     go_meet
     case rel => rw [HE.out]; exact ⟨HF.out, HX.out⟩
    ·have HE : Y.Hd (rout w2 = wrap64 (w2.i + w2.xh)) := ⟨by unfold rout; rw [hex]; rfl⟩
     go_upto_region 9 with fail
     have HB0 := hid (Below.refl y4.heap.size y4).drew
     have HMK : Y.Hd (∀ wz, Below y4.heap.size y4 wz -> (fun wz : World => wz.cell? ⟨W1.heap.size, 1, none⟩ = some (.int .i64 w2.i) /\ wz.cell? ⟨W1.heap.size, 5, none⟩ = some (.int .i64 w2.xh)) wz) := ⟨fun wz hz => by
      obtain ⟨r0, r1, r2, r3, r4, r5, r6, r7, r8⟩ := (HF.out.rw.below hz).cells
      exact ⟨r1, r5⟩⟩
     refine wp_region_drop [10] (S := fun wz : World => wz.cell? ⟨W1.heap.size, 1, none⟩ = some (.int .i64 w2.i) /\ wz.cell? ⟨W1.heap.size, 5, none⟩ = some (.int .i64 w2.xh)) (by kernel_rfl) (HMK.out _ HB0.out) (fun hHeld => ?_)
     generalize y4.drew = y0' at *
     have ew : IntKind.i64.wrap (w2.i + w2.xh) = wrap64 (w2.i + w2.xh) := IntWalk.i64_left _
     refine E.zD (is := [0, 1, 2, 3, 4, 5, 6, 7, 8, 9]) ?_
     iterate 10
      refine E.yD (v := ?_) rfl (by kernel_rfl) (fun c a w h => h) (by rfl) ?_ hHeld ?_
      rotate_left
      ·(intro w hSw; (try dsimp only at hSw); go_simp; try with_reducible rfl)
      simp only [E.pts]
     refine E.eD ?_
     refine wpD_ready (rs := [10]) (by kernel_rfl) (by simp) ?_
     refine AllD.late rfl (by kernel_rfl) (fun K hK => ?_)
     have vx := (HB0.out.block _ (S.lt_of HX.out)).trans HX.out
     have e1 := S.cell_of y0' bx 1 _ 45 _ vx rfl
     have f1 := S.frozen_of y0' bx 1 _ 45 vx
     go_simp
     refine hK.out _ _ ?_
     clear hK K
     try simp only [E.pts]
     refine wpD_done (by kernel_rfl) ?_ _
     have hx3 := S.setCell_heap y0' bx 1 _ 45 (.int .i64 (wrap64 (w2.i + w2.xh))) vx
     have hoth : ∀ i, i ≠ bx -> (y0'.setCell ⟨bx, 1, none⟩ (.int .i64 (wrap64 (w2.i + w2.xh)))).heap[i]? = y0'.heap[i]? := fun i hi => S.setCell_other _ _ _ _ _ hi
     have hsz : (y0'.setCell ⟨bx, 1, none⟩ (.int .i64 (wrap64 (w2.i + w2.xh)))).heap.size = y0'.heap.size := S.setCell_size _ _ _
     have HT : Y.Hd (OB W (y0'.setCell ⟨bx, 1, none⟩ (.int .i64 (wrap64 (w2.i + w2.xh)))) W.heap.size W0.heap.size W1.heap.size (.slice qk tl.length ck') (dfc d (.slice q d.body.length c)) w2) := ⟨(hoth _ (by have := HNX.out; omega)).trans ((HB0.out.block _ (S.lt_of HF.out.db)).trans HF.out.db), (hoth _ (by have := HNX.out; omega)).trans ((HB0.out.block _ (S.lt_of HF.out.rb)).trans HF.out.rb), (hoth _ (by have := HNX.out; omega)).trans (HF.out.rw.below HB0.out), HF.out.be.trans ⟨HB0.out.os, HB0.out.tape, HB0.out.output, by rw [hsz]; exact HB0.out.size, fun i hi => (hoth i (by have := HNX.out; omega)).trans (HB0.out.block i (Nat.lt_of_lt_of_le hi HF.out.be.size))⟩, HF.out.al, HF.out.ab, HF.out.bg⟩
     have HX3 := hid hx3
     clear hx3 hoth hsz vx e1 f1 HMK ew
     go_wp2
     go_meet
     case rel => rw [HE.out]; exact ⟨HT.out, HX3.out⟩
   case rest =>
    clear HF HX HNX
    obtain ⟨hF, hX⟩ := hcut
    obtain ⟨W4, hW4⟩ : ∃ wb, wb = wc := ⟨_, rfl⟩
    rw [<- hW4] at hF hX ⊢
    clear hW4
    generalize rout w2 = z at *
    obtain ⟨c0, c1, c2, c3, c4, c5⟩ := df_cells hF.db
    have x0 := S.cell_of W4 bx 0 _ 45 _ hX rfl
    have x1 := S.cell_of W4 bx 1 _ 45 _ hX rfl
    have x2 := S.cell_of W4 bx 2 _ 45 _ hX rfl
    have x3 := S.cell_of W4 bx 3 _ 45 _ hX rfl
    have x4 := S.cell_of W4 bx 4 _ 45 _ hX rfl
    have hst := hF.rb
    by_cases hz : 256 < z
    ·have dz : decide (256 < z) = true := decide_eq_true hz
     have HT := hid (hF.fin ⟨d.nm, 0, 0, 0, 0, false, 153, d.p⟩)
     replace HR : Y.Hd (R = ⟨d.nm, 0, 0, 0, 0, false, 153, d.p⟩) := ⟨by rw [HR.out, if_pos hz]⟩
     unfold tyc at HT
     clear hF hX hz
     go_wp2_with (refine wpList_store_row rfl 81 _ _ rfl W0.heap.size _ rfl rfl 81 _ hst (by exact sizeRT) (by rfl) (by simp [Value.oneCell']) ?_)
     refine bodyPost_ret (ty_end 4 rfl rfl HT.out.1) rfl ?_
     rw [HR.out]
     exact ⟨rfl, HT.out.2⟩
    ·have dz : decide (256 < z) = false := decide_eq_false hz
     have HT := hid (hF.fin ⟨d.nm, w2.i, z, w2.d, w2.r, !w2.ex, 0, (0, 0)⟩)
     replace HR : Y.Hd (R = ⟨d.nm, w2.i, z, w2.d, w2.r, !w2.ex, 0, (0, 0)⟩) := ⟨by rw [HR.out, if_neg hz]⟩
     unfold tyc at HT
     clear hF hX hz
     go_wp2_with (refine wpList_store_row rfl 81 _ _ rfl W0.heap.size _ rfl rfl 81 _ hst (by exact sizeRT) (by rfl) (by simp [Value.oneCell']) ?_)
     refine bodyPost_ret (ty_end 4 rfl rfl HT.out.1) rfl ?_
     rw [HR.out]
     exact ⟨rfl, HT.out.2⟩
  ·have d6 : (w2.e != 0) = true := by simpa using he
   replace HR : Y.Hd (R = ⟨d.nm, 0, 0, 0, 0, false, w2.e, w2.p⟩) := ⟨by rw [HR.out]; unfold rtyW; rw [if_neg he]⟩
   clear he
   go_upto_region 6 with fail
   have HB0 := hid (Below.refl W3.heap.size W3).drew
   have HMK : Y.Hd (∀ wz, Below W3.heap.size W3 wz -> (fun wz : World => wz.cell? ⟨W.heap.size, 1, none⟩ = some (.string d.nm) /\ wz.cell? ⟨W1.heap.size, 6, none⟩ = some (.int .i64 w2.e) /\ wz.cell? ⟨W1.heap.size, 7, none⟩ = some (.int .i64 w2.p.1) /\ wz.cell? ⟨W1.heap.size, 8, none⟩ = some (.int .i64 w2.p.2)) wz) := ⟨fun wz hz => by
    obtain ⟨r0, r1, r2, r3, r4, r5, r6, r7, r8⟩ := (HF.out.rw.below hz).cells
    obtain ⟨c0, c1, c2, c3, c4, c5⟩ := df_cells ((hz.block _ (S.lt_of HF.out.db)).trans HF.out.db)
    exact ⟨c1, r6, r7, r8⟩⟩
   clear c0 c1 c2 c3 c4 c5 r0 r1 r2 r3 r4 r5 r6 r7 r8
   refine wp_region_drop [11] (S := fun wz : World => wz.cell? ⟨W.heap.size, 1, none⟩ = some (.string d.nm) /\ wz.cell? ⟨W1.heap.size, 6, none⟩ = some (.int .i64 w2.e) /\ wz.cell? ⟨W1.heap.size, 7, none⟩ = some (.int .i64 w2.p.1) /\ wz.cell? ⟨W1.heap.size, 8, none⟩ = some (.int .i64 w2.p.2)) (by kernel_rfl) (HMK.out _ HB0.out) (fun hHeld => ?_)
   generalize W3.drew = y0 at *
   refine E.zD (is := [0, 1, 2, 3, 4, 5, 6, 7, 8, 9, 10]) ?_
   iterate 11
    refine E.yD (v := ?_) rfl (by kernel_rfl) (fun c a w h => h) (by rfl) ?_ hHeld ?_
    rotate_left
    ·(intro w hSw; (try dsimp only at hSw); go_simp; try with_reducible rfl)
    simp only [E.pts]
   refine E.eD ?_
   refine wpD_ready (rs := [11]) (by kernel_rfl) (by simp) ?_
   refine AllD.late rfl (by kernel_rfl) (fun K hK => ?_)
   have hF := HF.out.go (Gw.of HB0.out) (HF.out.rw.below HB0.out)
   have hst := hF.rb
   have HT := hid (hF.fin ⟨d.nm, 0, 0, 0, 0, false, w2.e, w2.p⟩)
   (try rw [if_pos (by rfl)])
   refine wp_store_row 81 _ _ rfl W0.heap.size (tyc ⟨d.nm, 0, 0, 0, 0, false, w2.e, w2.p⟩).toArray (by simp [Act.eval]) (by simp [Act.eval, tyc]) 81 _ hst (by exact sizeRT) (by rfl) (by simp [Value.oneCell', tyc]) ?_
   refine hK.out _ _ ?_
   clear hK K
   try simp only [E.pts]
   refine wpD_done (by kernel_rfl) ?_ _
   generalize y0.setRow W0.heap.size (tyc ⟨d.nm, 0, 0, 0, 0, false, w2.e, w2.p⟩).toArray = y5 at *
   clear hF hst
   go_wp2
   refine bodyPost_ret (ty_end 4 rfl rfl HT.out.1) rfl ?_
   rw [HR.out]
   exact ⟨rfl, HT.out.2⟩
end Go.Proofs.YtlilefhmohkfkaaGreatDoor.E
