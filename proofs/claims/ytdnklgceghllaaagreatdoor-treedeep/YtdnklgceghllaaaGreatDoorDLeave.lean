import Derived.Test.YtdnklgceghllaaaGreatDoorDDrop
import Derived.Test.YtdnklgceghllaaaGreatDoorDAddA
import Derived.Test.YtdnklgceghllaaaGreatDoorRFits
namespace Go.Proofs.YtdnklgceghllaaaGreatDoor.D
open Go.RowKit
open Go.Proofs
open Go.Proofs.YtdnklgceghllaaaGreatDoor.K (Tk)
open Go.Proofs.YtdnklgceghllaaaGreatDoor.Y (Nd Df Ps ndc dfc NV NA N1 ZV hid)
open Go.Proofs.YtdnklgceghllaaaGreatDoor.R (MP En numb)
set_option linter.unusedVariables false
set_option linter.unusedSimpArgs false
set_option maxHeartbeats 4000000
set_option maxRecDepth 100000
open Go.Proofs.YtdnklgceghllaaaGreatDoor.R (isDo_any)
def dos (l : List Nd) : Bool := l.any fun n => n.k == 8
theorem dos_take (l : List Nd) (k : Nat) (d : Nd) (h : l[k]? = some d) (h0 : dos (l.take k) = false) : dos (l.take (k + 1)) = (d.k == 8) := by
 unfold dos at *
 rw [List.take_add_one, h, List.any_append, h0]
 simp
theorem dos_of (l : List Nd) (k : Nat) (h : dos (l.take k) = true) : dos l = true := by
 unfold dos at *
 rw [<- List.take_append_drop k l, List.any_append, h, Bool.true_or]
def NR (W : World) (p : Option Addr) (l : List Nd) : Prop := ∀ (k : Nat) (n : Nd), l[k]? = some n -> ∃ b o q1 a1 d1 q2 a2 d2, p = some ⟨b, o, none⟩ /\ b < W.heap.size /\ ∀ (j : Nat) (x : Value), (ndc n (.slice q1 a1 d1) (.slice q2 a2 d2))[j]? = some x -> W.cell? ⟨b, o + k * 9 + j, none⟩ = some x
theorem cells9 {W : World} {b o : Nat} {n : Nd} {y z : Value} (h : ∀ (j : Nat) (x : Value), (ndc n y z)[j]? = some x -> W.cell? ⟨b, o + j, none⟩ = some x) : W.cell? ⟨b, o, none⟩ = some (.int .i64 n.k) /\ W.cell? ⟨b, o + 1, none⟩ = some (.int .i64 n.op) /\ W.cell? ⟨b, o + 2, none⟩ = some (.int .u16 n.v) /\ W.cell? ⟨b, o + 3, none⟩ = some (.string n.nm) /\ W.cell? ⟨b, o + 4, none⟩ = some y /\ W.cell? ⟨b, o + 5, none⟩ = some z /\ W.cell? ⟨b, o + 6, none⟩ = some (.bool n.has) /\ W.cell? ⟨b, o + 7, none⟩ = some (.int .i64 n.p.1) /\ W.cell? ⟨b, o + 8, none⟩ = some (.int .i64 n.p.2) :=
 ⟨h 0 _ rfl, h 1 _ rfl, h 2 _ rfl, h 3 _ rfl, h 4 _ rfl, h 5 _ rfl, h 6 _ rfl, h 7 _ rfl, h 8 _ rfl⟩
theorem indexDo (l : List Nd) (p : Option Addr) (c : Nat) (W : World) (hl : l.length <= 1000000) (hp : NR W p l) :
  Calls Tryz.prog 271 #[.slice p l.length c, .func (.func 157) #[] #[]] W fun e w' => ∃ z : Int, e = .returned (.int .i64 z) /\ decide (0 <= z) = dos l /\ Below W.heap.size W w' := by
 go_enter Tryz.func271, Tryz.ntmps271
 go_wp2
 go_loopw [8] (fun ix wr => ∃ k : Nat, k <= l.length /\ ix = .int .i64 (k : Int) /\ Below W.heap.size W wr /\ dos (l.take k) = false) (fun ix _ => l.length - (intOf ix).toNat)
 case atStart => exact ⟨0, by omega, rfl, Below.refl _ _, rfl⟩
 case round =>
  obtain ⟨k, hk, rfl, hb, hE⟩ := hrel
  by_cases hlt : k < l.length
  ·have i1 : (k : Int) < l.length := by omega
   have ea := List.getElem?_eq_getElem hlt
   generalize l[k] = d at *
   obtain ⟨b, o, q1, a1, d1, q2, a2, d2, rfl, hOb, hcl⟩ := hp k d ea
   have k1 := hb.block b hOb
   obtain ⟨g0, g1, g2, g3, g4, g5, g6, g7, g8⟩ := cells9 fun j x hx => (World.cell?_of_block (w := W) (a := ⟨b, o + k * 9 + j, none⟩) k1).trans (hcl j x hx)
   have hcall := isDo_any d q1 q2 a1 d1 a2 d2 wr
   unfold ndc at hcall
   have HT := hid (dos_take l k d ea hE)
   have HB := hid hb
   have HE := hid hE
   clear k1 hp hcl ea hE hb
   generalize hy : (d.k == 8) = y at *
   clear hy
   go_wp2_with fail
   refine hcall.mono ?_
   rintro e w3 ⟨rfl, hb3⟩
   have HB3 := hid (HB.out.trans (hb3.mono HB.out.size))
   clear hcall hb3 g0 g1 g2 g3 g4 g5 g6 g7 g8
   cases y
   ·go_wp2
    go_roundw
    case rel =>
     first
      | exact ⟨k + 1, by omega, by go_num, HB3.out, HT.out⟩
      | ((repeat apply Exists.intro); refine ⟨⟨k + 1, by omega, ?_, HB3.out, HT.out⟩, rfl⟩; go_num)
    case measure => simp [intOf]; omega
   ·go_wp2
    go_ret
    exact ⟨(k : Int), rfl, by rw [dos_of l _ HT.out]; simp, HB3.out⟩
  ·have i1 : ¬ (k : Int) < l.length := by omega
   rw [List.take_of_length_le (by omega)] at hE
   have HE := hid hE
   clear hE
   go_wp2
   go_ret
   exact ⟨-1, rfl, by rw [HE.out]; rfl, hb⟩
theorem containsDo (l : List Nd) (p : Option Addr) (c : Nat) (W : World) (hl : l.length <= 1000000) (hp : NR W p l) :
  Calls Tryz.prog 255 #[.slice p l.length c, .func (.func 157) #[] #[]] W fun e w' => e = .returned (.bool (dos l)) /\ Below W.heap.size W w' := by
 have hc := indexDo l p c W hl hp
 clear hp
 generalize hy : dos l = y at *
 clear hy
 go_enter Tryz.func255, Tryz.ntmps255
 go_wp2_with fail
 refine hc.mono ?_
 rintro e w1 ⟨z, rfl, hz, hb⟩
 have HB := hid hb
 clear hb hc
 go_wp2
 go_ret
 exact ⟨by first | rfl | (rw [<- hz]; rfl) | (simp [<- hz]; done), HB.out⟩
theorem RS.nr {W0 : World} {pm : Px} {g : Nat} {e : Ps} {W : World} {r : Rd} {q : Rv} (h : RS W0 pm g e W r q) : ∃ p c, q.ov = .slice p r.opn.length c /\ NR W p r.opn := by
 rcases h.ns.ow.val with ⟨e1, e2⟩ | ⟨g', cap, e1, hc, cur, hg⟩
 ·exact ⟨none, 0, by rw [e1, e2]; rfl, fun k n hk => by rw [e2] at hk; simp at hk⟩
 ·refine ⟨_, _, e1, fun k n hk => ?_⟩
  have hy : k < q.ys.length := by rw [h.ns.ow.len]; exact (List.getElem?_eq_some_iff.1 hk).1
  have hy2 := List.getElem?_eq_getElem hy
  obtain ⟨l1, l2⟩ := h.ns.lists k n _ hk hy2
  obtain ⟨p1, c1, h1⟩ := l1.ex
  obtain ⟨p2, c2, h2⟩ := l2.ex
  have hnO := h.ns.ow
  rw [e1] at hnO
  refine ⟨g', 0, p1, n.th.length, c1, p2, n.el.length, c2, rfl, (Array.getElem?_eq_some_iff.1 hg).1, fun j x hx => ?_⟩
  rw [Nat.zero_add]
  rw [<- h1, <- h2] at hx
  exact hnO.cell k n _ hk hy2 j x hx
theorem finish_no (W0 : World) (pm : Px) (g : Nat) (e : Ps) (W : World) (r : Rd) (q : Rv) (h : RS W0 pm g e W r q) (hb : Bd r) (hz : ¬ r.opn.length = 0) :
  Calls Tryz.prog 225 #[.pointer (some ⟨g, 0, none⟩)] W fun en w' => en = .panicked (flt (r.at_.p, 104)) /\ Below W.heap.size W w' := by
 obtain ⟨pb, cb, hov, hnr⟩ := h.nr
 have HM := hid (fun w => must_false r.at_ 104 w)
 unfold tkc at HM
 have HSX := hid (fun (w : World) (hR : RS W0 pm g e w r q) => show (w.cell? ⟨g, 13, none⟩ = some (.slice pb r.opn.length cb) /\ w.cell? ⟨g, 7, none⟩ = some (.int .i64 r.at_.k) /\ w.cell? ⟨g, 8, none⟩ = some (.string r.at_.t) /\ w.cell? ⟨g, 9, none⟩ = some (.int .u16 r.at_.v) /\ w.cell? ⟨g, 10, none⟩ = some (.int .i64 r.at_.p.1) /\ w.cell? ⟨g, 11, none⟩ = some (.int .i64 r.at_.p.2)) from by
  obtain ⟨_, _, _, _, _, _, _, x7, x8, x9, x10, x11, _, x13, _⟩ := rd_cells hR.blk
  exact ⟨by rw [<- hov]; exact x13, x7, x8, x9, x10, x11⟩)
 have j1 : ((r.opn.length : Int) == 0) = false := by simp only [beq_eq_false_iff_ne]; omega
 clear hz
 have HX := hid (And.intro h hb)
 clear h hb hov hnr
 go_enter Tryz.func225, Tryz.ntmps225
 go_upto_region 0 with fail
 have hR : RS W0 pm g e W.drew r q := HX.out.1.next ⟨rfl, rfl, rfl, Nat.le_refl _, fun _ _ => rfl⟩
 have hB0 : Below W.heap.size W W.drew := ⟨rfl, rfl, rfl, Nat.le_refl _, fun _ _ => rfl⟩
 refine wp_region_held_drew (S := fun wz : World => wz.cell? ⟨g, 13, none⟩ = some (.slice pb r.opn.length cb) /\ wz.cell? ⟨g, 7, none⟩ = some (.int .i64 r.at_.k) /\ wz.cell? ⟨g, 8, none⟩ = some (.string r.at_.t) /\ wz.cell? ⟨g, 9, none⟩ = some (.int .u16 r.at_.v) /\ wz.cell? ⟨g, 10, none⟩ = some (.int .i64 r.at_.p.1) /\ wz.cell? ⟨g, 11, none⟩ = some (.int .i64 r.at_.p.2)) (by kernel_rfl) (HSX.out _ hR) (fun hHeld => ?_)
 generalize W.drew = y0 at *
 refine D.zH (is := [0, 1, 2, 3, 4, 5, 6, 7, 8, 9]) ?_
 iterate 10
  refine D.yH (v := ?_) rfl (by kernel_rfl) (fun c a w h => h) (by rfl) ?_ hHeld ?_
  rotate_left
  ·(intro w hSw; (try dsimp only at hSw); go_simp; try with_reducible rfl)
  simp only [D.pts]
 refine D.eH ?_
 refine wpAnyH_ready (rs := [10]) (by kernel_rfl) (by simp) ?_
 refine AllReadyH.cons rfl (fun K hK => ?_) AllReadyH.nil
 rw [if_pos (by rfl)]
 go_simp
 refine (HM.out y0).mono ?_
 rintro e' y9 ⟨rfl, hb9⟩
 exact ⟨rfl, rfl, hB0.trans (hb9.mono hB0.size)⟩
theorem finish_yes (W0 : World) (pm : Px) (g : Nat) (e : Ps) (W : World) (r : Rd) (q : Rv) (h : RS W0 pm g e W r q) (hb : Bd r) (hz : r.opn.length = 0) :
  Calls Tryz.prog 225 #[.pointer (some ⟨g, 0, none⟩)] W fun en w' => en = .returned (.tuple #[]) /\ ∃ q', RS W0 pm g e w' { r with ended := true } q' := by
 obtain ⟨pb, cb, hov, hnr⟩ := h.nr
 have HM := hid (fun w => must_true r.at_ 104 w)
 unfold tkc at HM
 have HSX := hid (fun (w : World) (hR : RS W0 pm g e w r q) => show (w.cell? ⟨g, 13, none⟩ = some (.slice pb r.opn.length cb) /\ w.cell? ⟨g, 7, none⟩ = some (.int .i64 r.at_.k) /\ w.cell? ⟨g, 8, none⟩ = some (.string r.at_.t) /\ w.cell? ⟨g, 9, none⟩ = some (.int .u16 r.at_.v) /\ w.cell? ⟨g, 10, none⟩ = some (.int .i64 r.at_.p.1) /\ w.cell? ⟨g, 11, none⟩ = some (.int .i64 r.at_.p.2)) from by
  obtain ⟨_, _, _, _, _, _, _, x7, x8, x9, x10, x11, _, x13, _⟩ := rd_cells hR.blk
  exact ⟨by rw [<- hov]; exact x13, x7, x8, x9, x10, x11⟩)
 have j1 : ((r.opn.length : Int) == 0) = true := by rw [hz]; rfl
 clear hz
 have HX := hid (And.intro h hb)
 clear h hb hov hnr
 go_enter Tryz.func225, Tryz.ntmps225
 go_upto_region 0 with fail
 have hR : RS W0 pm g e W.drew r q := HX.out.1.next ⟨rfl, rfl, rfl, Nat.le_refl _, fun _ _ => rfl⟩
 have hB0 : Below W.heap.size W W.drew := ⟨rfl, rfl, rfl, Nat.le_refl _, fun _ _ => rfl⟩
 refine wp_region_held_drew (S := fun wz : World => wz.cell? ⟨g, 13, none⟩ = some (.slice pb r.opn.length cb) /\ wz.cell? ⟨g, 7, none⟩ = some (.int .i64 r.at_.k) /\ wz.cell? ⟨g, 8, none⟩ = some (.string r.at_.t) /\ wz.cell? ⟨g, 9, none⟩ = some (.int .u16 r.at_.v) /\ wz.cell? ⟨g, 10, none⟩ = some (.int .i64 r.at_.p.1) /\ wz.cell? ⟨g, 11, none⟩ = some (.int .i64 r.at_.p.2)) (by kernel_rfl) (HSX.out _ hR) (fun hHeld => ?_)
 generalize W.drew = y0 at *
 refine D.zH (is := [0, 1, 2, 3, 4, 5, 6, 7, 8, 9]) ?_
 iterate 10
  refine D.yH (v := ?_) rfl (by kernel_rfl) (fun c a w h => h) (by rfl) ?_ hHeld ?_
  rotate_left
  ·(intro w hSw; (try dsimp only at hSw); go_simp; try with_reducible rfl)
  simp only [D.pts]
 refine D.eH ?_
 refine wpAnyH_ready (rs := [10]) (by kernel_rfl) (by simp) ?_
 refine AllReadyH.cons rfl (fun K hK => ?_) AllReadyH.nil
 rw [if_pos (by rfl)]
 go_simp
 refine (HM.out y0).mono ?_
 rintro e' y9 ⟨rfl, hb9⟩
 have hR9 := hR.next hb9
 refine hK.out _ _ (HSX.out _ hR9) (fun hHeld => ?_)
 clear hK K
 try simp only [D.pts]
 refine wpAnyH_done (by kernel_rfl) ?_ _
 have HR9 := hid hR9
 have x14 := (rd_cells hR9.blk).2.2.2.2.2.2.2.2.2.2.2.2.2.2
 have f14 := S.frozen_of y9 g 14 _ _ hR9.blk
 clear hHeld hR hR9 hB0 hb9 HM HSX
 go_wp2
 go_end0
 refine ⟨rfl, q, HR9.out.own 14 (.bool true) rfl rfl rfl rfl rfl HR9.out.rest rfl rfl rfl rfl rfl rfl rfl rfl rfl rfl⟩
theorem leave_no (W0 : World) (pm : Px) (g : Nat) (e : Ps) (W : World) (r : Rd) (q : Rv) (h : RS W0 pm g e W r q) (hb : Bd r) (hd : dos r.opn = true) :
  Calls Tryz.prog 224 #[.pointer (some ⟨g, 0, none⟩)] W fun en w' => en = .panicked (flt (r.at_.p, 108)) /\ Below W.heap.size W w' := by
 obtain ⟨pb, cb, hov, hnr⟩ := h.nr
 have HM := hid (fun w => must_false r.at_ 108 w)
 unfold tkc at HM
 have HSX := hid (fun (w : World) (hR : RS W0 pm g e w r q) => show (w.cell? ⟨g, 13, none⟩ = some (.slice pb r.opn.length cb) /\ w.cell? ⟨g, 7, none⟩ = some (.int .i64 r.at_.k) /\ w.cell? ⟨g, 8, none⟩ = some (.string r.at_.t) /\ w.cell? ⟨g, 9, none⟩ = some (.int .u16 r.at_.v) /\ w.cell? ⟨g, 10, none⟩ = some (.int .i64 r.at_.p.1) /\ w.cell? ⟨g, 11, none⟩ = some (.int .i64 r.at_.p.2)) from by
  obtain ⟨_, _, _, _, _, _, _, x7, x8, x9, x10, x11, _, x13, _⟩ := rd_cells hR.blk
  exact ⟨by rw [<- hov]; exact x13, x7, x8, x9, x10, x11⟩)
 have HC := hid (fun (w : World) (hbw : Below W.heap.size W w) => containsDo r.opn pb cb w hb.opn (fun k n hk => by
  obtain ⟨b, o, q1, a1, d1, q2, a2, d2, e1, e2, e3⟩ := hnr k n hk
  exact ⟨b, o, q1, a1, d1, q2, a2, d2, e1, Nat.lt_of_lt_of_le e2 hbw.size, fun j x hx => (hbw.cell e2).trans (e3 j x hx)⟩))
 rw [hd] at HC
 clear hd
 have HX := hid (And.intro h hb)
 clear h hb hov hnr
 go_enter Tryz.func224, Tryz.ntmps224
 go_upto_region 0 with fail
 have hR : RS W0 pm g e W.drew r q := HX.out.1.next ⟨rfl, rfl, rfl, Nat.le_refl _, fun _ _ => rfl⟩
 have hB0 : Below W.heap.size W W.drew := ⟨rfl, rfl, rfl, Nat.le_refl _, fun _ _ => rfl⟩
 refine wp_region_held_drew (S := fun wz : World => wz.cell? ⟨g, 13, none⟩ = some (.slice pb r.opn.length cb) /\ wz.cell? ⟨g, 7, none⟩ = some (.int .i64 r.at_.k) /\ wz.cell? ⟨g, 8, none⟩ = some (.string r.at_.t) /\ wz.cell? ⟨g, 9, none⟩ = some (.int .u16 r.at_.v) /\ wz.cell? ⟨g, 10, none⟩ = some (.int .i64 r.at_.p.1) /\ wz.cell? ⟨g, 11, none⟩ = some (.int .i64 r.at_.p.2)) (by kernel_rfl) (HSX.out _ hR) (fun hHeld => ?_)
 generalize W.drew = y0 at *
 refine D.zH (is := [0, 1, 2, 3, 6, 7, 8, 9]) ?_
 iterate 8
  refine D.yH (v := ?_) rfl (by kernel_rfl) (fun c a w h => h) (by rfl) ?_ hHeld ?_
  rotate_left
  ·(intro w hSw; (try dsimp only at hSw); go_simp; try with_reducible rfl)
  simp only [D.pts]
 refine D.eH ?_
 refine wpAnyH_ready (rs := [4]) (by kernel_rfl) (by simp) ?_
 refine AllReadyH.cons rfl (fun K hK => ?_) AllReadyH.nil
 rw [if_pos (by rfl)]
 go_simp
 refine (HC.out y0 hB0).mono ?_
 rintro e' y1 ⟨rfl, hb1⟩
 have hR1 := hR.next hb1
 have hB2 := hB0.trans (hb1.mono hB0.size)
 refine hK.out _ _ (HSX.out _ hR1) (fun hHeld => ?_)
 clear hK K
 try simp only [D.pts]
 refine D.xH 5 (v := ?_) rfl (by kernel_rfl) (fun c a w h => h) (by rfl) ?_ hHeld ?_
 rotate_left
 ·(intro w hSw; (try dsimp only at hSw); go_simp; try with_reducible rfl)
 simp only [D.pts]
 refine wpAnyH_ready (rs := [10]) (by kernel_rfl) (by simp) ?_
 refine AllReadyH.cons rfl (fun K hK => ?_) AllReadyH.nil
 rw [if_pos (by rfl)]
 go_simp
 refine (HM.out y1).mono ?_
 rintro e' y9 ⟨rfl, hb9⟩
 exact ⟨rfl, rfl, hB2.trans (hb9.mono hB2.size)⟩
theorem leave_yes (W0 : World) (pm : Px) (g : Nat) (e : Ps) (W : World) (r : Rd) (q : Rv) (h : RS W0 pm g e W r q) (hb : Bd r) (hd : dos r.opn = false) :
  Calls Tryz.prog 224 #[.pointer (some ⟨g, 0, none⟩)] W fun en w' => en = .returned (.tuple #[]) /\ ∃ q', RS W0 pm g e w' (add (ext r.at_.p) r) q' := by
 obtain ⟨pb, cb, hov, hnr⟩ := h.nr
 have HM := hid (fun w => must_true r.at_ 108 w)
 unfold tkc at HM
 have HSX := hid (fun (w : World) (hR : RS W0 pm g e w r q) => show (w.cell? ⟨g, 13, none⟩ = some (.slice pb r.opn.length cb) /\ w.cell? ⟨g, 7, none⟩ = some (.int .i64 r.at_.k) /\ w.cell? ⟨g, 8, none⟩ = some (.string r.at_.t) /\ w.cell? ⟨g, 9, none⟩ = some (.int .u16 r.at_.v) /\ w.cell? ⟨g, 10, none⟩ = some (.int .i64 r.at_.p.1) /\ w.cell? ⟨g, 11, none⟩ = some (.int .i64 r.at_.p.2)) from by
  obtain ⟨_, _, _, _, _, _, _, x7, x8, x9, x10, x11, _, x13, _⟩ := rd_cells hR.blk
  exact ⟨by rw [<- hov]; exact x13, x7, x8, x9, x10, x11⟩)
 have HC := hid (fun (w : World) (hbw : Below W.heap.size W w) => containsDo r.opn pb cb w hb.opn (fun k n hk => by
  obtain ⟨b, o, q1, a1, d1, q2, a2, d2, e1, e2, e3⟩ := hnr k n hk
  exact ⟨b, o, q1, a1, d1, q2, a2, d2, e1, Nat.lt_of_lt_of_le e2 hbw.size, fun j x hx => (hbw.cell e2).trans (e3 j x hx)⟩))
 rw [hd] at HC
 clear hd
 have HX := hid (And.intro h hb)
 clear h hb hov hnr
 go_enter Tryz.func224, Tryz.ntmps224
 go_upto_region 0 with fail
 have hR : RS W0 pm g e W.drew r q := HX.out.1.next ⟨rfl, rfl, rfl, Nat.le_refl _, fun _ _ => rfl⟩
 have hB0 : Below W.heap.size W W.drew := ⟨rfl, rfl, rfl, Nat.le_refl _, fun _ _ => rfl⟩
 refine wp_region_held_drew (S := fun wz : World => wz.cell? ⟨g, 13, none⟩ = some (.slice pb r.opn.length cb) /\ wz.cell? ⟨g, 7, none⟩ = some (.int .i64 r.at_.k) /\ wz.cell? ⟨g, 8, none⟩ = some (.string r.at_.t) /\ wz.cell? ⟨g, 9, none⟩ = some (.int .u16 r.at_.v) /\ wz.cell? ⟨g, 10, none⟩ = some (.int .i64 r.at_.p.1) /\ wz.cell? ⟨g, 11, none⟩ = some (.int .i64 r.at_.p.2)) (by kernel_rfl) (HSX.out _ hR) (fun hHeld => ?_)
 generalize W.drew = y0 at *
 refine D.zH (is := [0, 1, 2, 3, 6, 7, 8, 9]) ?_
 iterate 8
  refine D.yH (v := ?_) rfl (by kernel_rfl) (fun c a w h => h) (by rfl) ?_ hHeld ?_
  rotate_left
  ·(intro w hSw; (try dsimp only at hSw); go_simp; try with_reducible rfl)
  simp only [D.pts]
 refine D.eH ?_
 refine wpAnyH_ready (rs := [4]) (by kernel_rfl) (by simp) ?_
 refine AllReadyH.cons rfl (fun K hK => ?_) AllReadyH.nil
 rw [if_pos (by rfl)]
 go_simp
 refine (HC.out y0 hB0).mono ?_
 rintro e' y1 ⟨rfl, hb1⟩
 have hR1 := hR.next hb1
 have hB2 := hB0.trans (hb1.mono hB0.size)
 refine hK.out _ _ (HSX.out _ hR1) (fun hHeld => ?_)
 clear hK K
 try simp only [D.pts]
 refine D.xH 5 (v := ?_) rfl (by kernel_rfl) (fun c a w h => h) (by rfl) ?_ hHeld ?_
 rotate_left
 ·(intro w hSw; (try dsimp only at hSw); go_simp; try with_reducible rfl)
 simp only [D.pts]
 refine wpAnyH_ready (rs := [10]) (by kernel_rfl) (by simp) ?_
 refine AllReadyH.cons rfl (fun K hK => ?_) AllReadyH.nil
 rw [if_pos (by rfl)]
 go_simp
 refine (HM.out y1).mono ?_
 rintro e' y9 ⟨rfl, hb9⟩
 have hR9 := hR1.next hb9
 refine hK.out _ _ (HSX.out _ hR9) (fun hHeld => ?_)
 clear hK K
 try simp only [D.pts]
 refine wpAnyH_done (by kernel_rfl) ?_ _
 have HR9 := hid hR9
 obtain ⟨_, _, _, _, _, _, _, x7, x8, x9, x10, x11, _⟩ := rd_cells hR9.blk
 have hadd := add_any W0 pm g e y9 r q hR9 HX.out.2 (ext r.at_.p) (.slice none 0 0) (.slice none 0 0) (NV.nil (.inl rfl)) (NV.nil (.inl rfl))
 unfold ndc ext at hadd
 clear hHeld hR hR1 hR9 hB0 hB2 hb1 hb9 HM HSX HC
 go_wp2_with fail
 refine hadd.mono ?_
 rintro e' w9 ⟨rfl, hq⟩
 have HQ := hid hq
 clear hq hadd x7 x8 x9 x10 x11
 go_wp2
 go_end0
 exact ⟨rfl, HQ.out⟩
set_option maxHeartbeats 4000000
set_option maxRecDepth 100000
theorem RS.err {W0 : World} {pm : Px} {g : Nat} {e : Ps} {W w' : World} {r : Rd} {q : Rv} (h : RS W0 pm g e W r q) (hb : Below W.heap.size W w') : Bx W0 pm w' := h.core.err hb
theorem ro_ok {W0 : World} {pm : Px} {g : Nat} {e : Ps} {val : Rd -> Value} {r : Rd} {en : Ending} {w' : World} (h1 : en = .returned (val r)) (h2 : ∃ q, RS W0 pm g e w' r q) : RO W0 pm g e val (.ok r) en w' := ⟨h1, h2⟩
theorem ro_er {W0 : World} {pm : Px} {g : Nat} {e : Ps} {val : Rd -> Value} {er : Er} {en : Ending} {w' : World} (h1 : en = .panicked (flt er)) (h2 : Bx W0 pm w') : RO W0 pm g e val (.error er) en w' := ⟨h1, h2⟩
theorem must_t (t : Tk) (c : Int) : must true t c = .ok () := rfl
theorem must_f (t : Tk) (c : Int) : must false t c = .error (t.p, c) := rfl
theorem stand_some {r : Rd} {k : Int} (h : standIn k r = true) : ∃ t, r.opn.getLast? = some t /\ t.k = k := by
 unfold standIn at h
 cases hl : r.opn.getLast? with
 | none => rw [hl] at h; cases h
 | some t => rw [hl] at h; exact ⟨t, rfl, by simpa using h⟩
theorem begin_any (W0 : World) (pm : Px) (g : Nat) (e : Ps) (W : World) (r : Rd) (q : Rv) (h : RS W0 pm g e W r q) (hb : Bd r) (k : Int) :
  Calls Tryz.prog 252 #[.pointer (some ⟨g, 0, none⟩), .int .i64 k] W (RO W0 pm g e (fun _ => .tuple #[]) (begin_ k r)) := by
 unfold begin_
 by_cases hd : r.opn.length < 32
 ·rw [decide_eq_true hd, must_t]
  refine (begin_yes W0 pm g e W r q h hb k hd).mono ?_
  rintro en w' ⟨h1, h2⟩
  exact ro_ok h1 h2
 ·rw [decide_eq_false hd, must_f]
  refine (begin_no W0 pm g e W r q h hb k hd).mono ?_
  rintro en w' ⟨h1, h2⟩
  exact ro_er h1 (h.err h2)
theorem close_any (W0 : World) (pm : Px) (g : Nat) (e : Ps) (W : World) (r : Rd) (q : Rv) (h : RS W0 pm g e W r q) (hb : Bd r) (k bk : Int) :
  Calls Tryz.prog 254 #[.pointer (some ⟨g, 0, none⟩), .int .i64 k, .int .i64 bk] W (RO W0 pm g e (fun _ => .tuple #[]) (close k bk r)) := by
 unfold close
 cases hs : standIn k r with
 | true =>
  obtain ⟨t, hl, hk⟩ := stand_some hs
  rw [must_t, hl]
  refine (close_yes W0 pm g e W r q h hb k bk t hl hk).mono ?_
  rintro en w' ⟨h1, h2⟩
  exact ro_ok h1 h2
 | false =>
  rw [must_f]
  refine (close_no W0 pm g e W r q h hb k bk hs).mono ?_
  rintro en w' ⟨h1, h2⟩
  exact ro_er h1 (h.err h2)
theorem while_any (W0 : World) (pm : Px) (g : Nat) (e : Ps) (W : World) (r : Rd) (q : Rv) (h : RS W0 pm g e W r q) (hb : Bd r) :
  Calls Tryz.prog 220 #[.pointer (some ⟨g, 0, none⟩)] W (RO W0 pm g e (fun _ => .tuple #[]) (turnWhile r)) := by
 unfold turnWhile
 cases hs : standIn 0 r with
 | true =>
  obtain ⟨t, hl, hk⟩ := stand_some hs
  rw [must_t, hl]
  refine (while_yes W0 pm g e W r q h hb t hl hk).mono ?_
  rintro en w' ⟨h1, h2⟩
  exact ro_ok h1 h2
 | false =>
  rw [must_f]
  refine (while_no W0 pm g e W r q h hb hs).mono ?_
  rintro en w' ⟨h1, h2⟩
  exact ro_er h1 (h.err h2)
theorem else_any (W0 : World) (pm : Px) (g : Nat) (e : Ps) (W : World) (r : Rd) (q : Rv) (h : RS W0 pm g e W r q) (hb : Bd r) :
  Calls Tryz.prog 215 #[.pointer (some ⟨g, 0, none⟩)] W (RO W0 pm g e (fun _ => .tuple #[]) (turnElse r)) := by
 unfold turnElse
 cases hs : standIn 4 r with
 | true =>
  obtain ⟨t, hl, hk⟩ := stand_some hs
  rw [must_t, hl]
  cases hh : t.has with
  | false =>
   refine (else_yes W0 pm g e W r q h hb t hl hk hh).mono ?_
   rintro en w' ⟨h1, h2⟩
   show RO W0 pm g e _ (do must (!t.has) r.at_ 104; Except.ok { r with opn := r.opn.dropLast ++ [setHas t] }) en w'
   rw [hh]
   exact ro_ok h1 h2
  | true =>
   refine (else_has W0 pm g e W r q h hb t hl hk hh).mono ?_
   rintro en w' ⟨h1, h2⟩
   show RO W0 pm g e _ (do must (!t.has) r.at_ 104; Except.ok { r with opn := r.opn.dropLast ++ [setHas t] }) en w'
   rw [hh]
   exact ro_er h1 (h.err h2)
 | false =>
  rw [must_f]
  refine (else_no W0 pm g e W r q h hb hs).mono ?_
  rintro en w' ⟨h1, h2⟩
  exact ro_er h1 (h.err h2)
theorem leave_any (W0 : World) (pm : Px) (g : Nat) (e : Ps) (W : World) (r : Rd) (q : Rv) (h : RS W0 pm g e W r q) (hb : Bd r) :
  Calls Tryz.prog 224 #[.pointer (some ⟨g, 0, none⟩)] W (RO W0 pm g e (fun _ => .tuple #[]) (leave r)) := by
 unfold leave
 show Calls _ _ _ _ (RO W0 pm g e _ (do must (!dos r.opn) r.at_ 108; Except.ok (add (ext r.at_.p) r)))
 cases hs : dos r.opn with
 | false =>
  refine (leave_yes W0 pm g e W r q h hb hs).mono ?_
  rintro en w' ⟨h1, h2⟩
  exact ro_ok h1 h2
 | true =>
  refine (leave_no W0 pm g e W r q h hb hs).mono ?_
  rintro en w' ⟨h1, h2⟩
  exact ro_er h1 (h.err h2)
theorem finish_any (W0 : World) (pm : Px) (g : Nat) (e : Ps) (W : World) (r : Rd) (q : Rv) (h : RS W0 pm g e W r q) (hb : Bd r) :
  Calls Tryz.prog 225 #[.pointer (some ⟨g, 0, none⟩)] W (RO W0 pm g e (fun _ => .tuple #[]) (finish r)) := by
 unfold finish
 by_cases hz : r.opn.length = 0
 ·rw [show (r.opn.length == 0) = true by simpa using hz, must_t]
  refine (finish_yes W0 pm g e W r q h hb hz).mono ?_
  rintro en w' ⟨h1, h2⟩
  exact ro_ok h1 h2
 ·rw [show (r.opn.length == 0) = false by simpa using hz, must_f]
  refine (finish_no W0 pm g e W r q h hb hz).mono ?_
  rintro en w' ⟨h1, h2⟩
  exact ro_er h1 (h.err h2)
theorem openIf_any (W0 : World) (pm : Px) (g : Nat) (e : Ps) (W : World) (r : Rd) (q : Rv) (h : RS W0 pm g e W r q) (hb : Bd r) :
  Calls Tryz.prog 214 #[.pointer (some ⟨g, 0, none⟩)] W (RO W0 pm g e (fun _ => .tuple #[]) (begin_ 4 r)) := by
 have hc := begin_any W0 pm g e W r q h hb 4
 clear h hb
 generalize begin_ 4 r = res at *
 cases res with
 | ok r' =>
  have hc' : Calls _ _ _ _ (fun en w' => en = .returned (.tuple #[]) /\ ∃ q, RS W0 pm g e w' r' q) := hc
  clear hc
  go_enter Tryz.func214, Tryz.ntmps214
  go_wp2_with fail
  refine hc'.mono ?_
  rintro e' w1 ⟨rfl, h1⟩
  have H1 := hid h1
  clear h1 hc'
  go_wp2
  go_end0
  exact ro_ok rfl H1.out
 | error er =>
  have hc' : Calls _ _ _ _ (fun en w' => en = .panicked (flt er) /\ Bx W0 pm w') := hc
  clear hc
  go_enter Tryz.func214, Tryz.ntmps214
  go_wp2_with fail
  refine hc'.mono ?_
  rintro e' w1 ⟨rfl, h1⟩
  exact ⟨rfl, ro_er rfl h1⟩
theorem openBegin_any (W0 : World) (pm : Px) (g : Nat) (e : Ps) (W : World) (r : Rd) (q : Rv) (h : RS W0 pm g e W r q) (hb : Bd r) :
  Calls Tryz.prog 217 #[.pointer (some ⟨g, 0, none⟩)] W (RO W0 pm g e (fun _ => .tuple #[]) (begin_ 0 r)) := by
 have hc := begin_any W0 pm g e W r q h hb 0
 clear h hb
 generalize begin_ 0 r = res at *
 cases res with
 | ok r' =>
  have hc' : Calls _ _ _ _ (fun en w' => en = .returned (.tuple #[]) /\ ∃ q, RS W0 pm g e w' r' q) := hc
  clear hc
  go_enter Tryz.func217, Tryz.ntmps217
  go_wp2_with fail
  refine hc'.mono ?_
  rintro e' w1 ⟨rfl, h1⟩
  have H1 := hid h1
  clear h1 hc'
  go_wp2
  go_end0
  exact ro_ok rfl H1.out
 | error er =>
  have hc' : Calls _ _ _ _ (fun en w' => en = .panicked (flt er) /\ Bx W0 pm w') := hc
  clear hc
  go_enter Tryz.func217, Tryz.ntmps217
  go_wp2_with fail
  refine hc'.mono ?_
  rintro e' w1 ⟨rfl, h1⟩
  exact ⟨rfl, ro_er rfl h1⟩
theorem openDo_any (W0 : World) (pm : Px) (g : Nat) (e : Ps) (W : World) (r : Rd) (q : Rv) (h : RS W0 pm g e W r q) (hb : Bd r) :
  Calls Tryz.prog 222 #[.pointer (some ⟨g, 0, none⟩)] W (RO W0 pm g e (fun _ => .tuple #[]) (begin_ 8 r)) := by
 have hc := begin_any W0 pm g e W r q h hb 8
 clear h hb
 generalize begin_ 8 r = res at *
 cases res with
 | ok r' =>
  have hc' : Calls _ _ _ _ (fun en w' => en = .returned (.tuple #[]) /\ ∃ q, RS W0 pm g e w' r' q) := hc
  clear hc
  go_enter Tryz.func222, Tryz.ntmps222
  go_wp2_with fail
  refine hc'.mono ?_
  rintro e' w1 ⟨rfl, h1⟩
  have H1 := hid h1
  clear h1 hc'
  go_wp2
  go_end0
  exact ro_ok rfl H1.out
 | error er =>
  have hc' : Calls _ _ _ _ (fun en w' => en = .panicked (flt er) /\ Bx W0 pm w') := hc
  clear hc
  go_enter Tryz.func222, Tryz.ntmps222
  go_wp2_with fail
  refine hc'.mono ?_
  rintro e' w1 ⟨rfl, h1⟩
  exact ⟨rfl, ro_er rfl h1⟩
theorem closeThen_any (W0 : World) (pm : Px) (g : Nat) (e : Ps) (W : World) (r : Rd) (q : Rv) (h : RS W0 pm g e W r q) (hb : Bd r) :
  Calls Tryz.prog 216 #[.pointer (some ⟨g, 0, none⟩)] W (RO W0 pm g e (fun _ => .tuple #[]) (close 4 4 r)) := by
 have hc := close_any W0 pm g e W r q h hb 4 4
 clear h hb
 generalize close 4 4 r = res at *
 cases res with
 | ok r' =>
  have hc' : Calls _ _ _ _ (fun en w' => en = .returned (.tuple #[]) /\ ∃ q, RS W0 pm g e w' r' q) := hc
  clear hc
  go_enter Tryz.func216, Tryz.ntmps216
  go_wp2_with fail
  refine hc'.mono ?_
  rintro e' w1 ⟨rfl, h1⟩
  have H1 := hid h1
  clear h1 hc'
  go_wp2
  go_end0
  exact ro_ok rfl H1.out
 | error er =>
  have hc' : Calls _ _ _ _ (fun en w' => en = .panicked (flt er) /\ Bx W0 pm w') := hc
  clear hc
  go_enter Tryz.func216, Tryz.ntmps216
  go_wp2_with fail
  refine hc'.mono ?_
  rintro e' w1 ⟨rfl, h1⟩
  exact ⟨rfl, ro_er rfl h1⟩
theorem closeUntil_any (W0 : World) (pm : Px) (g : Nat) (e : Ps) (W : World) (r : Rd) (q : Rv) (h : RS W0 pm g e W r q) (hb : Bd r) :
  Calls Tryz.prog 218 #[.pointer (some ⟨g, 0, none⟩)] W (RO W0 pm g e (fun _ => .tuple #[]) (close 0 5 r)) := by
 have hc := close_any W0 pm g e W r q h hb 0 5
 clear h hb
 generalize close 0 5 r = res at *
 cases res with
 | ok r' =>
  have hc' : Calls _ _ _ _ (fun en w' => en = .returned (.tuple #[]) /\ ∃ q, RS W0 pm g e w' r' q) := hc
  clear hc
  go_enter Tryz.func218, Tryz.ntmps218
  go_wp2_with fail
  refine hc'.mono ?_
  rintro e' w1 ⟨rfl, h1⟩
  have H1 := hid h1
  clear h1 hc'
  go_wp2
  go_end0
  exact ro_ok rfl H1.out
 | error er =>
  have hc' : Calls _ _ _ _ (fun en w' => en = .panicked (flt er) /\ Bx W0 pm w') := hc
  clear hc
  go_enter Tryz.func218, Tryz.ntmps218
  go_wp2_with fail
  refine hc'.mono ?_
  rintro e' w1 ⟨rfl, h1⟩
  exact ⟨rfl, ro_er rfl h1⟩
theorem closeAgain_any (W0 : World) (pm : Px) (g : Nat) (e : Ps) (W : World) (r : Rd) (q : Rv) (h : RS W0 pm g e W r q) (hb : Bd r) :
  Calls Tryz.prog 219 #[.pointer (some ⟨g, 0, none⟩)] W (RO W0 pm g e (fun _ => .tuple #[]) (close 0 7 r)) := by
 have hc := close_any W0 pm g e W r q h hb 0 7
 clear h hb
 generalize close 0 7 r = res at *
 cases res with
 | ok r' =>
  have hc' : Calls _ _ _ _ (fun en w' => en = .returned (.tuple #[]) /\ ∃ q, RS W0 pm g e w' r' q) := hc
  clear hc
  go_enter Tryz.func219, Tryz.ntmps219
  go_wp2_with fail
  refine hc'.mono ?_
  rintro e' w1 ⟨rfl, h1⟩
  have H1 := hid h1
  clear h1 hc'
  go_wp2
  go_end0
  exact ro_ok rfl H1.out
 | error er =>
  have hc' : Calls _ _ _ _ (fun en w' => en = .panicked (flt er) /\ Bx W0 pm w') := hc
  clear hc
  go_enter Tryz.func219, Tryz.ntmps219
  go_wp2_with fail
  refine hc'.mono ?_
  rintro e' w1 ⟨rfl, h1⟩
  exact ⟨rfl, ro_er rfl h1⟩
theorem closeRepeat_any (W0 : World) (pm : Px) (g : Nat) (e : Ps) (W : World) (r : Rd) (q : Rv) (h : RS W0 pm g e W r q) (hb : Bd r) :
  Calls Tryz.prog 221 #[.pointer (some ⟨g, 0, none⟩)] W (RO W0 pm g e (fun _ => .tuple #[]) (close 6 6 r)) := by
 have hc := close_any W0 pm g e W r q h hb 6 6
 clear h hb
 generalize close 6 6 r = res at *
 cases res with
 | ok r' =>
  have hc' : Calls _ _ _ _ (fun en w' => en = .returned (.tuple #[]) /\ ∃ q, RS W0 pm g e w' r' q) := hc
  clear hc
  go_enter Tryz.func221, Tryz.ntmps221
  go_wp2_with fail
  refine hc'.mono ?_
  rintro e' w1 ⟨rfl, h1⟩
  have H1 := hid h1
  clear h1 hc'
  go_wp2
  go_end0
  exact ro_ok rfl H1.out
 | error er =>
  have hc' : Calls _ _ _ _ (fun en w' => en = .panicked (flt er) /\ Bx W0 pm w') := hc
  clear hc
  go_enter Tryz.func221, Tryz.ntmps221
  go_wp2_with fail
  refine hc'.mono ?_
  rintro e' w1 ⟨rfl, h1⟩
  exact ⟨rfl, ro_er rfl h1⟩
theorem closeLoop_any (W0 : World) (pm : Px) (g : Nat) (e : Ps) (W : World) (r : Rd) (q : Rv) (h : RS W0 pm g e W r q) (hb : Bd r) :
  Calls Tryz.prog 223 #[.pointer (some ⟨g, 0, none⟩)] W (RO W0 pm g e (fun _ => .tuple #[]) (close 8 8 r)) := by
 have hc := close_any W0 pm g e W r q h hb 8 8
 clear h hb
 generalize close 8 8 r = res at *
 cases res with
 | ok r' =>
  have hc' : Calls _ _ _ _ (fun en w' => en = .returned (.tuple #[]) /\ ∃ q, RS W0 pm g e w' r' q) := hc
  clear hc
  go_enter Tryz.func223, Tryz.ntmps223
  go_wp2_with fail
  refine hc'.mono ?_
  rintro e' w1 ⟨rfl, h1⟩
  have H1 := hid h1
  clear h1 hc'
  go_wp2
  go_end0
  exact ro_ok rfl H1.out
 | error er =>
  have hc' : Calls _ _ _ _ (fun en w' => en = .panicked (flt er) /\ Bx W0 pm w') := hc
  clear hc
  go_enter Tryz.func223, Tryz.ntmps223
  go_wp2_with fail
  refine hc'.mono ?_
  rintro e' w1 ⟨rfl, h1⟩
  exact ⟨rfl, ro_er rfl h1⟩
end Go.Proofs.YtdnklgceghllaaaGreatDoor.D
