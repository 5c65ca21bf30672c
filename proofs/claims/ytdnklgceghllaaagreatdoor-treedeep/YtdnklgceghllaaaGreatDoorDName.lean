import Derived.Test.YtdnklgceghllaaaGreatDoorDDrop
import Derived.Test.YtdnklgceghllaaaGreatDoorDTop
import Derived.Test.YtdnklgceghllaaaGreatDoorDRs
import Derived.Test.YtdnklgceghllaaaGreatDoorRRes
import Derived.Deep.RegionHeldLaw
namespace Go.Proofs.YtdnklgceghllaaaGreatDoor.D
open Go.RowKit
open Go.Proofs
open Go.Proofs.YtdnklgceghllaaaGreatDoor.K (Tk)
open Go.Proofs.YtdnklgceghllaaaGreatDoor.Y (Nd Df Ps ndc dfc NV NA N1 ZV hid)
open Go.Proofs.YtdnklgceghllaaaGreatDoor.R (MP En numb)
set_option linter.unusedVariables false
set_option linter.unusedSimpArgs false
set_option maxHeartbeats 4000000
set_option maxRecDepth 100000
open Go.Proofs.YtdnklgceghllaaaGreatDoor.R (lk look_no look_yes lk_numb isName_any)
theorem RC.box {W0 : World} {pm : Px} {g : Nat} {e : Ps} {W : World} {r : Rd} {q : Rv} (h : RC W0 pm g e W r q) (b : Nat) (c : List Value) (t : TypeId) (hok : okT t = true) (hb : W.heap[b]? = some (.cells c.toArray t (0, 0))) : RC W0 { pm with x := (b, c, t) :: pm.x } g e W r q :=
 ⟨h.old, h.bel, h.blk, h.rest, h.known, h.prims, h.hmn, h.hmp, h.mkp, h.ty, h.cg, h.drow, h.dlen, h.dnv, h.brow, h.blen, h.bdat, fun x hx => by
  rcases List.mem_cons.1 hx with rfl | hx
  ·exact ⟨hok, hb⟩
  ·exact h.ex x hx⟩
theorem RC.unbox {W0 : World} {pm : Px} {g : Nat} {e : Ps} {W : World} {r : Rd} {q : Rv} {b : Nat} {c : List Value} {t : TypeId} (h : RC W0 { pm with x := (b, c, t) :: pm.x } g e W r q) : RC W0 pm g e W r q /\ W.heap[b]? = some (.cells c.toArray t (0, 0)) :=
 ⟨⟨h.old, h.bel, h.blk, h.rest, h.known, h.prims, h.hmn, h.hmp, h.mkp, h.ty, h.cg, h.drow, h.dlen, h.dnv, h.brow, h.blen, h.bdat, fun x hx => h.ex x (List.mem_cons_of_mem _ hx)⟩, (h.ex _ (List.mem_cons_self ..)).2⟩
theorem RC.other {W0 : World} {pm : Px} {g : Nat} {e : Ps} {W W' : World} {r : Rd} {q : Rv} (h : RC W0 pm g e W r q) {b : Nat} {c : Array Value} {t : TypeId} (hb : W.heap[b]? = some (.cells c t (0, 0))) (hok : okT t = true) (hx : ∀ x ∈ pm.x, x.1 ≠ b) (ho : ∀ k, k ≠ b -> W'.heap[k]? = W.heap[k]?) (bel : Below W0.heap.size W0 W') : RC W0 pm g e W' r q := by
 obtain ⟨n1, n2, n3, n4, n5⟩ := okT_ne hok
 have row : ∀ {ty : TypeId} {B s m : Nat} {u : Value} {xs : List Value}, t ≠ ty -> W.ownsRow B ty s u m xs -> W'.ownsRow B ty s u m xs := fun hty hh => S.own_kept hh fun k e _ => by
  obtain ⟨c', hk⟩ := own_tyD (n := 0) hh k e
  exact ho k (ty_ne hk hb (Ne.symm hty))
 have hnd : ∀ k, q.c k ≠ 0 -> k ≠ b := fun k hk => by
  obtain ⟨cs, hcs⟩ := h.ty k hk
  exact ty_ne hcs hb (Ne.symm n1)
 have hmp : ∀ {mb : Nat} {L : En}, MP W mb L -> mb ≠ b := fun hm => by
  rintro rfl
  rw [show W.heap[_]? = _ from hm] at hb
  cases hb
 refine ⟨h.old, bel, (ho g (ty_ne h.blk hb (Ne.symm n2))).trans h.blk, h.rest, h.known.kept (ho _ (hmp h.known)), h.prims.kept (ho _ (hmp h.prims)), h.hmn, h.hmp, h.mkp, fun k hk => by rw [ho k (hnd k hk)]; exact h.ty k hk, h.cg, row n3 h.drow, h.dlen, fun i d w hd hw => (h.dnv i d w hd hw).kept (fun k hk => ho k (hnd k (by omega))) (fun _ hk => hk), row n4 h.brow, h.blen, fun i d w hd hw => row n5 (h.bdat i d w hd hw), fun x hx' => ⟨(h.ex x hx').1, (ho _ (hx x hx')).trans (h.ex x hx').2⟩⟩
theorem RC.xlt {W0 : World} {pm : Px} {g : Nat} {e : Ps} {W : World} {r : Rd} {q : Rv} (h : RC W0 pm g e W r q) : ∀ x ∈ pm.x, x.1 ≠ W.heap.size := fun x hx e0 => by
 have := (Array.getElem?_eq_some_iff.1 (h.ex x hx).2).1
 omega
theorem okTK : okT 53 = true := by decide
theorem name_end (W0 : World) (pm : Px) (g : Nat) (e : Ps) (W : World) (r : Rd) (q : Rv) (h : RC W0 pm g e W r q) (hn : r.rest = []) :
  Calls Tryz.prog 79 #[.pointer (some ⟨g, 0, none⟩)] W (ROc W0 pm g e (fun r => .agg (tkc r.at_).toArray) (.error (e, 105))) := by
 obtain ⟨W1, hW1⟩ : ∃ W1, W.alloc (.cells #[.int .i64 0, .string ⟨#[]⟩, .int .u16 0, .int .i64 0, .int .i64 0] 53) = W1 := ⟨_, rfl⟩
 have hB : Below W.heap.size W W1 := by rw [<- hW1]; exact (Below.refl _ _).alloc (Nat.le_refl _) _
 have v1 : W1.heap[W.heap.size]? = some (.cells [.int .i64 0, .string ⟨#[]⟩, .int .u16 0, .int .i64 0, .int .i64 0].toArray 53 (0, 0)) := by rw [<- hW1]; exact heap_alloc_new W _
 have hR1 := (h.next hB).box W.heap.size _ 53 okTK v1
 have HXL := hid h.xlt
 have hgW := h.lt
 have HGW := hid hgW
 have hc := next_no W0 _ g e W1 r q hR1 hn
 have HE := hid hR1
 clear h hB v1 hR1 hn hgW HGW HXL
 go_enter Tryz.func79, Tryz.ntmps79
 go_wp2_with fail
 refine hc.mono ?_
 rintro e' w1 ⟨rfl, hb1⟩
 exact ⟨rfl, roc_er rfl (HE.out.unbox.1.err hb1)⟩
theorem name_nm (W0 : World) (pm : Px) (g : Nat) (e : Ps) (W : World) (r : Rd) (q : Rv) (h : RC W0 pm g e W r q) (t : Tk) (ts : List Tk) (hn : r.rest = t :: ts) (hs : t.t.size <= maxLen) (hnm : R.isNm t.t = false) :
  Calls Tryz.prog 79 #[.pointer (some ⟨g, 0, none⟩)] W (ROc W0 pm g e (fun r => .agg (tkc r.at_).toArray) (.error (t.p, 101))) := by
 obtain ⟨W1, hW1⟩ : ∃ W1, W.alloc (.cells #[.int .i64 0, .string ⟨#[]⟩, .int .u16 0, .int .i64 0, .int .i64 0] 53) = W1 := ⟨_, rfl⟩
 have hB : Below W.heap.size W W1 := by rw [<- hW1]; exact (Below.refl _ _).alloc (Nat.le_refl _) _
 have v1 : W1.heap[W.heap.size]? = some (.cells [.int .i64 0, .string ⟨#[]⟩, .int .u16 0, .int .i64 0, .int .i64 0].toArray 53 (0, 0)) := by rw [<- hW1]; exact heap_alloc_new W _
 have hR1 := (h.next hB).box W.heap.size _ 53 okTK v1
 have HXL := hid h.xlt
 have hgW := h.lt
 have HGW := hid hgW
 have hc := next_c W0 _ g e W1 r q hR1 t ts hn
 have HIN := hid (fun w => isName_any t.t hs w)
 rw [hnm] at HIN
 have HM1 := hid (fun w => must_false t 101 w)
 unfold tkc at HM1 hc
 clear h hB v1 hR1 hn hgW hs hnm
 go_enter Tryz.func79, Tryz.ntmps79
 go_wp2_with fail
 refine hc.mono ?_
 rintro e' w2 ⟨rfl, ⟨rv2, hR2⟩, _⟩
 obtain ⟨q2, hq2⟩ : ∃ q2, { q with rv := rv2 } = q2 := ⟨_, rfl⟩
 rw [hq2] at hR2
 clear hq2
 obtain ⟨W3, hW3⟩ : ∃ W3, w2.alloc (.cells #[.int .i64 t.k, .string t.t, .int .u16 t.v, .int .i64 t.p.1, .int .i64 t.p.2] 53) = W3 := ⟨_, rfl⟩
 have hB3 : Below w2.heap.size w2 W3 := by rw [<- hW3]; exact (Below.refl _ _).alloc (Nat.le_refl _) _
 have v3 : W3.heap[w2.heap.size]? = some (.cells [.int .i64 t.k, .string t.t, .int .u16 t.v, .int .i64 t.p.1, .int .i64 t.p.2].toArray 53 (0, 0)) := by rw [<- hW3]; exact heap_alloc_new w2 _
 have hlt3 : w2.heap.size < W3.heap.size := (Array.getElem?_eq_some_iff.1 v3).1
 have HBX := hid (fun (w : World) (hb : Below W3.heap.size W3 w) => show (w.cell? ⟨w2.heap.size, 0, none⟩ = some (.int .i64 t.k) /\ w.cell? ⟨w2.heap.size, 1, none⟩ = some (.string t.t) /\ w.cell? ⟨w2.heap.size, 2, none⟩ = some (.int .u16 t.v) /\ w.cell? ⟨w2.heap.size, 3, none⟩ = some (.int .i64 t.p.1) /\ w.cell? ⟨w2.heap.size, 4, none⟩ = some (.int .i64 t.p.2)) from by
  have v4 := (hb.block _ hlt3).trans v3
  exact ⟨S.cell_of w _ 0 _ 53 _ v4 rfl, S.cell_of w _ 1 _ 53 _ v4 rfl, S.cell_of w _ 2 _ 53 _ v4 rfl, S.cell_of w _ 3 _ 53 _ v4 rfl, S.cell_of w _ 4 _ 53 _ v4 rfl⟩)
 have HR3 := hid (hR2.next hB3)
 have HW3 := hid hW3
 clear hR2 hB3 v3 hlt3 hc
 go_upto_region 2 with fail
 try rw [hW3]
 clear hW3
 have hBr : Below W3.heap.size W3 W3.drew := ⟨rfl, rfl, rfl, Nat.le_refl _, fun _ _ => rfl⟩
 have hR := HR3.out.next hBr
 refine wp_region_held_drew (S := fun wz : World => wz.cell? ⟨w2.heap.size, 0, none⟩ = some (.int .i64 t.k) /\ wz.cell? ⟨w2.heap.size, 1, none⟩ = some (.string t.t) /\ wz.cell? ⟨w2.heap.size, 2, none⟩ = some (.int .u16 t.v) /\ wz.cell? ⟨w2.heap.size, 3, none⟩ = some (.int .i64 t.p.1) /\ wz.cell? ⟨w2.heap.size, 4, none⟩ = some (.int .i64 t.p.2)) (by kernel_rfl) (HBX.out _ hBr) (fun hHeld => ?_)
 generalize W3.drew = y0 at *
 refine D.zH (is := [0, 1, 3]) ?_
 iterate 3
  refine D.yH (v := ?_) rfl (by kernel_rfl) (fun c a w h => h) (by rfl) ?_ hHeld ?_
  rotate_left
  ·(intro w hSw; (try dsimp only at hSw); go_simp; try with_reducible rfl)
  simp only [D.pts]
 refine D.eH ?_
 refine wpAnyH_ready (rs := [2]) (by kernel_rfl) (by simp) ?_
 refine AllReadyH.cons rfl (fun K hK => ?_) AllReadyH.nil
 rw [if_pos (by rfl)]
 go_simp
 refine (HIN.out y0).mono ?_
 rintro e' y1 ⟨rfl, hb1⟩
 replace hR := hR.next hb1
 replace hBr := hBr.trans (hb1.mono hBr.size)
 refine hK.out _ _ (HBX.out _ hBr) (fun hHeld => ?_)
 clear hK K
 try simp only [D.pts]
 refine wpAnyH_ready (rs := [4]) (by kernel_rfl) (by simp) ?_
 refine AllReadyH.cons rfl (fun K hK => ?_) AllReadyH.nil
 rw [if_pos (by rfl)]
 go_simp
 refine (HM1.out y1).mono ?_
 rintro e' y2 ⟨rfl, hb2⟩
 exact ⟨rfl, roc_er rfl (hR.unbox.1.err hb2)⟩
theorem name_tw (W0 : World) (pm : Px) (g : Nat) (e : Ps) (W : World) (r : Rd) (q : Rv) (h : RC W0 pm g e W r q) (t : Tk) (ts : List Tk) (hn : r.rest = t :: ts) (hs : t.t.size <= maxLen) (hnm : R.isNm t.t = true) (hkn : known r t.t = true) :
  Calls Tryz.prog 79 #[.pointer (some ⟨g, 0, none⟩)] W (ROc W0 pm g e (fun r => .agg (tkc r.at_).toArray) (.error (t.p, 102))) := by
 obtain ⟨W1, hW1⟩ : ∃ W1, W.alloc (.cells #[.int .i64 0, .string ⟨#[]⟩, .int .u16 0, .int .i64 0, .int .i64 0] 53) = W1 := ⟨_, rfl⟩
 have hB : Below W.heap.size W W1 := by rw [<- hW1]; exact (Below.refl _ _).alloc (Nat.le_refl _) _
 have v1 : W1.heap[W.heap.size]? = some (.cells [.int .i64 0, .string ⟨#[]⟩, .int .u16 0, .int .i64 0, .int .i64 0].toArray 53 (0, 0)) := by rw [<- hW1]; exact heap_alloc_new W _
 have hR1 := (h.next hB).box W.heap.size _ 53 okTK v1
 have HXL := hid h.xlt
 have hgW := h.lt
 have HGW := hid hgW
 have hc := next_c W0 _ g e W1 r q hR1 t ts hn
 have HIN := hid (fun w => isName_any t.t hs w)
 rw [hnm] at HIN
 have HM1 := hid (fun w => must_true t 101 w)
 have HM2 := hid (fun w => must_false t 102 w)
 unfold tkc at HM2
 have Hkn := hid hkn
 clear hkn
 unfold tkc at HM1 hc
 clear h hB v1 hR1 hn hgW hs hnm
 go_enter Tryz.func79, Tryz.ntmps79
 go_wp2_with fail
 refine hc.mono ?_
 rintro e' w2 ⟨rfl, ⟨rv2, hR2⟩, _⟩
 obtain ⟨q2, hq2⟩ : ∃ q2, { q with rv := rv2 } = q2 := ⟨_, rfl⟩
 rw [hq2] at hR2
 clear hq2
 obtain ⟨W3, hW3⟩ : ∃ W3, w2.alloc (.cells #[.int .i64 t.k, .string t.t, .int .u16 t.v, .int .i64 t.p.1, .int .i64 t.p.2] 53) = W3 := ⟨_, rfl⟩
 have hB3 : Below w2.heap.size w2 W3 := by rw [<- hW3]; exact (Below.refl _ _).alloc (Nat.le_refl _) _
 have v3 : W3.heap[w2.heap.size]? = some (.cells [.int .i64 t.k, .string t.t, .int .u16 t.v, .int .i64 t.p.1, .int .i64 t.p.2].toArray 53 (0, 0)) := by rw [<- hW3]; exact heap_alloc_new w2 _
 have hlt3 : w2.heap.size < W3.heap.size := (Array.getElem?_eq_some_iff.1 v3).1
 have HBX := hid (fun (w : World) (hb : Below W3.heap.size W3 w) => show (w.cell? ⟨w2.heap.size, 0, none⟩ = some (.int .i64 t.k) /\ w.cell? ⟨w2.heap.size, 1, none⟩ = some (.string t.t) /\ w.cell? ⟨w2.heap.size, 2, none⟩ = some (.int .u16 t.v) /\ w.cell? ⟨w2.heap.size, 3, none⟩ = some (.int .i64 t.p.1) /\ w.cell? ⟨w2.heap.size, 4, none⟩ = some (.int .i64 t.p.2)) from by
  have v4 := (hb.block _ hlt3).trans v3
  exact ⟨S.cell_of w _ 0 _ 53 _ v4 rfl, S.cell_of w _ 1 _ 53 _ v4 rfl, S.cell_of w _ 2 _ 53 _ v4 rfl, S.cell_of w _ 3 _ 53 _ v4 rfl, S.cell_of w _ 4 _ 53 _ v4 rfl⟩)
 have HR3 := hid (hR2.next hB3)
 have HW3 := hid hW3
 clear hR2 hB3 v3 hlt3 hc
 go_upto_region 2 with fail
 try rw [hW3]
 clear hW3
 have hBr : Below W3.heap.size W3 W3.drew := ⟨rfl, rfl, rfl, Nat.le_refl _, fun _ _ => rfl⟩
 have hR := HR3.out.next hBr
 refine wp_region_held_drew (S := fun wz : World => wz.cell? ⟨w2.heap.size, 0, none⟩ = some (.int .i64 t.k) /\ wz.cell? ⟨w2.heap.size, 1, none⟩ = some (.string t.t) /\ wz.cell? ⟨w2.heap.size, 2, none⟩ = some (.int .u16 t.v) /\ wz.cell? ⟨w2.heap.size, 3, none⟩ = some (.int .i64 t.p.1) /\ wz.cell? ⟨w2.heap.size, 4, none⟩ = some (.int .i64 t.p.2)) (by kernel_rfl) (HBX.out _ hBr) (fun hHeld => ?_)
 generalize W3.drew = y0 at *
 refine D.zH (is := [0, 1, 3]) ?_
 iterate 3
  refine D.yH (v := ?_) rfl (by kernel_rfl) (fun c a w h => h) (by rfl) ?_ hHeld ?_
  rotate_left
  ·(intro w hSw; (try dsimp only at hSw); go_simp; try with_reducible rfl)
  simp only [D.pts]
 refine D.eH ?_
 refine wpAnyH_ready (rs := [2]) (by kernel_rfl) (by simp) ?_
 refine AllReadyH.cons rfl (fun K hK => ?_) AllReadyH.nil
 rw [if_pos (by rfl)]
 go_simp
 refine (HIN.out y0).mono ?_
 rintro e' y1 ⟨rfl, hb1⟩
 replace hR := hR.next hb1
 replace hBr := hBr.trans (hb1.mono hBr.size)
 refine hK.out _ _ (HBX.out _ hBr) (fun hHeld => ?_)
 clear hK K
 try simp only [D.pts]
 refine wpAnyH_ready (rs := [4]) (by kernel_rfl) (by simp) ?_
 refine AllReadyH.cons rfl (fun K hK => ?_) AllReadyH.nil
 rw [if_pos (by rfl)]
 go_simp
 refine (HM1.out y1).mono ?_
 rintro e' y2 ⟨rfl, hb2⟩
 replace hR := hR.next hb2
 replace hBr := hBr.trans (hb2.mono hBr.size)
 refine hK.out _ _ (HBX.out _ hBr) (fun hHeld => ?_)
 clear hK K
 try simp only [D.pts]
 refine wpAnyH_done (by kernel_rfl) ?_ _
 clear hHeld hb1 hb2 HM1 HIN
 have hln : ∃ zn : Int, ∀ w : World, MP w q2.mn (numb (r.defs.map (·.nm)) 0) -> (Instr.lookup 94 (.map (some q2.mn)) (.string t.t) true).run Tryz.prog w = .ok (.tuple #[.int .i64 zn, .bool true]) w := by
  cases hl : lk (numb (r.defs.map (·.nm)) 0) t.t with
  | none =>
   have h1 := lk_numb t.t (r.defs.map (·.nm)) 0; rw [hl] at h1; have h2 := Hkn.out; unfold known at h2; rw [<- h1] at h2; cases h2
  | some v =>
   exact ⟨v, fun w hw => look_yes w q2.mn t.t v _ hw hl⟩
 obtain ⟨zn, hln⟩ := hln
 have HLN := hid hln
 clear hln
 go_upto_region 3 with fail
 replace hR := hR.next (show Below y2.heap.size y2 y2.drew from ⟨rfl, rfl, rfl, Nat.le_refl _, fun _ _ => rfl⟩)
 replace hBr : Below W3.heap.size W3 y2.drew := hBr.trans ⟨rfl, rfl, rfl, Nat.le_refl _, fun _ _ => rfl⟩
 have hS3 : y2.drew.cell? ⟨g, 5, none⟩ = some (.map (some q2.mn)) /\ y2.drew.cell? ⟨w2.heap.size, 1, none⟩ = some (.string t.t) /\ (Instr.lookup 94 (.map (some q2.mn)) (.string t.t) true).run Tryz.prog y2.drew = .ok (.tuple #[.int .i64 zn, .bool true]) y2.drew := ⟨(rd_cells hR.blk).2.2.2.2.2.1, (HBX.out _ hBr).2.1, HLN.out _ hR.known⟩
 refine wp_region_held_drew (S := fun wz : World => wz.cell? ⟨g, 5, none⟩ = some (.map (some q2.mn)) /\ wz.cell? ⟨w2.heap.size, 1, none⟩ = some (.string t.t) /\ (Instr.lookup 94 (.map (some q2.mn)) (.string t.t) true).run Tryz.prog wz = .ok (.tuple #[.int .i64 zn, .bool true]) wz) (by kernel_rfl) hS3 (fun hHeld => ?_)
 clear hS3
 generalize y2.drew = y3 at *
 refine D.zH (is := [0, 1, 2, 3, 4, 5, 6, 7, 8, 9, 10, 11]) ?_
 iterate 12
  refine D.yH (v := ?_) rfl (by kernel_rfl) (fun c a w h => h) (by rfl) ?_ hHeld ?_
  rotate_left
  ·(intro w hSw; (try dsimp only at hSw); go_simp; try with_reducible rfl)
  simp only [D.pts]
 refine D.eH ?_
 refine wpAnyH_done (by kernel_rfl) ?_ _
 obtain ⟨x0, x1, x2, x3, x4⟩ := HBX.out _ hBr
 have HRY := hid hR
 have HBY := hid hBr
 clear hHeld hR hBr HLN
 go_wp2_with fail
 refine (HM2.out y3).mono ?_
 rintro e' y4 ⟨rfl, hb4⟩
 exact ⟨rfl, roc_er rfl (HRY.out.unbox.1.err hb4)⟩
theorem name_ok (W0 : World) (pm : Px) (g : Nat) (e : Ps) (W : World) (r : Rd) (q : Rv) (h : RC W0 pm g e W r q) (t : Tk) (ts : List Tk) (hn : r.rest = t :: ts) (hs : t.t.size <= maxLen) (hnm : R.isNm t.t = true) (hkn : known r t.t = false) :
  Calls Tryz.prog 79 #[.pointer (some ⟨g, 0, none⟩)] W (ROc W0 pm g e (fun r => .agg (tkc r.at_).toArray) (.ok { r with at_ := t, rest := ts })) := by
 obtain ⟨W1, hW1⟩ : ∃ W1, W.alloc (.cells #[.int .i64 0, .string ⟨#[]⟩, .int .u16 0, .int .i64 0, .int .i64 0] 53) = W1 := ⟨_, rfl⟩
 have hB : Below W.heap.size W W1 := by rw [<- hW1]; exact (Below.refl _ _).alloc (Nat.le_refl _) _
 have v1 : W1.heap[W.heap.size]? = some (.cells [.int .i64 0, .string ⟨#[]⟩, .int .u16 0, .int .i64 0, .int .i64 0].toArray 53 (0, 0)) := by rw [<- hW1]; exact heap_alloc_new W _
 have hR1 := (h.next hB).box W.heap.size _ 53 okTK v1
 have HXL := hid h.xlt
 have hgW := h.lt
 have HGW := hid hgW
 have hc := next_c W0 _ g e W1 r q hR1 t ts hn
 have HIN := hid (fun w => isName_any t.t hs w)
 rw [hnm] at HIN
 have HM1 := hid (fun w => must_true t 101 w)
 have HM2 := hid (fun w => must_true t 102 w)
 unfold tkc at HM2
 have Hkn := hid hkn
 clear hkn
 unfold tkc at HM1 hc
 clear h hB v1 hR1 hn hgW hs hnm
 go_enter Tryz.func79, Tryz.ntmps79
 go_wp2_with fail
 refine hc.mono ?_
 rintro e' w2 ⟨rfl, ⟨rv2, hR2⟩, _⟩
 obtain ⟨q2, hq2⟩ : ∃ q2, { q with rv := rv2 } = q2 := ⟨_, rfl⟩
 rw [hq2] at hR2
 clear hq2
 obtain ⟨W3, hW3⟩ : ∃ W3, w2.alloc (.cells #[.int .i64 t.k, .string t.t, .int .u16 t.v, .int .i64 t.p.1, .int .i64 t.p.2] 53) = W3 := ⟨_, rfl⟩
 have hB3 : Below w2.heap.size w2 W3 := by rw [<- hW3]; exact (Below.refl _ _).alloc (Nat.le_refl _) _
 have v3 : W3.heap[w2.heap.size]? = some (.cells [.int .i64 t.k, .string t.t, .int .u16 t.v, .int .i64 t.p.1, .int .i64 t.p.2].toArray 53 (0, 0)) := by rw [<- hW3]; exact heap_alloc_new w2 _
 have hlt3 : w2.heap.size < W3.heap.size := (Array.getElem?_eq_some_iff.1 v3).1
 have HBX := hid (fun (w : World) (hb : Below W3.heap.size W3 w) => show (w.cell? ⟨w2.heap.size, 0, none⟩ = some (.int .i64 t.k) /\ w.cell? ⟨w2.heap.size, 1, none⟩ = some (.string t.t) /\ w.cell? ⟨w2.heap.size, 2, none⟩ = some (.int .u16 t.v) /\ w.cell? ⟨w2.heap.size, 3, none⟩ = some (.int .i64 t.p.1) /\ w.cell? ⟨w2.heap.size, 4, none⟩ = some (.int .i64 t.p.2)) from by
  have v4 := (hb.block _ hlt3).trans v3
  exact ⟨S.cell_of w _ 0 _ 53 _ v4 rfl, S.cell_of w _ 1 _ 53 _ v4 rfl, S.cell_of w _ 2 _ 53 _ v4 rfl, S.cell_of w _ 3 _ 53 _ v4 rfl, S.cell_of w _ 4 _ 53 _ v4 rfl⟩)
 have HR3 := hid (hR2.next hB3)
 have HW3 := hid hW3
 clear hR2 hB3 v3 hlt3 hc
 go_upto_region 2 with fail
 try rw [hW3]
 clear hW3
 have hBr : Below W3.heap.size W3 W3.drew := ⟨rfl, rfl, rfl, Nat.le_refl _, fun _ _ => rfl⟩
 have hR := HR3.out.next hBr
 refine wp_region_held_drew (S := fun wz : World => wz.cell? ⟨w2.heap.size, 0, none⟩ = some (.int .i64 t.k) /\ wz.cell? ⟨w2.heap.size, 1, none⟩ = some (.string t.t) /\ wz.cell? ⟨w2.heap.size, 2, none⟩ = some (.int .u16 t.v) /\ wz.cell? ⟨w2.heap.size, 3, none⟩ = some (.int .i64 t.p.1) /\ wz.cell? ⟨w2.heap.size, 4, none⟩ = some (.int .i64 t.p.2)) (by kernel_rfl) (HBX.out _ hBr) (fun hHeld => ?_)
 generalize W3.drew = y0 at *
 refine D.zH (is := [0, 1, 3]) ?_
 iterate 3
  refine D.yH (v := ?_) rfl (by kernel_rfl) (fun c a w h => h) (by rfl) ?_ hHeld ?_
  rotate_left
  ·(intro w hSw; (try dsimp only at hSw); go_simp; try with_reducible rfl)
  simp only [D.pts]
 refine D.eH ?_
 refine wpAnyH_ready (rs := [2]) (by kernel_rfl) (by simp) ?_
 refine AllReadyH.cons rfl (fun K hK => ?_) AllReadyH.nil
 rw [if_pos (by rfl)]
 go_simp
 refine (HIN.out y0).mono ?_
 rintro e' y1 ⟨rfl, hb1⟩
 replace hR := hR.next hb1
 replace hBr := hBr.trans (hb1.mono hBr.size)
 refine hK.out _ _ (HBX.out _ hBr) (fun hHeld => ?_)
 clear hK K
 try simp only [D.pts]
 refine wpAnyH_ready (rs := [4]) (by kernel_rfl) (by simp) ?_
 refine AllReadyH.cons rfl (fun K hK => ?_) AllReadyH.nil
 rw [if_pos (by rfl)]
 go_simp
 refine (HM1.out y1).mono ?_
 rintro e' y2 ⟨rfl, hb2⟩
 replace hR := hR.next hb2
 replace hBr := hBr.trans (hb2.mono hBr.size)
 refine hK.out _ _ (HBX.out _ hBr) (fun hHeld => ?_)
 clear hK K
 try simp only [D.pts]
 refine wpAnyH_done (by kernel_rfl) ?_ _
 clear hHeld hb1 hb2 HM1 HIN
 have hln : ∃ zn : Int, ∀ w : World, MP w q2.mn (numb (r.defs.map (·.nm)) 0) -> (Instr.lookup 94 (.map (some q2.mn)) (.string t.t) true).run Tryz.prog w = .ok (.tuple #[.int .i64 zn, .bool false]) w := by
  cases hl : lk (numb (r.defs.map (·.nm)) 0) t.t with
  | none =>
   exact ⟨0, fun w hw => look_no w q2.mn t.t _ hw hl⟩
  | some v =>
   have h1 := lk_numb t.t (r.defs.map (·.nm)) 0; rw [hl] at h1; have h2 := Hkn.out; unfold known at h2; rw [<- h1] at h2; cases h2
 obtain ⟨zn, hln⟩ := hln
 have HLN := hid hln
 clear hln
 go_upto_region 3 with fail
 replace hR := hR.next (show Below y2.heap.size y2 y2.drew from ⟨rfl, rfl, rfl, Nat.le_refl _, fun _ _ => rfl⟩)
 replace hBr : Below W3.heap.size W3 y2.drew := hBr.trans ⟨rfl, rfl, rfl, Nat.le_refl _, fun _ _ => rfl⟩
 have hS3 : y2.drew.cell? ⟨g, 5, none⟩ = some (.map (some q2.mn)) /\ y2.drew.cell? ⟨w2.heap.size, 1, none⟩ = some (.string t.t) /\ (Instr.lookup 94 (.map (some q2.mn)) (.string t.t) true).run Tryz.prog y2.drew = .ok (.tuple #[.int .i64 zn, .bool false]) y2.drew := ⟨(rd_cells hR.blk).2.2.2.2.2.1, (HBX.out _ hBr).2.1, HLN.out _ hR.known⟩
 refine wp_region_held_drew (S := fun wz : World => wz.cell? ⟨g, 5, none⟩ = some (.map (some q2.mn)) /\ wz.cell? ⟨w2.heap.size, 1, none⟩ = some (.string t.t) /\ (Instr.lookup 94 (.map (some q2.mn)) (.string t.t) true).run Tryz.prog wz = .ok (.tuple #[.int .i64 zn, .bool false]) wz) (by kernel_rfl) hS3 (fun hHeld => ?_)
 clear hS3
 generalize y2.drew = y3 at *
 refine D.zH (is := [0, 1, 2, 3, 4, 5, 6, 7, 8, 9, 10, 11]) ?_
 iterate 12
  refine D.yH (v := ?_) rfl (by kernel_rfl) (fun c a w h => h) (by rfl) ?_ hHeld ?_
  rotate_left
  ·(intro w hSw; (try dsimp only at hSw); go_simp; try with_reducible rfl)
  simp only [D.pts]
 refine D.eH ?_
 refine wpAnyH_done (by kernel_rfl) ?_ _
 obtain ⟨x0, x1, x2, x3, x4⟩ := HBX.out _ hBr
 have HRY := hid hR
 have HBY := hid hBr
 clear hHeld hR hBr HLN
 go_wp2_with fail
 refine (HM2.out y3).mono ?_
 rintro e' y4 ⟨rfl, hb4⟩
 have hBr := HBY.out.trans (hb4.mono HBY.out.size)
 obtain ⟨hRu, hbx⟩ := (HRY.out.next hb4).unbox
 clear x0 x1 x2 x3 x4
 obtain ⟨x0, x1, x2, x3, x4⟩ := HBX.out _ hBr
 have HRu := hid hRu
 clear hRu hb4 HBY HRY HM2 hBr
 go_wp2_with (refine wpList_store_row rfl 53 _ _ rfl W.heap.size _ rfl rfl 53 _ hbx (by exact sizeTK) (by rfl) (by simp [Value.oneCell']) ?_)
 have h3 := setRow_heap y4 W.heap.size _ #[.int .i64 t.k, .string t.t, .int .u16 t.v, .int .i64 t.p.1, .int .i64 t.p.2] _ _ hbx
 have hfin : RC W0 pm g e (y4.setRow W.heap.size #[.int .i64 t.k, .string t.t, .int .u16 t.v, .int .i64 t.p.1, .int .i64 t.p.2]) { r with at_ := t, rest := ts } q2 := HRu.out.other hbx okTK HXL.out (fun k hk => setRow_other y4 W.heap.size k _ hk) ⟨HRu.out.bel.os, HRu.out.bel.tape, HRu.out.bel.output, by rw [size_setRow]; exact HRu.out.bel.size, fun k hk => (setRow_other y4 W.heap.size k _ (by have := HGW.out; have := HRu.out.old; omega)).trans (HRu.out.bel.block k hk)⟩
 exact bodyPost_ret (results_cell_row rfl _ _ W.heap.size 53 _ (0, 0) _ rfl h3 Tryz.underlying53 rfl sizeTK) rfl (roc_ok rfl ⟨_, hfin⟩)
theorem name_any (W0 : World) (pm : Px) (g : Nat) (e : Ps) (W : World) (r : Rd) (q : Rv) (h : RC W0 pm g e W r q) (hs : ∀ t ∈ r.rest, t.t.size <= maxLen) :
  Calls Tryz.prog 79 #[.pointer (some ⟨g, 0, none⟩)] W (ROc W0 pm g e (fun r => .agg (tkc r.at_).toArray) (name e r)) := by
 unfold name next
 cases hn : r.rest with
 | nil => exact name_end W0 pm g e W r q h hn
 | cons t ts =>
  have hst := hs t (by rw [hn]; exact List.mem_cons_self ..)
  cases hnm : R.isNm t.t with
  | false =>
   have := name_nm W0 pm g e W r q h t ts hn hst hnm
   show Calls _ _ _ _ (ROc W0 pm g e _ (do must (R.isNm t.t) t 101; must (!known r t.t) t 102; Except.ok { r with at_ := t, rest := ts }))
   rw [hnm]
   exact this
  | true =>
   cases hkn : known r t.t with
   | true =>
    have := name_tw W0 pm g e W r q h t ts hn hst hnm hkn
    show Calls _ _ _ _ (ROc W0 pm g e _ (do must (R.isNm t.t) t 101; must (!known r t.t) t 102; Except.ok { r with at_ := t, rest := ts }))
    rw [hnm, hkn]
    exact this
   | false =>
    have := name_ok W0 pm g e W r q h t ts hn hst hnm hkn
    show Calls _ _ _ _ (ROc W0 pm g e _ (do must (R.isNm t.t) t 101; must (!known r t.t) t 102; Except.ok { r with at_ := t, rest := ts }))
    rw [hnm, hkn]
    exact this
set_option maxHeartbeats 4000000
set_option maxRecDepth 100000
open Go.Proofs.YtdnklgceghllaaaGreatDoor.R (lk look_no look_yes lk_numb ents run_put numb_append)
open Go.ChangeMaps (setBlock)
theorem dcs_app : ∀ (l : List Df) (ws : List Value) (d : Df) (w : Value), ws.length = l.length -> dcs (l ++ [d]) (ws ++ [w]) = dcs l ws ++ dfc d w
  | [], [], d, w, _ => by simp [dcs]
  | m :: l, z :: ys, d, w, h => by
    rw [List.cons_append, List.cons_append, dcs, dcs, dcs_app l ys d w (by simpa using h), List.append_assoc]
def put1 (W : World) (mb : Nat) (ns : List ByteArray) (s : ByteArray) : World := setBlock W mb (.map (ents 0 (numb ns 0 ++ [(s, (ns.length : Int))])).toArray (numb ns 0 ++ [(s, (ns.length : Int))]).length)
theorem RC.define {W0 : World} {pm : Px} {g : Nat} {e : Ps} {W Wb W2 : World} {r : Rd} {q : Rv} (h : RC W0 pm g e W r q) {v' bv : Value} (d : Df) (bb : Below (put1 W q.mn (r.defs.map (·.nm)) d.nm).heap.size (put1 W q.mn (r.defs.map (·.nm)) d.nm) Wb)
    (hr : W2.ownsRow (g + 1) DF 6 v' (r.defs.length + 1) (dcs r.defs q.ws ++ dfc d bv)) (gr : S.Grew Wb W2 q.dv v') (hnv : NV W (fun b => q.c b = 1) bv d.body) :
    RC W0 pm g e (W2.setCell ⟨g, 3, none⟩ v') { r with defs := r.defs ++ [d] } { q with dv := v', ws := q.ws ++ [bv] } := by
  have hlt := h.lt
  have hold := h.old
  have hm := h.hmn
  have hp := h.hmp
  have hs1 : (put1 W q.mn (r.defs.map (·.nm)) d.nm).heap.size = W.heap.size := R.setBlock_size _ _ _
  have hdv : ∀ b, some b = q.dv.ownBlock -> g < b /\ ∃ c, W.heap[b]? = some (.cells c DF (0, 0)) := fun b hb => ⟨(h.drow.lt b hb.symm).1, own_tyD (n := 0) h.drow b hb.symm⟩
  have keep2 : ∀ k, k < W.heap.size -> k ≠ q.mn -> some k ≠ q.dv.ownBlock -> W2.heap[k]? = W.heap[k]? := fun k hk h1 h2 => by
    rw [gr.block k (Nat.lt_of_lt_of_le hk (by have := bb.size; omega)) h2, bb.block k (by omega)]
    exact R.setBlock_other W q.mn k _ h1
  have keep : ∀ k, k < W.heap.size -> k ≠ q.mn -> some k ≠ q.dv.ownBlock -> k ≠ g -> (W2.setCell ⟨g, 3, none⟩ v').heap[k]? = W.heap[k]? := fun k hk h1 h2 h3 => (heap_setCell_other W2 ⟨g, 3, none⟩ k v' h3).trans (keep2 k hk h1 h2)
  have nmap : ∀ {k : Nat} {c : Array Value} {t : TypeId} {m : Nat × Nat}, W.heap[k]? = some (.cells c t m) -> k ≠ q.mn := fun hk => by
    rintro rfl
    rw [show W.heap[q.mn]? = _ from h.known] at hk
    cases hk
  have ndv : ∀ {k : Nat} {c : Array Value} {t : TypeId} {m : Nat × Nat}, W.heap[k]? = some (.cells c t m) -> t ≠ DF -> some k ≠ q.dv.ownBlock := fun hk ht e => by
    obtain ⟨_, c', hc'⟩ := hdv _ e
    exact ty_ne hk hc' ht rfl
  have cells : ∀ {k : Nat} {c : Array Value} {t : TypeId}, W.heap[k]? = some (.cells c t (0, 0)) -> t ≠ DF -> t ≠ RD -> (W2.setCell ⟨g, 3, none⟩ v').heap[k]? = W.heap[k]? := fun hk h1 h2 => keep _ (Array.getElem?_eq_some_iff.1 hk).1 (nmap hk) (ndv hk h1) (ty_ne hk h.blk h2)
  have row : ∀ {ty : TypeId} {B s m : Nat} {u : Value} {xs : List Value}, ty ≠ DF -> ty ≠ RD -> W.ownsRow B ty s u m xs -> (W2.setCell ⟨g, 3, none⟩ v').ownsRow B ty s u m xs := fun h1 h2 hh => S.own_kept hh fun k e _ => by
    obtain ⟨c', hk⟩ := own_tyD (n := 0) hh k e
    exact cells hk h1 h2
  have hgdv : some g ≠ q.dv.ownBlock := fun e => by have := (hdv g e).1; omega
  have hg2 : W2.heap[g]? = some (.cells (rdc e r q).toArray RD (0, 0)) := (keep2 g hlt (by omega) hgdv).trans h.blk
  have hv2 : ∀ b, v'.ownBlock = some b -> g < b := fun b hb => (hr.lt b hb).1
  refine ⟨h.old, ?_, heap_setCell_same W2 g 3 _ _ v' hg2, h.rest, ?_, ?_, hm, hp, h.mkp, fun k hk => ?_, h.cg, ?_, by simp [h.dlen], fun i d' w hd hw => ?_, row (by decide) (by decide) h.brow, h.blen, fun i d' w hd hw => row (by decide) (by decide) (h.bdat i d' w hd hw), fun x hx => ?_⟩
  · have b2 : Below W0.heap.size W0 W2 := ⟨gr.os.trans (bb.os.trans h.bel.os), gr.tape.trans (bb.tape.trans h.bel.tape), gr.output.trans (bb.output.trans h.bel.output), by have := gr.size; have := bb.size; have := h.bel.size; omega, fun k hk => (keep2 k (by omega) (by omega) (fun e => by have := (hdv k e).1; omega)).trans (h.bel.block k hk)⟩
    exact b2.setCell (p := ⟨g, 3, none⟩) h.old _
  · have e1 : (W2.setCell ⟨g, 3, none⟩ v').heap[q.mn]? = (put1 W q.mn (r.defs.map (·.nm)) d.nm).heap[q.mn]? := by
      rw [heap_setCell_other W2 ⟨g, 3, none⟩ q.mn v' (by show q.mn ≠ g; omega), gr.block q.mn (by have := bb.size; have := h.known.lt; omega) (fun e => by obtain ⟨_, c, hc⟩ := hdv _ e; exact nmap hc rfl), bb.block q.mn (by have := h.known.lt; omega)]
    have e2 := h.known.put d.nm (((r.defs.map (·.nm)).length : Nat) : Int)
    have e3 : numb ((r.defs ++ [d]).map (·.nm)) 0 = numb (r.defs.map (·.nm)) 0 ++ [(d.nm, (((r.defs.map (·.nm)).length : Nat) : Int))] := by
      rw [List.map_append, List.map_cons, List.map_nil, numb_append, Nat.zero_add]
    show MP _ _ (numb ((r.defs ++ [d]).map (·.nm)) 0)
    rw [e3]
    exact e1.trans e2
  · refine h.prims.kept (keep q.mp h.prims.lt (Ne.symm h.mkp) (fun e => ?_) (by omega))
    obtain ⟨_, c, hc⟩ := hdv _ e
    rw [show W.heap[q.mp]? = _ from h.prims] at hc
    cases hc
  · obtain ⟨cs, hcs⟩ := h.ty k hk
    exact ⟨cs, (cells hcs (by decide) (by decide)).trans hcs⟩
  · rw [dcs_app r.defs q.ws d bv h.dlen, List.length_append]
    exact S.own_kept hr (fun k e _ => heap_setCell_other W2 ⟨g, 3, none⟩ k v' (by have := hv2 k e; show k ≠ g; omega))
  · have nvk : ∀ {u : Value} {l : List Nd}, NV W (fun b => q.c b = 1) u l -> NV (W2.setCell ⟨g, 3, none⟩ v') (fun b => q.c b = 1) u l := fun hh => hh.kept (fun k hk => by
      obtain ⟨cs, hcs⟩ := h.ty k (by omega)
      exact cells hcs (by decide) (by decide)) (fun _ hk => hk)
    by_cases hi : i < r.defs.length
    · rw [List.getElem?_append_left hi] at hd
      rw [List.getElem?_append_left (by rw [h.dlen]; exact hi)] at hw
      exact nvk (h.dnv i d' w hd hw)
    · rw [List.getElem?_append_right (by omega)] at hd
      rw [List.getElem?_append_right (by rw [h.dlen]; omega), h.dlen] at hw
      have h0 : i - r.defs.length = 0 := by
        have := (List.getElem?_eq_some_iff.1 hd).1
        simp at this
        omega
      rw [h0] at hd hw
      simp only [List.getElem?_cons_zero, Option.some.injEq] at hd hw
      subst hd hw
      exact nvk hnv
  · obtain ⟨x1, x2⟩ := h.ex x hx
    obtain ⟨n1, n2, n3, _⟩ := okT_ne x1
    exact ⟨x1, (cells x2 n3 n2).trans x2⟩
theorem infoD : (Tryz.prog.info? DF).map (fun i => (i.zero, i.size, i.bytes)) = some (some (.agg #[.int .i64 0, .string ⟨#[]⟩, .int .u16 0, .slice none 0 0, .int .i64 0, .int .i64 0]), 6, 72) := by kernel_rfl
theorem dv_val {W0 : World} {pm : Px} {g : Nat} {e : Ps} {W : World} {r : Rd} {q : Rv} (h : RC W0 pm g e W r q) : ∃ p c, q.dv = .slice p r.defs.length c := by
  rcases h.drow.2 with ⟨e1, e2⟩ | ⟨g', cap, cur, e1, _⟩
  · exact ⟨none, 0, by rw [e1, e2]⟩
  · exact ⟨_, _, e1⟩
theorem define_any (W0 : World) (pm : Px) (g : Nat) (e : Ps) (W : World) (r : Rd) (q : Rv) (h : RC W0 pm g e W r q) (k v : Int) (t : Tk) (pB : Option Addr) (cB : Nat) (body : List Nd) (hnv : NV W (fun b => q.c b = 1) (.slice pB body.length cB) body) (hkn : known r t.t = false) (hlen : r.defs.length <= 1000000) :
    Calls Tryz.prog 78 #[.pointer (some ⟨g, 0, none⟩), .int .i64 k, .agg (tkc t).toArray, .int .u16 v, .slice pB body.length cB] W fun en w' => en = .returned (.tuple #[]) /\ ∃ q', RC W0 pm g e w' (define k t v body r) q' := by
  obtain ⟨pd, cd, hdv⟩ := dv_val h
  obtain ⟨W1, hW1⟩ : ∃ W1, W.alloc (.cells #[.int .i64 t.k, .string t.t, .int .u16 t.v, .int .i64 t.p.1, .int .i64 t.p.2] 53) = W1 := ⟨_, rfl⟩
  have hB : Below W.heap.size W W1 := by rw [<- hW1]; exact (Below.refl _ _).alloc (Nat.le_refl _) _
  have v1 : W1.heap[W.heap.size]? = some (.cells [.int .i64 t.k, .string t.t, .int .u16 t.v, .int .i64 t.p.1, .int .i64 t.p.2].toArray 53 (0, 0)) := by rw [<- hW1]; exact heap_alloc_new W _
  have hR1 := (h.next hB)
  have hnv1 : NV W1 (fun b => q.c b = 1) (.slice pB body.length cB) body := hnv.kept (fun k hk => hB.block k (h.clt k (by omega))) (fun _ hk => hk)
  have hlk : lk (numb (r.defs.map (·.nm)) 0) t.t = none := by
    have h1 := lk_numb t.t (r.defs.map (·.nm)) 0
    cases hl : lk (numb (r.defs.map (·.nm)) 0) t.t with
    | none => rfl
    | some x => rw [hl] at h1; unfold known at hkn; rw [<- h1] at hkn; cases hkn
  have HSX := hid (fun (w : World) (k1 : w.heap[g]? = some (.cells (rdc e r q).toArray RD (0, 0))) (k2 : w.heap[W.heap.size]? = some (.cells [.int .i64 t.k, .string t.t, .int .u16 t.v, .int .i64 t.p.1, .int .i64 t.p.2].toArray 53 (0, 0))) => show (w.cell? ⟨g, 3, none⟩ = some (.slice pd r.defs.length cd) /\ w.cell? ⟨g, 5, none⟩ = some (.map (some q.mn)) /\ w.cell? ⟨W.heap.size, 0, none⟩ = some (.int .i64 t.k) /\ w.cell? ⟨W.heap.size, 1, none⟩ = some (.string t.t) /\ w.cell? ⟨W.heap.size, 2, none⟩ = some (.int .u16 t.v) /\ w.cell? ⟨W.heap.size, 3, none⟩ = some (.int .i64 t.p.1) /\ w.cell? ⟨W.heap.size, 4, none⟩ = some (.int .i64 t.p.2)) from ⟨by rw [<- hdv]; exact (rd_cells k1).2.2.2.1, (rd_cells k1).2.2.2.2.2.1, S.cell_of w _ 0 _ 53 _ k2 rfl, S.cell_of w _ 1 _ 53 _ k2 rfl, S.cell_of w _ 2 _ 53 _ k2 rfl, S.cell_of w _ 3 _ 53 _ k2 rfl, S.cell_of w _ 4 _ 53 _ k2 rfl⟩)
  have HX := hid (And.intro hR1 (And.intro v1 (And.intro hnv1 (And.intro hlk (And.intro hdv hlen)))))
  have hgW := h.lt
  have HGW := hid hgW
  clear h hB v1 hR1 hnv hnv1 hlk hkn hdv hgW
  unfold tkc
  go_enter Tryz.func78, Tryz.ntmps78
  go_upto_region 1 with fail
  try rw [hW1]
  clear hW1
  have hBd : Below W1.heap.size W1 W1.drew := ⟨rfl, rfl, rfl, Nat.le_refl _, fun _ _ => rfl⟩
  have hR := HX.out.1.next hBd
  have v1 : W1.drew.heap[W.heap.size]? = some (.cells [.int .i64 t.k, .string t.t, .int .u16 t.v, .int .i64 t.p.1, .int .i64 t.p.2].toArray 53 (0, 0)) := HX.out.2.1
  have hnv : NV W1.drew (fun b => q.c b = 1) (.slice pB body.length cB) body := HX.out.2.2.1.kept (fun _ _ => rfl) (fun _ hk => hk)
  refine wp_region_drop [12] (S := fun wz : World => wz.cell? ⟨g, 3, none⟩ = some (.slice pd r.defs.length cd) /\ wz.cell? ⟨g, 5, none⟩ = some (.map (some q.mn)) /\ wz.cell? ⟨W.heap.size, 0, none⟩ = some (.int .i64 t.k) /\ wz.cell? ⟨W.heap.size, 1, none⟩ = some (.string t.t) /\ wz.cell? ⟨W.heap.size, 2, none⟩ = some (.int .u16 t.v) /\ wz.cell? ⟨W.heap.size, 3, none⟩ = some (.int .i64 t.p.1) /\ wz.cell? ⟨W.heap.size, 4, none⟩ = some (.int .i64 t.p.2)) (by kernel_rfl) (HSX.out _ hR.blk v1) (fun hHeld => ?_)
  have HX2 := hid HX.out.2.2.2
  clear HX hBd
  generalize W1.drew = y0 at *
  refine D.zP (is := [0, 1, 2, 4, 6, 7, 8, 9]) ?_
  iterate 8
   refine D.yP (v := ?_) rfl (by kernel_rfl) (fun c a w h => h) (by rfl) ?_ (fun _ => hHeld) ?_
   rotate_left
   · (intro w hSw; clear hSw; go_simp; try with_reducible rfl)
   simp only [D.pts]
  refine D.eP ?_
  refine D.zT (is := [3, 5, 10]) ?_
  iterate 3
   refine D.yT (v := ?_) rfl (by kernel_rfl) (fun c a w h => h) (by rfl) ?_ hHeld ?_
   rotate_left
   · (intro w hSw; (try dsimp only at hSw); go_simp; try with_reducible rfl)
   simp only [D.pts]
  refine D.eT ?_
  refine D.xP 11 (v := ?_) rfl (by kernel_rfl) (fun c a w h => h) (by rfl) ?_ (fun _ => hHeld) ?_
  rotate_left
  · (intro w hSw; clear hSw; go_simp; try with_reducible rfl)
  simp only [D.pts]
  have hput := run_put y0 q.mn t.t ((r.defs.length : Nat) : Int) _ hR.known HX2.out.1
  have hp1 : setBlock y0 q.mn (.map (ents 0 (numb (r.defs.map (·.nm)) 0 ++ [(t.t, (r.defs.length : Int))])).toArray (numb (r.defs.map (·.nm)) 0 ++ [(t.t, (r.defs.length : Int))]).length) = put1 y0 q.mn (r.defs.map (·.nm)) t.t := by unfold put1; rw [List.length_map]
  rw [hp1] at hput
  clear hp1
  have HR := hid hR
  have hb1 : (put1 y0 q.mn (r.defs.map (·.nm)) t.t).heap[g]? = some (.cells (rdc e r q).toArray RD (0, 0)) := (R.setBlock_other y0 q.mn g _ (by have := hR.hmn; omega)).trans hR.blk
  have hb2 : (put1 y0 q.mn (r.defs.map (·.nm)) t.t).heap[W.heap.size]? = some (.cells [.int .i64 t.k, .string t.t, .int .u16 t.v, .int .i64 t.p.1, .int .i64 t.p.2].toArray 53 (0, 0)) := (R.setBlock_other y0 q.mn _ _ (by rintro e0; rw [e0] at v1; rw [show y0.heap[q.mn]? = _ from hR.known] at v1; cases v1)).trans v1
  have hcg : g < (put1 y0 q.mn (r.defs.map (·.nm)) t.t).heap.size := (Array.getElem?_eq_some_iff.1 hb1).1
  obtain ⟨y1, hy1⟩ : ∃ y1, put1 y0 q.mn (r.defs.map (·.nm)) t.t = y1 := ⟨_, rfl⟩
  rw [hy1] at hput hb1 hb2 hcg
  have HY := hid (And.intro hy1 (And.intro hb1 (And.intro hb2 hnv)))
  clear hR hb1 hb2 hy1 v1 hnv
  refine wpD_ready (rs := [12]) (by kernel_rfl) (by simp) ?_
  refine AllD.late rfl (by kernel_rfl) (fun K hK => ?_)
  go_simp
  refine hK.out _ _ ?_
  clear hK K
  try simp only [D.pts]
  refine wpD_done (by kernel_rfl) ?_ _
  clear hHeld hput
  go_upto_region 2 with fail
  obtain ⟨hy1, hb1, hb2, hnv⟩ := HY.out
  have hd1 : y1.drew.heap[g]? = some (.cells (rdc e r q).toArray RD (0, 0)) := hb1
  have hd2 : y1.drew.heap[W.heap.size]? = some (.cells [.int .i64 t.k, .string t.t, .int .u16 t.v, .int .i64 t.p.1, .int .i64 t.p.2].toArray 53 (0, 0)) := hb2
  refine wp_region_drop [19] (S := fun wz : World => wz.cell? ⟨g, 3, none⟩ = some (.slice pd r.defs.length cd) /\ wz.cell? ⟨g, 5, none⟩ = some (.map (some q.mn)) /\ wz.cell? ⟨W.heap.size, 0, none⟩ = some (.int .i64 t.k) /\ wz.cell? ⟨W.heap.size, 1, none⟩ = some (.string t.t) /\ wz.cell? ⟨W.heap.size, 2, none⟩ = some (.int .u16 t.v) /\ wz.cell? ⟨W.heap.size, 3, none⟩ = some (.int .i64 t.p.1) /\ wz.cell? ⟨W.heap.size, 4, none⟩ = some (.int .i64 t.p.2)) (by kernel_rfl) (HSX.out _ hd1 hd2) (fun hHeld => ?_)
  have hBy : Below y1.heap.size y1 y1.drew := ⟨rfl, rfl, rfl, Nat.le_refl _, fun _ _ => rfl⟩
  clear hb1 hb2
  generalize y1.drew = y2 at *
  refine D.zP (is := [0, 1, 2, 3, 4, 6, 7, 9, 10, 11]) ?_
  iterate 10
   refine D.yP (v := ?_) rfl (by kernel_rfl) (fun c a w h => h) (by rfl) ?_ (fun _ => hHeld) ?_
   rotate_left
   · (intro w hSw; clear hSw; go_simp; try with_reducible rfl)
   simp only [D.pts]
  refine D.eP ?_
  refine D.zT (is := [5, 8, 12]) ?_
  iterate 3
   refine D.yT (v := ?_) rfl (by kernel_rfl) (fun c a w h => h) (by rfl) ?_ hHeld ?_
   rotate_left
   · (intro w hSw; (try dsimp only at hSw); go_simp; try with_reducible rfl)
   simp only [D.pts]
  refine D.eT ?_
  refine D.xP 13 (v := ?_) rfl (by kernel_rfl) (fun c a w h => h) (by rfl) ?_ (fun _ => hHeld) ?_
  rotate_left
  · (intro w hSw; clear hSw; go_simp; try with_reducible rfl)
  simp only [D.pts]
  obtain ⟨y3, hy3⟩ : ∃ y3, y2.alloc (.cells #[.int .i64 k, .string t.t, .int .u16 v, .slice pB body.length cB, .int .i64 t.p.1, .int .i64 t.p.2] DF) = y3 := ⟨_, rfl⟩
  have hB23 : Below y2.heap.size y2 y3 := by rw [<- hy3]; exact (Below.refl _ _).alloc (Nat.le_refl _) _
  have hnw : y3.heap[y2.heap.size]? = some (.cells [.int .i64 k, .string t.t, .int .u16 v, .slice pB body.length cB, .int .i64 t.p.1, .int .i64 t.p.2].toArray DF (0, 0)) := by rw [<- hy3]; exact heap_alloc_new y2 _
  have hcs : S.Cs y3 (.slice (some ⟨y2.heap.size, 0, none⟩) 1 1) 6 1 [.int .i64 k, .string t.t, .int .u16 v, .slice pB body.length cB, .int .i64 t.p.1, .int .i64 t.p.2] := .inr ⟨⟨y2.heap.size, 0, none⟩, 1, rfl, rfl, fun j x hj => by
      rw [Addr.add_lit, Nat.zero_add]
      exact S.cell_of y3 _ j _ DF x hnw hj, fun x hx => by
      simp only [List.mem_cons, List.not_mem_nil, or_false] at hx
      rcases hx with rfl | rfl | rfl | rfl | rfl | rfl <;> rfl⟩
  have k1 : y3.heap[g]? = some (.cells (rdc e r q).toArray RD (0, 0)) := (hB23.block g (Array.getElem?_eq_some_iff.1 hd1).1).trans hd1
  have k2 : y3.heap[W.heap.size]? = some (.cells [.int .i64 t.k, .string t.t, .int .u16 t.v, .int .i64 t.p.1, .int .i64 t.p.2].toArray 53 (0, 0)) := (hB23.block _ (Array.getElem?_eq_some_iff.1 hd2).1).trans hd2
  refine wpD_ready (rs := [14]) (by kernel_rfl) (by simp) ?_
  refine AllD.cons rfl (fun K hK => ?_) AllD.nil
  go_simp
  try rw [hy3]
  refine hK.out _ _ (HSX.out _ k1 k2) (fun hHeld => ?_)
  clear hK K
  try simp only [D.pts]
  have hrow : y3.ownsRow (g + 1) DF 6 (.slice pd r.defs.length cd) r.defs.length (dcs r.defs q.ws) := by
    rw [<- HX2.out.2.1]
    refine S.own_kept HR.out.drow fun b eb hbl => ?_
    obtain ⟨c', hc'⟩ := own_tyD (n := 0) HR.out.drow b eb
    have e1 : y1.heap[b]? = y0.heap[b]? := by rw [<- hy1]; exact R.setBlock_other y0 q.mn b _ (by rintro rfl; rw [show y0.heap[q.mn]? = _ from HR.out.known] at hc'; cases hc')
    have l1 : b < y1.heap.size := by rw [<- hy1]; unfold put1; rw [R.setBlock_size]; exact hbl
    rw [hB23.block b (Nat.lt_of_lt_of_le l1 hBy.size), hBy.block b l1, e1]
  refine wpD_ready (rs := [15]) (by kernel_rfl) (by simp) ?_
  refine AllD.cons rfl (fun K hK => ?_) AllD.nil
  rw [if_pos (by rfl)]
  refine S.wp_append_row _ _ _ 23 DF (.agg #[.int .i64 0, .string ⟨#[]⟩, .int .u16 0, .slice none 0 0, .int .i64 0, .int .i64 0]) 6 72 Tryz.underlying23 infoD rfl (by decide) rfl (g + 1) _ r.defs.length (dcs r.defs q.ws) rfl hrow _ 1 [.int .i64 k, .string t.t, .int .u16 v, .slice pB body.length cB, .int .i64 t.p.1, .int .i64 t.p.2] rfl hcs (by have := HX2.out.2.2; unfold S.room; omega) (by have := HX2.out.2.2; unfold maxLen; omega) (by have := (Array.getElem?_eq_some_iff.1 k1).1; omega) (fun v2 y4 r2 g2 => ?_)
  have gk : ∀ b, b < y3.heap.size -> (∀ c, y3.heap[b]? ≠ some (.cells c DF (0, 0))) -> y4.heap[b]? = y3.heap[b]? := fun b hb hn => g2.block b hb fun eb => by
    obtain ⟨c', hc'⟩ := own_tyD (n := 0) hrow b eb.symm
    exact hn c' hc'
  have m1 : y4.heap[g]? = some (.cells (rdc e r q).toArray RD (0, 0)) := (gk g (Array.getElem?_eq_some_iff.1 k1).1 (fun c hc => ty_ne k1 hc (by decide) rfl)).trans k1
  have m2 : y4.heap[W.heap.size]? = some (.cells [.int .i64 t.k, .string t.t, .int .u16 t.v, .int .i64 t.p.1, .int .i64 t.p.2].toArray 53 (0, 0)) := (gk _ (Array.getElem?_eq_some_iff.1 k2).1 (fun c hc => ty_ne k2 hc (by decide) rfl)).trans k2
  refine hK.out _ _ (HSX.out _ m1 m2) (fun hHeld => ?_)
  clear hK K
  try simp only [D.pts]
  have hfin : RC W0 pm g e (y4.setCell ⟨g, 3, none⟩ v2) (define k t v body r) { q with dv := v2, ws := q.ws ++ [.slice pB body.length cB] } := by
    have g3 : S.Grew y3 y4 q.dv v2 := by rw [HX2.out.2.1]; exact g2
    refine HR.out.define (W := y0) (Wb := y3) (W2 := y4) (⟨k, t.t, v, body, t.p⟩ : Df) ?_ r2 g3 hnv
    show Below (put1 y0 q.mn (r.defs.map (·.nm)) t.t).heap.size (put1 y0 q.mn (r.defs.map (·.nm)) t.t) y3
    rw [hy1]
    exact hBy.trans (hB23.mono hBy.size)
  have HF := hid hfin
  have f3 := S.frozen_of y4 g 3 _ _ m1
  have x3 := (HSX.out _ m1 m2).1
  clear hfin hrow hcs hnw hB23 hy3 k1 k2 m1 m2 gk hd1 hd2 hBy hnv hy1 HY HR HSX
  obtain ⟨p2, c2, hv2⟩ : ∃ p2 c2, v2 = .slice p2 (r.defs.length + 1) c2 := by
    rcases r2.2 with ⟨_, h0⟩ | ⟨g', c', cur, hv, _⟩
    · omega
    · exact ⟨_, _, hv⟩
  subst hv2
  clear r2 g2
  refine D.zP (is := [16, 17, 18]) ?_
  iterate 3
   refine D.yP (v := ?_) rfl (by kernel_rfl) (fun c a w h => h) (by rfl) ?_ (fun _ => hHeld) ?_
   rotate_left
   · (intro w hSw; clear hSw; go_simp; try with_reducible rfl)
   simp only [D.pts]
  refine D.eP ?_
  refine wpD_ready (rs := [19]) (by kernel_rfl) (by simp) ?_
  refine AllD.late rfl (by kernel_rfl) (fun K hK => ?_)
  go_simp
  refine hK.out _ _ ?_
  clear hK K
  try simp only [D.pts]
  refine wpD_done (by kernel_rfl) ?_ _
  clear hHeld f3 x3
  go_wp2
  go_end0
  exact ⟨rfl, _, HF.out⟩
set_option maxHeartbeats 4000000
set_option maxRecDepth 100000
def vu (l : List UInt8) : List Value := l.map fun x => .int .u8 (x.toNat : Int)
theorem bcs_app : ∀ (l : List (Int × List UInt8)) (ws : List Value) (d : Int × List UInt8) (w : Value), ws.length = l.length -> bcs (l ++ [d]) (ws ++ [w]) = bcs l ws ++ [.int .i64 d.1, w]
 | [], [], d, w, _ => by simp [bcs]
 | m :: l, z :: ys, d, w, h => by
  rw [List.cons_append, List.cons_append, bcs, bcs, bcs_app l ys d w (by simpa using h), List.append_assoc]
theorem bcs_at : ∀ (l : List (Int × List UInt8)) (ws : List Value) (i : Nat) (d : Int × List UInt8) (w : Value), l[i]? = some d -> ws[i]? = some w -> (bcs l ws)[i * 2]? = some (.int .i64 d.1) /\ (bcs l ws)[i * 2 + 1]? = some w
 | m :: l, z :: ys, 0, d, w, hl, hy => by
  simp only [List.getElem?_cons_zero, Option.some.injEq] at hl hy
  subst hl hy
  exact ⟨rfl, rfl⟩
 | m :: l, z :: ys, i + 1, d, w, hl, hy => by
  have := bcs_at l ys i d w (by simpa using hl) (by simpa using hy)
  rw [bcs, List.getElem?_append_right (by simp; omega), List.getElem?_append_right (by simp; omega)]
  simp only [List.length_cons, List.length_nil]
  rw [show (i + 1) * 2 - (0 + 1 + 1) = i * 2 by omega, show (i + 1) * 2 + 1 - (0 + 1 + 1) = i * 2 + 1 by omega]
  exact this
 | [], _, _, _, _, hl, _ => by simp at hl
 | _ :: _, [], _, _, _, _, hy => by simp at hy
theorem RC.banksRow {W0 : World} {pm : Px} {g : Nat} {e : Ps} {W : World} {r : Rd} {q : Rv} (h : RC W0 pm g e W r q) : ∃ p c, q.xv = .slice p r.banks.length c /\ ∀ (k : Nat) (d : Int × List UInt8), r.banks[k]? = some d -> ∃ b q1 a1 d1, p = some ⟨b, 0, none⟩ /\ b < W.heap.size /\ W.cell? ⟨b, k * 2, none⟩ = some (.int .i64 d.1) /\ W.cell? ⟨b, k * 2 + 1, none⟩ = some (.slice q1 a1 d1) := by
 rcases h.brow.2 with ⟨e1, e2⟩ | ⟨g', cap, cur, e1, hb, hg, hnc, hcm, hcs, htake⟩
 ·exact ⟨none, 0, by rw [e1, e2], fun k d hk => by rw [List.eq_nil_of_length_eq_zero e2] at hk; simp at hk⟩
 ·refine ⟨_, _, e1, fun k d hk => ?_⟩
  have hkl : k < r.banks.length := (List.getElem?_eq_some_iff.1 hk).1
  have hw := List.getElem?_eq_getElem (l := q.zs) (i := k) (by rw [h.blen]; exact hkl)
  obtain ⟨c1, c2⟩ := bcs_at r.banks q.zs k d _ hk hw
  obtain ⟨q1, a1, d1, hq⟩ : ∃ q1 a1 d1, q.zs[k]'(by rw [h.blen]; exact hkl) = .slice q1 a1 d1 := by
   rcases (h.bdat k d _ hk hw).2 with ⟨e3, _⟩ | ⟨g2, cap2, cur2, e3, _⟩
   ·exact ⟨_, _, _, e3⟩
   ·exact ⟨_, _, _, e3⟩
  rw [hq] at c2
  have cellOf : ∀ (j : Nat) (x : Value), (bcs r.banks q.zs)[j]? = some x -> W.cell? ⟨g', j, none⟩ = some x := fun j x hj => by
   rw [<- htake, List.getElem?_take] at hj
   split at hj
   ·simp only [World.cell?, hg]
    simpa using hj
   ·cases hj
  exact ⟨g', q1, a1, d1, rfl, (Array.getElem?_eq_some_iff.1 hg).1, cellOf _ _ c1, cellOf _ _ c2⟩
theorem isNum_any (num x : Int) (q1 : Option Addr) (a1 d1 b2 : Nat) (W : World) (hb2 : W.cell? ⟨b2, 0, none⟩ = some (.int .i64 num)) :
  Calls Tryz.prog 143 #[.agg #[.int .i64 x, .slice q1 a1 d1], .pointer (some ⟨b2, 0, none⟩)] W fun e w' => e = .returned (.bool (x == num)) /\ Below W.heap.size W w' := by
 obtain ⟨W1, hW1⟩ : ∃ W1, W.alloc (.cells #[.int .i64 x, .slice q1 a1 d1] BK) = W1 := ⟨_, rfl⟩
 have hB : Below W.heap.size W W1 := by rw [<- hW1]; exact (Below.refl _ _).alloc (Nat.le_refl _) _
 have v1 : W1.heap[W.heap.size]? = some (.cells [.int .i64 x, .slice q1 a1 d1].toArray BK (0, 0)) := by rw [<- hW1]; exact heap_alloc_new W _
 have x0 := S.cell_of W1 _ 0 _ BK _ v1 rfl
 have x2 : W1.cell? ⟨b2, 0, none⟩ = some (.int .i64 num) := (hB.cell (World.block_lt_of_cell? W _ hb2)).trans hb2
 have HB := hid hB
 clear v1 hB hb2
 go_enter Tryz.func143, Tryz.ntmps143
 go_wp2
 go_ret
 exact ⟨rfl, HB.out⟩
def hasN (l : List (Int × List UInt8)) (num : Int) : Bool := l.any fun b => b.1 == num
theorem hasN_take (l : List (Int × List UInt8)) (num : Int) (k : Nat) (d : Int × List UInt8) (h : l[k]? = some d) (h0 : hasN (l.take k) num = false) : hasN (l.take (k + 1)) num = (d.1 == num) := by
 unfold hasN at *
 rw [List.take_add_one, h, List.any_append, h0]
 simp
theorem hasN_of (l : List (Int × List UInt8)) (num : Int) (k : Nat) (h : hasN (l.take k) num = true) : hasN l num = true := by
 unfold hasN at *
 rw [<- List.take_append_drop k l, List.any_append, h, Bool.true_or]
def BR (W : World) (p : Option Addr) (l : List (Int × List UInt8)) : Prop := ∀ (k : Nat) (d : Int × List UInt8), l[k]? = some d -> ∃ b q1 a1 d1, p = some ⟨b, 0, none⟩ /\ b < W.heap.size /\ W.cell? ⟨b, k * 2, none⟩ = some (.int .i64 d.1) /\ W.cell? ⟨b, k * 2 + 1, none⟩ = some (.slice q1 a1 d1)
theorem indexNum (l : List (Int × List UInt8)) (num : Int) (b2 : Nat) (p : Option Addr) (c : Nat) (W : World) (hl : l.length <= 1000000) (hp : BR W p l) (hb2 : W.cell? ⟨b2, 0, none⟩ = some (.int .i64 num)) :
  Calls Tryz.prog 212 #[.slice p l.length c, .func (.func 143) #[] #[.pointer (some ⟨b2, 0, none⟩)]] W fun e w' => ∃ z : Int, e = .returned (.int .i64 z) /\ decide (0 <= z) = hasN l num /\ Below W.heap.size W w' := by
 have hbl := World.block_lt_of_cell? W _ hb2
 go_enter Tryz.func212, Tryz.ntmps212
 go_wp2
 go_loopw [8] (fun ix wr => ∃ k : Nat, k <= l.length /\ ix = .int .i64 (k : Int) /\ Below W.heap.size W wr /\ hasN (l.take k) num = false) (fun ix _ => l.length - (intOf ix).toNat)
 case atStart => exact ⟨0, by omega, rfl, Below.refl _ _, rfl⟩
 case round =>
  obtain ⟨k, hk, rfl, hb, hE⟩ := hrel
  by_cases hlt : k < l.length
  ·have i1 : (k : Int) < l.length := by omega
   have ea := List.getElem?_eq_getElem hlt
   generalize l[k] = d at *
   obtain ⟨b, q1, a1, d1, rfl, hOb, c0, c1⟩ := hp k d ea
   have g0 := (hb.cell (p := ⟨b, k * 2, none⟩) hOb).trans c0
   have g1 := (hb.cell (p := ⟨b, k * 2 + 1, none⟩) hOb).trans c1
   have hcall := isNum_any num d.1 q1 a1 d1 b2 wr ((hb.cell hbl).trans hb2)
   have HT := hid (hasN_take l num k d ea hE)
   have HB := hid hb
   have HE := hid hE
   clear hp c0 c1 ea hE hb hb2 hOb hbl
   generalize hy : (d.1 == num) = y at *
   clear hy
   go_wp2_with fail
   refine hcall.mono ?_
   rintro e w3 ⟨rfl, hb3⟩
   have HB3 := hid (HB.out.trans (hb3.mono HB.out.size))
   clear hcall hb3 g0 g1
   cases y
   ·go_wp2
    go_roundw
    case rel =>
     first
      | exact ⟨k + 1, by omega, by go_num, HB3.out, HT.out⟩
      | ((repeat apply Exists.intro); refine ⟨⟨k + 1, by omega, ?_, HB3.out, HT.out⟩, rfl⟩; go_num)
    case measure => simp [intOf]; omega
   ·go_wp2
    go_ret
    exact ⟨(k : Int), rfl, by rw [hasN_of l num _ HT.out]; simp, HB3.out⟩
  ·have i1 : ¬ (k : Int) < l.length := by omega
   rw [List.take_of_length_le (by omega)] at hE
   have HE := hid hE
   clear hE
   go_wp2
   go_ret
   exact ⟨-1, rfl, by rw [HE.out]; rfl, hb⟩
theorem containsNum (l : List (Int × List UInt8)) (num : Int) (b2 : Nat) (p : Option Addr) (c : Nat) (W : World) (hl : l.length <= 1000000) (hp : BR W p l) (hb2 : W.cell? ⟨b2, 0, none⟩ = some (.int .i64 num)) :
  Calls Tryz.prog 142 #[.slice p l.length c, .func (.func 143) #[] #[.pointer (some ⟨b2, 0, none⟩)]] W fun e w' => e = .returned (.bool (hasN l num)) /\ Below W.heap.size W w' := by
 have hc := indexNum l num b2 p c W hl hp hb2
 clear hp hb2
 generalize hy : hasN l num = y at *
 clear hy
 go_enter Tryz.func142, Tryz.ntmps142
 go_wp2_with fail
 refine hc.mono ?_
 rintro e w1 ⟨z, rfl, hz, hb⟩
 have HB := hid hb
 clear hb hc
 go_wp2
 go_ret
 exact ⟨by first | rfl | (rw [<- hz]; rfl) | (simp [<- hz]; done), HB.out⟩
def Ap (q : Rv) (v : Value) : Prop := ∀ (i : Nat) (w : Value) (b : Nat), q.zs[i]? = some w -> v.ownBlock = some b -> w.ownBlock ≠ some b
theorem RC.grewB {W0 : World} {pm : Px} {g : Nat} {e : Ps} {W W' : World} {r : Rd} {q : Rv} (h : RC W0 pm g e W r q) {v v' : Value} {n : Nat} {xs : List Value} (hr : W.ownsRow (g + 1) 5 1 v n xs) (hap : Ap q v) (gr : S.Grew W W' v v') : RC W0 pm g e W' r q /\ Ap q v' /\ ∀ (b : Nat) (c : Array Value) (t : TypeId), W.heap[b]? = some (.cells c t (0, 0)) -> t ≠ 5 -> W'.heap[b]? = W.heap[b]? := by
 have cells : ∀ {k : Nat} {c : Array Value} {t : TypeId}, W.heap[k]? = some (.cells c t (0, 0)) -> t ≠ 5 -> W'.heap[k]? = W.heap[k]? := fun hk ht => gr.block _ (Array.getElem?_eq_some_iff.1 hk).1 fun e => by
  obtain ⟨c', hc'⟩ := own_tyD (n := 0) hr _ e.symm
  exact ty_ne hk hc' ht rfl
 have row : ∀ {ty : TypeId} {B s m : Nat} {u : Value} {ys : List Value}, ty ≠ 5 -> W.ownsRow B ty s u m ys -> W'.ownsRow B ty s u m ys := fun h1 hh => S.own_kept hh fun k e _ => by
  obtain ⟨c', hk⟩ := own_tyD (n := 0) hh k e
  exact cells hk h1
 have maps : ∀ {mb : Nat} {L : En}, MP W mb L -> W'.heap[mb]? = W.heap[mb]? := fun hm => gr.block _ hm.lt fun e => by
  obtain ⟨c', hc'⟩ := own_tyD (n := 0) hr _ e.symm
  rw [show W.heap[_]? = _ from hm] at hc'
  cases hc'
 refine ⟨⟨h.old, ?_, (cells h.blk (by decide)).trans h.blk, h.rest, h.known.kept (maps h.known), h.prims.kept (maps h.prims), h.hmn, h.hmp, h.mkp, fun k hk => ?_, h.cg, row (by decide) h.drow, h.dlen, fun i d w hd hw => (h.dnv i d w hd hw).kept (fun k hk => ?_) (fun _ hk => hk), row (by decide) h.brow, h.blen, fun i d w hd hw => S.own_kept (h.bdat i d w hd hw) (fun k ek hk => ?_), fun x hx => ?_⟩, fun i w b hw hb => ?_, fun b c t hb ht => cells hb ht⟩
 ·exact h.bel.trans ⟨gr.os, gr.tape, gr.output, gr.size, fun k hk => gr.block k (by have := h.lt; have := h.old; omega) (fun e => by have := (hr.lt k e.symm).1; have := h.old; omega)⟩
 ·obtain ⟨cs, hcs⟩ := h.ty k hk
  exact ⟨cs, (cells hcs (by decide)).trans hcs⟩
 ·obtain ⟨cs, hcs⟩ := h.ty k (by omega)
  exact cells hcs (by decide)
 ·exact gr.block k hk (fun e => hap i w k hw e.symm ek)
 ·obtain ⟨x1, x2⟩ := h.ex x hx
  exact ⟨x1, (cells x2 (okT_ne x1).2.2.2.2).trans x2⟩
 ·rcases gr.own with o | o
  ·exact hap i w b hw (by rw [<- o]; exact hb)
  ·intro e
   have h1 := o b hb
   have hi : i < r.banks.length := by rw [<- h.blen]; exact (List.getElem?_eq_some_iff.1 hw).1
   have h2 := ((h.bdat i _ w (List.getElem?_eq_getElem hi) hw).lt b e).2
   omega
theorem RC.bank {W0 : World} {pm : Px} {g : Nat} {e : Ps} {W Wb W2 : World} {r : Rd} {q : Rv} (h : RC W0 pm g e W r q) {v' w : Value} (d : Int × List UInt8) (bb : Below W.heap.size W Wb)
  (hr : W2.ownsRow (g + 1) BK 2 v' (r.banks.length + 1) (bcs r.banks q.zs ++ [.int .i64 d.1, w])) (gr : S.Grew Wb W2 q.xv v') (hd : W.ownsRow (g + 1) 5 1 w d.2.length (vu d.2)) :
  RC W0 pm g e (W2.setCell ⟨g, 4, none⟩ v') { r with banks := r.banks ++ [d] } { q with xv := v', zs := q.zs ++ [w] } := by
 have hlt := h.lt
 have hold := h.old
 have hm := h.hmn
 have hp := h.hmp
 have hdv : ∀ b, some b = q.xv.ownBlock -> g < b /\ ∃ c, W.heap[b]? = some (.cells c BK (0, 0)) := fun b hb => ⟨(h.brow.lt b hb.symm).1, own_tyD (n := 0) h.brow b hb.symm⟩
 have keep2 : ∀ k, k < W.heap.size -> some k ≠ q.xv.ownBlock -> W2.heap[k]? = W.heap[k]? := fun k hk h2 => by
  rw [gr.block k (Nat.lt_of_lt_of_le hk bb.size) h2, bb.block k hk]
 have keep : ∀ k, k < W.heap.size -> some k ≠ q.xv.ownBlock -> k ≠ g -> (W2.setCell ⟨g, 4, none⟩ v').heap[k]? = W.heap[k]? := fun k hk h2 h3 => (heap_setCell_other W2 ⟨g, 4, none⟩ k v' h3).trans (keep2 k hk h2)
 have ndv : ∀ {k : Nat} {c : Array Value} {t : TypeId} {m : Nat × Nat}, W.heap[k]? = some (.cells c t m) -> t ≠ BK -> some k ≠ q.xv.ownBlock := fun hk ht e => by
  obtain ⟨_, c', hc'⟩ := hdv _ e
  exact ty_ne hk hc' ht rfl
 have cells : ∀ {k : Nat} {c : Array Value} {t : TypeId}, W.heap[k]? = some (.cells c t (0, 0)) -> t ≠ BK -> t ≠ RD -> (W2.setCell ⟨g, 4, none⟩ v').heap[k]? = W.heap[k]? := fun hk h1 h2 => keep _ (Array.getElem?_eq_some_iff.1 hk).1 (ndv hk h1) (ty_ne hk h.blk h2)
 have row : ∀ {ty : TypeId} {B s m : Nat} {u : Value} {xs : List Value}, ty ≠ BK -> ty ≠ RD -> W.ownsRow B ty s u m xs -> (W2.setCell ⟨g, 4, none⟩ v').ownsRow B ty s u m xs := fun h1 h2 hh => S.own_kept hh fun k e _ => by
  obtain ⟨c', hk⟩ := own_tyD (n := 0) hh k e
  exact cells hk h1 h2
 have maps : ∀ {mb : Nat} {L : En}, mb ≠ g -> MP W mb L -> (W2.setCell ⟨g, 4, none⟩ v').heap[mb]? = W.heap[mb]? := fun hmb hm => keep _ hm.lt (fun e => by
  obtain ⟨_, c', hc'⟩ := hdv _ e
  rw [show W.heap[_]? = _ from hm] at hc'
  cases hc') (by omega)
 have hgdv : some g ≠ q.xv.ownBlock := fun e => by have := (hdv g e).1; omega
 have hg2 : W2.heap[g]? = some (.cells (rdc e r q).toArray RD (0, 0)) := (keep2 g hlt hgdv).trans h.blk
 have hv2 : ∀ b, v'.ownBlock = some b -> g < b := fun b hb => (hr.lt b hb).1
 refine ⟨h.old, ?_, heap_setCell_same W2 g 4 _ _ v' hg2, h.rest, h.known.kept (maps hm.1 h.known), h.prims.kept (maps hp h.prims), hm, hp, h.mkp, fun k hk => ?_, h.cg, row (by decide) (by decide) h.drow, h.dlen, fun i d' w hd hw => (h.dnv i d' w hd hw).kept (fun k hk => ?_) (fun _ hk => hk), ?_, by simp [h.blen], fun i d' w' hd' hw => ?_, fun x hx => ?_⟩
 ·have b2 : Below W0.heap.size W0 W2 := ⟨gr.os.trans (bb.os.trans h.bel.os), gr.tape.trans (bb.tape.trans h.bel.tape), gr.output.trans (bb.output.trans h.bel.output), by have := gr.size; have := bb.size; have := h.bel.size; omega, fun k hk => (keep2 k (by omega) (fun e => by have := (hdv k e).1; omega)).trans (h.bel.block k hk)⟩
  exact b2.setCell (p := ⟨g, 4, none⟩) h.old _
 ·obtain ⟨cs, hcs⟩ := h.ty k hk
  exact ⟨cs, (cells hcs (by decide) (by decide)).trans hcs⟩
 ·obtain ⟨cs, hcs⟩ := h.ty k (by omega)
  exact cells hcs (by decide) (by decide)
 ·rw [bcs_app r.banks q.zs d w h.blen, List.length_append]
  exact S.own_kept hr (fun k e _ => heap_setCell_other W2 ⟨g, 4, none⟩ k v' (by have := hv2 k e; show k ≠ g; omega))
 ·by_cases hi : i < r.banks.length
  ·rw [List.getElem?_append_left hi] at hd'
   rw [List.getElem?_append_left (by rw [h.blen]; exact hi)] at hw
   exact row (by decide) (by decide) (h.bdat i d' w' hd' hw)
  ·rw [List.getElem?_append_right (by omega)] at hd'
   rw [List.getElem?_append_right (by rw [h.blen]; omega), h.blen] at hw
   have h0 : i - r.banks.length = 0 := by
    have := (List.getElem?_eq_some_iff.1 hd').1
    simp at this
    omega
   rw [h0] at hd' hw
   simp only [List.getElem?_cons_zero, Option.some.injEq] at hd' hw
   subst hd' hw
   exact row (by decide) (by decide) hd
 ·obtain ⟨x1, x2⟩ := h.ex x hx
  obtain ⟨n1, n2, n3, n4, n5⟩ := okT_ne x1
  exact ⟨x1, (cells x2 n4 n2).trans x2⟩
set_option maxHeartbeats 4000000
set_option maxRecDepth 100000
theorem byte_nat (n : Int) (h0 : 0 <= n) (h1 : n <= 255) : (((UInt8.ofNat n.toNat).toNat : Nat) : Int) = n := by
  have e : (UInt8.ofNat n.toNat).toNat = n.toNat := by
    rw [UInt8.toNat_ofNat']
    exact Nat.mod_eq_of_lt (by omega)
  rw [e]
  exact Int.toNat_of_nonneg h0
theorem infoU : (Tryz.prog.info? 5).map (fun i => (i.zero, i.size, i.bytes)) = some (some (.int .u8 0), 1, 1) := by kernel_rfl
theorem infoB : (Tryz.prog.info? BK).map (fun i => (i.zero, i.size, i.bytes)) = some (some (.agg #[.int .i64 0, .slice none 0 0]), 2, 32) := by kernel_rfl
def tl (e : Ps) (n : Nat) (d : List UInt8) (r : Rd) : Except Er (List UInt8 × Rd) :=
  if isW r.at_.t [125] then .ok (d, r) else (must (r.at_.k == 2 && decide (r.at_.v <= 255) && decide (d.length < 16384)) r.at_ 106 >>= fun _ => dataN e n (d ++ [UInt8.ofNat r.at_.v.toNat]) r)
theorem dataN_tl (e : Ps) (n : Nat) (d : List UInt8) (r r1 : Rd) (h : next e r = .ok r1) : dataN e (n + 1) d r = tl e n d r1 := by
  rw [dataN, h]
  rfl
theorem dataN_er (e : Ps) (n : Nat) (d : List UInt8) (r : Rd) (er : Er) (h : next e r = .error er) : dataN e (n + 1) d r = .error er := by
  rw [dataN, h]
  rfl
theorem tl_end (e : Ps) (n : Nat) (d : List UInt8) (r : Rd) (h : isW r.at_.t [125] = true) : tl e n d r = .ok (d, r) := by
  unfold tl; rw [if_pos h]
theorem tl_bad (e : Ps) (n : Nat) (d : List UInt8) (r : Rd) (h : isW r.at_.t [125] = false) (hb : (r.at_.k == 2 && decide (r.at_.v <= 255) && decide (d.length < 16384)) = false) : tl e n d r = .error (r.at_.p, 106) := by
  unfold tl; rw [if_neg (by rw [h]; decide), hb]; rfl
theorem tl_go (e : Ps) (n : Nat) (d : List UInt8) (r : Rd) (h : isW r.at_.t [125] = false) (hb : (r.at_.k == 2 && decide (r.at_.v <= 255) && decide (d.length < 16384)) = true) : tl e n d r = dataN e n (d ++ [UInt8.ofNat r.at_.v.toNat]) r := by
  unfold tl; rw [if_neg (by rw [h]; decide), hb]; rfl
def bres (num : Int) (x : Except Er (List UInt8 × Rd)) : Re := match x with | .ok y => .ok { y.2 with banks := y.2.banks ++ [(num, y.1)] } | .error er => .error er
def BL (W0 : World) (pm : Px) (g : Nat) (e : Ps) (b2 : Nat) (num : Int) (lo M : Nat) (bs : List (Int × List UInt8)) (RES : Except Er (List UInt8 × Rd)) (v6 v7 : Value) (w : World) : Prop :=
  ∃ r q n d b, RC W0 pm g e w r q /\ v7 = .pointer (some ⟨b, 0, none⟩) /\ lo <= b /\ w.heap[b]? = some (.cells (tkc r.at_).toArray 53 (0, 0)) /\ w.heap[b2]? = some (.cells [.int .i64 num].toArray 3 (0, 0)) /\ w.ownsRow (g + 1) 5 1 v6 d.length (vu d) /\ Ap q v6 /\ d.length <= 16384 /\ tl e n d r = RES /\ r.rest.length + 1 <= n /\ (∀ x ∈ r.at_ :: r.rest, 0 <= x.v /\ x.v <= 65535) /\ r.banks = bs
def restC (g : Nat) (w : World) : Nat := match w.cell? ⟨g, 0, none⟩ with | some (.slice _ n _) => n | _ => 0
theorem RC.restC {W0 : World} {pm : Px} {g : Nat} {e : Ps} {W : World} {r : Rd} {q : Rv} (h : RC W0 pm g e W r q) : D.restC g W = r.rest.length := by
  obtain ⟨p, c, hv, _⟩ := h.rest.ex
  have := (rd_cells h.blk).1
  rw [hv] at this
  unfold D.restC
  rw [this]
theorem row_val {W : World} {B n : Nat} {t : TypeId} {s : Nat} {v : Value} {xs : List Value} (h : W.ownsRow B t s v n xs) : ∃ p c, v = .slice p n c := by
  rcases h.2 with ⟨e1, e2⟩ | ⟨g', cap, cur, e1, _⟩
  · exact ⟨none, 0, by rw [e1, e2]⟩
  · exact ⟨_, _, e1⟩
theorem bank_val (W0 : World) (pm : Px) (g : Nat) (e : Ps) (W : World) (r : Rd) (q : Rv) (h : RC W0 pm g e W r q) (t : Tk) (hv0 : 0 <= t.v /\ t.v <= 65535) (hbl : r.banks.length <= 1000000) (hn : ¬ t.v < 16) :
    Calls Tryz.prog 106 #[.pointer (some ⟨g, 0, none⟩), .agg (tkc t).toArray] W (ROc W0 pm g e (fun _ => .tuple #[]) (.error (t.p, 106))) := by
  obtain ⟨px, cx, hxv, hbr⟩ := h.banksRow
  obtain ⟨W1, hW1⟩ : ∃ W1, W.alloc (.cells #[.int .i64 t.k, .string t.t, .int .u16 t.v, .int .i64 t.p.1, .int .i64 t.p.2] 53) = W1 := ⟨_, rfl⟩
  have hB1 : Below W.heap.size W W1 := by rw [<- hW1]; exact (Below.refl _ _).alloc (Nat.le_refl _) _
  have v1 : W1.heap[W.heap.size]? = some (.cells (tkc t).toArray 53 (0, 0)) := by rw [<- hW1]; exact heap_alloc_new W _
  obtain ⟨W2, hW2⟩ : ∃ W2, W1.alloc (.cells #[.int .i64 t.v] 3) = W2 := ⟨_, rfl⟩
  have hB2 : Below W1.heap.size W1 W2 := by rw [<- hW2]; exact (Below.refl _ _).alloc (Nat.le_refl _) _
  have v2 : W2.heap[W1.heap.size]? = some (.cells [.int .i64 t.v].toArray 3 (0, 0)) := by rw [<- hW2]; exact heap_alloc_new W1 _
  have v12 : W2.heap[W.heap.size]? = some (.cells (tkc t).toArray 53 (0, 0)) := (hB2.block _ (Array.getElem?_eq_some_iff.1 v1).1).trans v1
  have hR2 := (h.next hB1).next hB2
  have HV := hid (fun (w : World) (hb : Below W2.heap.size W2 w) => show (w.heap[W1.heap.size]? = some (.cells [.int .i64 t.v].toArray 3 (0, 0)) /\ w.heap[W.heap.size]? = some (.cells (tkc t).toArray 53 (0, 0))) from ⟨(hb.block _ (Array.getElem?_eq_some_iff.1 v2).1).trans v2, (hb.block _ (Array.getElem?_eq_some_iff.1 v12).1).trans v12⟩)
  have HSX := hid (fun (w : World) (hb : Below W2.heap.size W2 w) (hR : RC W0 pm g e w r q) => show (w.cell? ⟨g, 4, none⟩ = some (.slice px r.banks.length cx) /\ w.cell? ⟨W1.heap.size, 0, none⟩ = some (.int .i64 t.v) /\ w.cell? ⟨W.heap.size, 0, none⟩ = some (.int .i64 t.k) /\ w.cell? ⟨W.heap.size, 1, none⟩ = some (.string t.t) /\ w.cell? ⟨W.heap.size, 2, none⟩ = some (.int .u16 t.v) /\ w.cell? ⟨W.heap.size, 3, none⟩ = some (.int .i64 t.p.1) /\ w.cell? ⟨W.heap.size, 4, none⟩ = some (.int .i64 t.p.2)) from ⟨by rw [<- hxv]; exact (rd_cells hR.blk).2.2.2.2.1, S.cell_of w _ 0 _ 3 _ (HV.out w hb).1 rfl, S.cell_of w _ 0 _ 53 _ (HV.out w hb).2 rfl, S.cell_of w _ 1 _ 53 _ (HV.out w hb).2 rfl, S.cell_of w _ 2 _ 53 _ (HV.out w hb).2 rfl, S.cell_of w _ 3 _ 53 _ (HV.out w hb).2 rfl, S.cell_of w _ 4 _ 53 _ (HV.out w hb).2 rfl⟩)
  have hBr2 : Below W2.heap.size W2 W2 := Below.refl _ _
  obtain ⟨_, y0, x0, x1, x2, x3, x4⟩ := HSX.out W2 hBr2 hR2
  have y1 : W1.cell? ⟨W.heap.size, 2, none⟩ = some (.int .u16 t.v) := S.cell_of W1 _ 2 _ 53 _ v1 rfl
  have hls : W.heap.size < W2.heap.size := (Array.getElem?_eq_some_iff.1 v12).1
  have HLS := hid hls
  have HGL := hid (show g < W.heap.size from h.lt)
  have HL1 := hid (show W.heap.size < W1.heap.size from (Array.getElem?_eq_some_iff.1 v1).1)
  have HXL := hid (show ∀ x ∈ pm.x, x.1 < W.heap.size from fun x hx => (Array.getElem?_eq_some_iff.1 (h.ex x hx).2).1)
  have HNR := hid (fun (w : World) (hb : Below W2.heap.size W2 w) => containsNum r.banks t.v W1.heap.size px cx w hbl (fun k d hk => by
    obtain ⟨b, q1, a1, d1, e1, e2, e3, e4⟩ := hbr k d hk
    have hw : Below W.heap.size W w := hB1.trans ((hB2.trans (hb.mono hB2.size)).mono hB1.size)
    exact ⟨b, q1, a1, d1, e1, Nat.lt_of_lt_of_le e2 hw.size, (hw.cell e2).trans e3, (hw.cell e2).trans e4⟩) (S.cell_of w _ 0 _ 3 _ (HV.out w hb).1 rfl))
  have w0 : IntKind.i64.wrap t.v = t.v := by rw [IntKind.wrap_i64]; omega
  have HR2 := hid hR2
  clear h hB1 v1 hB2 v2 v12 hR2 hbr hxv hls hBr2
  unfold tkc
  go_enter Tryz.func106, Tryz.ntmps106
  have hm := must_false t 106 W2
  unfold tkc at hm
  go_wp2_with fail
  refine hm.mono ?_
  rintro e' w3 ⟨rfl, h3⟩
  exact ⟨rfl, roc_er rfl (HR2.out.err h3)⟩
theorem bank_twice (W0 : World) (pm : Px) (g : Nat) (e : Ps) (W : World) (r : Rd) (q : Rv) (h : RC W0 pm g e W r q) (t : Tk) (hv0 : 0 <= t.v /\ t.v <= 65535) (hbl : r.banks.length <= 1000000) (hn : t.v < 16) (htw : hasN r.banks t.v = true) :
    Calls Tryz.prog 106 #[.pointer (some ⟨g, 0, none⟩), .agg (tkc t).toArray] W (ROc W0 pm g e (fun _ => .tuple #[]) (.error (t.p, 102))) := by
  obtain ⟨px, cx, hxv, hbr⟩ := h.banksRow
  obtain ⟨W1, hW1⟩ : ∃ W1, W.alloc (.cells #[.int .i64 t.k, .string t.t, .int .u16 t.v, .int .i64 t.p.1, .int .i64 t.p.2] 53) = W1 := ⟨_, rfl⟩
  have hB1 : Below W.heap.size W W1 := by rw [<- hW1]; exact (Below.refl _ _).alloc (Nat.le_refl _) _
  have v1 : W1.heap[W.heap.size]? = some (.cells (tkc t).toArray 53 (0, 0)) := by rw [<- hW1]; exact heap_alloc_new W _
  obtain ⟨W2, hW2⟩ : ∃ W2, W1.alloc (.cells #[.int .i64 t.v] 3) = W2 := ⟨_, rfl⟩
  have hB2 : Below W1.heap.size W1 W2 := by rw [<- hW2]; exact (Below.refl _ _).alloc (Nat.le_refl _) _
  have v2 : W2.heap[W1.heap.size]? = some (.cells [.int .i64 t.v].toArray 3 (0, 0)) := by rw [<- hW2]; exact heap_alloc_new W1 _
  have v12 : W2.heap[W.heap.size]? = some (.cells (tkc t).toArray 53 (0, 0)) := (hB2.block _ (Array.getElem?_eq_some_iff.1 v1).1).trans v1
  have hR2 := (h.next hB1).next hB2
  have HV := hid (fun (w : World) (hb : Below W2.heap.size W2 w) => show (w.heap[W1.heap.size]? = some (.cells [.int .i64 t.v].toArray 3 (0, 0)) /\ w.heap[W.heap.size]? = some (.cells (tkc t).toArray 53 (0, 0))) from ⟨(hb.block _ (Array.getElem?_eq_some_iff.1 v2).1).trans v2, (hb.block _ (Array.getElem?_eq_some_iff.1 v12).1).trans v12⟩)
  have HSX := hid (fun (w : World) (hb : Below W2.heap.size W2 w) (hR : RC W0 pm g e w r q) => show (w.cell? ⟨g, 4, none⟩ = some (.slice px r.banks.length cx) /\ w.cell? ⟨W1.heap.size, 0, none⟩ = some (.int .i64 t.v) /\ w.cell? ⟨W.heap.size, 0, none⟩ = some (.int .i64 t.k) /\ w.cell? ⟨W.heap.size, 1, none⟩ = some (.string t.t) /\ w.cell? ⟨W.heap.size, 2, none⟩ = some (.int .u16 t.v) /\ w.cell? ⟨W.heap.size, 3, none⟩ = some (.int .i64 t.p.1) /\ w.cell? ⟨W.heap.size, 4, none⟩ = some (.int .i64 t.p.2)) from ⟨by rw [<- hxv]; exact (rd_cells hR.blk).2.2.2.2.1, S.cell_of w _ 0 _ 3 _ (HV.out w hb).1 rfl, S.cell_of w _ 0 _ 53 _ (HV.out w hb).2 rfl, S.cell_of w _ 1 _ 53 _ (HV.out w hb).2 rfl, S.cell_of w _ 2 _ 53 _ (HV.out w hb).2 rfl, S.cell_of w _ 3 _ 53 _ (HV.out w hb).2 rfl, S.cell_of w _ 4 _ 53 _ (HV.out w hb).2 rfl⟩)
  have hBr2 : Below W2.heap.size W2 W2 := Below.refl _ _
  obtain ⟨_, y0, x0, x1, x2, x3, x4⟩ := HSX.out W2 hBr2 hR2
  have y1 : W1.cell? ⟨W.heap.size, 2, none⟩ = some (.int .u16 t.v) := S.cell_of W1 _ 2 _ 53 _ v1 rfl
  have hls : W.heap.size < W2.heap.size := (Array.getElem?_eq_some_iff.1 v12).1
  have HLS := hid hls
  have HGL := hid (show g < W.heap.size from h.lt)
  have HL1 := hid (show W.heap.size < W1.heap.size from (Array.getElem?_eq_some_iff.1 v1).1)
  have HXL := hid (show ∀ x ∈ pm.x, x.1 < W.heap.size from fun x hx => (Array.getElem?_eq_some_iff.1 (h.ex x hx).2).1)
  have HNR := hid (fun (w : World) (hb : Below W2.heap.size W2 w) => containsNum r.banks t.v W1.heap.size px cx w hbl (fun k d hk => by
    obtain ⟨b, q1, a1, d1, e1, e2, e3, e4⟩ := hbr k d hk
    have hw : Below W.heap.size W w := hB1.trans ((hB2.trans (hb.mono hB2.size)).mono hB1.size)
    exact ⟨b, q1, a1, d1, e1, Nat.lt_of_lt_of_le e2 hw.size, (hw.cell e2).trans e3, (hw.cell e2).trans e4⟩) (S.cell_of w _ 0 _ 3 _ (HV.out w hb).1 rfl))
  have w0 : IntKind.i64.wrap t.v = t.v := by rw [IntKind.wrap_i64]; omega
  have HR2 := hid hR2
  clear h hB1 v1 hB2 v2 v12 hR2 hbr hxv hls hBr2
  unfold tkc
  go_enter Tryz.func106, Tryz.ntmps106
  have hm := must_true t 106 W2
  unfold tkc at hm
  go_wp2_with fail
  refine hm.mono ?_
  rintro e' w3 ⟨rfl, h3⟩
  have HB3 := hid h3
  have HM := hid (fun w => must_false t 102 w)
  unfold tkc at HM
  rw [htw] at HNR
  clear h3 hm x0 x1 x2 x3 x4 y0 y1 hn htw
  go_upto_region 3 with fail
  have hBr : Below W2.heap.size W2 w3.drew := HB3.out.trans ⟨rfl, rfl, rfl, Nat.le_refl _, fun _ _ => rfl⟩
  have hR := HR2.out.next hBr
  refine wp_region_held_drew (S := fun wz : World => wz.cell? ⟨g, 4, none⟩ = some (.slice px r.banks.length cx) /\ wz.cell? ⟨W1.heap.size, 0, none⟩ = some (.int .i64 t.v) /\ wz.cell? ⟨W.heap.size, 0, none⟩ = some (.int .i64 t.k) /\ wz.cell? ⟨W.heap.size, 1, none⟩ = some (.string t.t) /\ wz.cell? ⟨W.heap.size, 2, none⟩ = some (.int .u16 t.v) /\ wz.cell? ⟨W.heap.size, 3, none⟩ = some (.int .i64 t.p.1) /\ wz.cell? ⟨W.heap.size, 4, none⟩ = some (.int .i64 t.p.2)) (by kernel_rfl) (HSX.out _ hBr hR) (fun hHeld => ?_)
  clear HB3 HR2
  generalize w3.drew = y0 at *
  refine D.zH (is := [0, 1, 2, 3, 4, 5, 8]) ?_
  iterate 7
   refine D.yH (v := ?_) rfl (by kernel_rfl) (fun c a w h => h) (by rfl) ?_ hHeld ?_
   rotate_left
   · (intro w hSw; (try dsimp only at hSw); go_simp; try with_reducible rfl)
   simp only [D.pts]
  refine D.eH ?_
  refine wpAnyH_ready (rs := [6]) (by kernel_rfl) (by simp) ?_
  refine AllReadyH.cons rfl (fun K hK => ?_) AllReadyH.nil
  rw [if_pos (by rfl)]
  go_simp
  refine (HNR.out y0 hBr).mono ?_
  rintro e' y1 ⟨rfl, hb1⟩
  replace hR := hR.next hb1
  replace hBr := hBr.trans (hb1.mono hBr.size)
  refine hK.out _ _ (HSX.out _ hBr hR) (fun hHeld => ?_)
  clear hK K
  try simp only [D.pts]
  refine D.xH 7 (v := ?_) rfl (by kernel_rfl) (fun c a w h => h) (by rfl) ?_ hHeld ?_
  rotate_left
  · (intro w hSw; (try dsimp only at hSw); go_simp; try with_reducible rfl)
  simp only [D.pts]
  refine wpAnyH_ready (rs := [9]) (by kernel_rfl) (by simp) ?_
  refine AllReadyH.cons rfl (fun K hK => ?_) AllReadyH.nil
  rw [if_pos (by rfl)]
  go_simp
  refine (HM.out y1).mono ?_
  rintro e' y2 ⟨rfl, hb2⟩
  exact ⟨rfl, roc_er rfl (hR.err hb2)⟩
theorem bank_end (W0 : World) (pm : Px) (g : Nat) (e : Ps) (W : World) (r : Rd) (q : Rv) (h : RC W0 pm g e W r q) (t : Tk) (hv0 : 0 <= t.v /\ t.v <= 65535) (hbl : r.banks.length <= 1000000) (hn : t.v < 16) (htw : hasN r.banks t.v = false) (hr : r.rest = []) :
    Calls Tryz.prog 106 #[.pointer (some ⟨g, 0, none⟩), .agg (tkc t).toArray] W (ROc W0 pm g e (fun _ => .tuple #[]) (.error (e, 105))) := by
  obtain ⟨px, cx, hxv, hbr⟩ := h.banksRow
  obtain ⟨W1, hW1⟩ : ∃ W1, W.alloc (.cells #[.int .i64 t.k, .string t.t, .int .u16 t.v, .int .i64 t.p.1, .int .i64 t.p.2] 53) = W1 := ⟨_, rfl⟩
  have hB1 : Below W.heap.size W W1 := by rw [<- hW1]; exact (Below.refl _ _).alloc (Nat.le_refl _) _
  have v1 : W1.heap[W.heap.size]? = some (.cells (tkc t).toArray 53 (0, 0)) := by rw [<- hW1]; exact heap_alloc_new W _
  obtain ⟨W2, hW2⟩ : ∃ W2, W1.alloc (.cells #[.int .i64 t.v] 3) = W2 := ⟨_, rfl⟩
  have hB2 : Below W1.heap.size W1 W2 := by rw [<- hW2]; exact (Below.refl _ _).alloc (Nat.le_refl _) _
  have v2 : W2.heap[W1.heap.size]? = some (.cells [.int .i64 t.v].toArray 3 (0, 0)) := by rw [<- hW2]; exact heap_alloc_new W1 _
  have v12 : W2.heap[W.heap.size]? = some (.cells (tkc t).toArray 53 (0, 0)) := (hB2.block _ (Array.getElem?_eq_some_iff.1 v1).1).trans v1
  have hR2 := (h.next hB1).next hB2
  have HV := hid (fun (w : World) (hb : Below W2.heap.size W2 w) => show (w.heap[W1.heap.size]? = some (.cells [.int .i64 t.v].toArray 3 (0, 0)) /\ w.heap[W.heap.size]? = some (.cells (tkc t).toArray 53 (0, 0))) from ⟨(hb.block _ (Array.getElem?_eq_some_iff.1 v2).1).trans v2, (hb.block _ (Array.getElem?_eq_some_iff.1 v12).1).trans v12⟩)
  have HSX := hid (fun (w : World) (hb : Below W2.heap.size W2 w) (hR : RC W0 pm g e w r q) => show (w.cell? ⟨g, 4, none⟩ = some (.slice px r.banks.length cx) /\ w.cell? ⟨W1.heap.size, 0, none⟩ = some (.int .i64 t.v) /\ w.cell? ⟨W.heap.size, 0, none⟩ = some (.int .i64 t.k) /\ w.cell? ⟨W.heap.size, 1, none⟩ = some (.string t.t) /\ w.cell? ⟨W.heap.size, 2, none⟩ = some (.int .u16 t.v) /\ w.cell? ⟨W.heap.size, 3, none⟩ = some (.int .i64 t.p.1) /\ w.cell? ⟨W.heap.size, 4, none⟩ = some (.int .i64 t.p.2)) from ⟨by rw [<- hxv]; exact (rd_cells hR.blk).2.2.2.2.1, S.cell_of w _ 0 _ 3 _ (HV.out w hb).1 rfl, S.cell_of w _ 0 _ 53 _ (HV.out w hb).2 rfl, S.cell_of w _ 1 _ 53 _ (HV.out w hb).2 rfl, S.cell_of w _ 2 _ 53 _ (HV.out w hb).2 rfl, S.cell_of w _ 3 _ 53 _ (HV.out w hb).2 rfl, S.cell_of w _ 4 _ 53 _ (HV.out w hb).2 rfl⟩)
  have hBr2 : Below W2.heap.size W2 W2 := Below.refl _ _
  obtain ⟨_, y0, x0, x1, x2, x3, x4⟩ := HSX.out W2 hBr2 hR2
  have y1 : W1.cell? ⟨W.heap.size, 2, none⟩ = some (.int .u16 t.v) := S.cell_of W1 _ 2 _ 53 _ v1 rfl
  have hls : W.heap.size < W2.heap.size := (Array.getElem?_eq_some_iff.1 v12).1
  have HLS := hid hls
  have HGL := hid (show g < W.heap.size from h.lt)
  have HL1 := hid (show W.heap.size < W1.heap.size from (Array.getElem?_eq_some_iff.1 v1).1)
  have HXL := hid (show ∀ x ∈ pm.x, x.1 < W.heap.size from fun x hx => (Array.getElem?_eq_some_iff.1 (h.ex x hx).2).1)
  have HNR := hid (fun (w : World) (hb : Below W2.heap.size W2 w) => containsNum r.banks t.v W1.heap.size px cx w hbl (fun k d hk => by
    obtain ⟨b, q1, a1, d1, e1, e2, e3, e4⟩ := hbr k d hk
    have hw : Below W.heap.size W w := hB1.trans ((hB2.trans (hb.mono hB2.size)).mono hB1.size)
    exact ⟨b, q1, a1, d1, e1, Nat.lt_of_lt_of_le e2 hw.size, (hw.cell e2).trans e3, (hw.cell e2).trans e4⟩) (S.cell_of w _ 0 _ 3 _ (HV.out w hb).1 rfl))
  have w0 : IntKind.i64.wrap t.v = t.v := by rw [IntKind.wrap_i64]; omega
  have HR2 := hid hR2
  clear h hB1 v1 hB2 v2 v12 hR2 hbr hxv hls hBr2
  unfold tkc
  go_enter Tryz.func106, Tryz.ntmps106
  have hm := must_true t 106 W2
  unfold tkc at hm
  go_wp2_with fail
  refine hm.mono ?_
  rintro e' w3 ⟨rfl, h3⟩
  have HB3 := hid h3
  have HM := hid (fun w => must_true t 102 w)
  unfold tkc at HM
  rw [htw] at HNR
  clear h3 hm x0 x1 x2 x3 x4 y0 y1 hn htw
  go_upto_region 3 with fail
  have hBr : Below W2.heap.size W2 w3.drew := HB3.out.trans ⟨rfl, rfl, rfl, Nat.le_refl _, fun _ _ => rfl⟩
  have hR := HR2.out.next hBr
  refine wp_region_held_drew (S := fun wz : World => wz.cell? ⟨g, 4, none⟩ = some (.slice px r.banks.length cx) /\ wz.cell? ⟨W1.heap.size, 0, none⟩ = some (.int .i64 t.v) /\ wz.cell? ⟨W.heap.size, 0, none⟩ = some (.int .i64 t.k) /\ wz.cell? ⟨W.heap.size, 1, none⟩ = some (.string t.t) /\ wz.cell? ⟨W.heap.size, 2, none⟩ = some (.int .u16 t.v) /\ wz.cell? ⟨W.heap.size, 3, none⟩ = some (.int .i64 t.p.1) /\ wz.cell? ⟨W.heap.size, 4, none⟩ = some (.int .i64 t.p.2)) (by kernel_rfl) (HSX.out _ hBr hR) (fun hHeld => ?_)
  clear HB3 HR2
  generalize w3.drew = y0 at *
  refine D.zH (is := [0, 1, 2, 3, 4, 5, 8]) ?_
  iterate 7
   refine D.yH (v := ?_) rfl (by kernel_rfl) (fun c a w h => h) (by rfl) ?_ hHeld ?_
   rotate_left
   · (intro w hSw; (try dsimp only at hSw); go_simp; try with_reducible rfl)
   simp only [D.pts]
  refine D.eH ?_
  refine wpAnyH_ready (rs := [6]) (by kernel_rfl) (by simp) ?_
  refine AllReadyH.cons rfl (fun K hK => ?_) AllReadyH.nil
  rw [if_pos (by rfl)]
  go_simp
  refine (HNR.out y0 hBr).mono ?_
  rintro e' y1 ⟨rfl, hb1⟩
  replace hR := hR.next hb1
  replace hBr := hBr.trans (hb1.mono hBr.size)
  refine hK.out _ _ (HSX.out _ hBr hR) (fun hHeld => ?_)
  clear hK K
  try simp only [D.pts]
  refine D.xH 7 (v := ?_) rfl (by kernel_rfl) (fun c a w h => h) (by rfl) ?_ hHeld ?_
  rotate_left
  · (intro w hSw; (try dsimp only at hSw); go_simp; try with_reducible rfl)
  simp only [D.pts]
  refine wpAnyH_ready (rs := [9]) (by kernel_rfl) (by simp) ?_
  refine AllReadyH.cons rfl (fun K hK => ?_) AllReadyH.nil
  rw [if_pos (by rfl)]
  go_simp
  refine (HM.out y1).mono ?_
  rintro e' y2 ⟨rfl, hb2⟩
  replace hR := hR.next hb2
  replace hBr := hBr.trans (hb2.mono hBr.size)
  refine hK.out _ _ (HSX.out _ hBr hR) (fun hHeld => ?_)
  clear hK K
  try simp only [D.pts]
  refine wpAnyH_done (by kernel_rfl) ?_ _
  have HRY := hid hR
  have HBY := hid hBr
  clear hHeld hR hBr hb1 hb2 HM HNR HSX
  have hc := next_no W0 pm g e y2 r q HRY.out hr
  go_wp2_with fail
  refine hc.mono ?_
  rintro e' w9 ⟨rfl, h9⟩
  exact ⟨rfl, roc_er rfl (HRY.out.err h9)⟩
theorem bank_pair (W0 : World) (pm : Px) (g : Nat) (e : Ps) (W : World) (r : Rd) (q : Rv) (h : RC W0 pm g e W r q) (t : Tk) (hv0 : 0 <= t.v /\ t.v <= 65535) (hbl : r.banks.length <= 1000000) (hn : t.v < 16) (htw : hasN r.banks t.v = false) (t3 : Tk) (ts : List Tk) (hr : r.rest = t3 :: ts) (hbc : isW t3.t [123] = false) :
    Calls Tryz.prog 106 #[.pointer (some ⟨g, 0, none⟩), .agg (tkc t).toArray] W (ROc W0 pm g e (fun _ => .tuple #[]) (.error (t3.p, 104))) := by
  obtain ⟨px, cx, hxv, hbr⟩ := h.banksRow
  obtain ⟨W1, hW1⟩ : ∃ W1, W.alloc (.cells #[.int .i64 t.k, .string t.t, .int .u16 t.v, .int .i64 t.p.1, .int .i64 t.p.2] 53) = W1 := ⟨_, rfl⟩
  have hB1 : Below W.heap.size W W1 := by rw [<- hW1]; exact (Below.refl _ _).alloc (Nat.le_refl _) _
  have v1 : W1.heap[W.heap.size]? = some (.cells (tkc t).toArray 53 (0, 0)) := by rw [<- hW1]; exact heap_alloc_new W _
  obtain ⟨W2, hW2⟩ : ∃ W2, W1.alloc (.cells #[.int .i64 t.v] 3) = W2 := ⟨_, rfl⟩
  have hB2 : Below W1.heap.size W1 W2 := by rw [<- hW2]; exact (Below.refl _ _).alloc (Nat.le_refl _) _
  have v2 : W2.heap[W1.heap.size]? = some (.cells [.int .i64 t.v].toArray 3 (0, 0)) := by rw [<- hW2]; exact heap_alloc_new W1 _
  have v12 : W2.heap[W.heap.size]? = some (.cells (tkc t).toArray 53 (0, 0)) := (hB2.block _ (Array.getElem?_eq_some_iff.1 v1).1).trans v1
  have hR2 := (h.next hB1).next hB2
  have HV := hid (fun (w : World) (hb : Below W2.heap.size W2 w) => show (w.heap[W1.heap.size]? = some (.cells [.int .i64 t.v].toArray 3 (0, 0)) /\ w.heap[W.heap.size]? = some (.cells (tkc t).toArray 53 (0, 0))) from ⟨(hb.block _ (Array.getElem?_eq_some_iff.1 v2).1).trans v2, (hb.block _ (Array.getElem?_eq_some_iff.1 v12).1).trans v12⟩)
  have HSX := hid (fun (w : World) (hb : Below W2.heap.size W2 w) (hR : RC W0 pm g e w r q) => show (w.cell? ⟨g, 4, none⟩ = some (.slice px r.banks.length cx) /\ w.cell? ⟨W1.heap.size, 0, none⟩ = some (.int .i64 t.v) /\ w.cell? ⟨W.heap.size, 0, none⟩ = some (.int .i64 t.k) /\ w.cell? ⟨W.heap.size, 1, none⟩ = some (.string t.t) /\ w.cell? ⟨W.heap.size, 2, none⟩ = some (.int .u16 t.v) /\ w.cell? ⟨W.heap.size, 3, none⟩ = some (.int .i64 t.p.1) /\ w.cell? ⟨W.heap.size, 4, none⟩ = some (.int .i64 t.p.2)) from ⟨by rw [<- hxv]; exact (rd_cells hR.blk).2.2.2.2.1, S.cell_of w _ 0 _ 3 _ (HV.out w hb).1 rfl, S.cell_of w _ 0 _ 53 _ (HV.out w hb).2 rfl, S.cell_of w _ 1 _ 53 _ (HV.out w hb).2 rfl, S.cell_of w _ 2 _ 53 _ (HV.out w hb).2 rfl, S.cell_of w _ 3 _ 53 _ (HV.out w hb).2 rfl, S.cell_of w _ 4 _ 53 _ (HV.out w hb).2 rfl⟩)
  have hBr2 : Below W2.heap.size W2 W2 := Below.refl _ _
  obtain ⟨_, y0, x0, x1, x2, x3, x4⟩ := HSX.out W2 hBr2 hR2
  have y1 : W1.cell? ⟨W.heap.size, 2, none⟩ = some (.int .u16 t.v) := S.cell_of W1 _ 2 _ 53 _ v1 rfl
  have hls : W.heap.size < W2.heap.size := (Array.getElem?_eq_some_iff.1 v12).1
  have HLS := hid hls
  have HGL := hid (show g < W.heap.size from h.lt)
  have HL1 := hid (show W.heap.size < W1.heap.size from (Array.getElem?_eq_some_iff.1 v1).1)
  have HXL := hid (show ∀ x ∈ pm.x, x.1 < W.heap.size from fun x hx => (Array.getElem?_eq_some_iff.1 (h.ex x hx).2).1)
  have HNR := hid (fun (w : World) (hb : Below W2.heap.size W2 w) => containsNum r.banks t.v W1.heap.size px cx w hbl (fun k d hk => by
    obtain ⟨b, q1, a1, d1, e1, e2, e3, e4⟩ := hbr k d hk
    have hw : Below W.heap.size W w := hB1.trans ((hB2.trans (hb.mono hB2.size)).mono hB1.size)
    exact ⟨b, q1, a1, d1, e1, Nat.lt_of_lt_of_le e2 hw.size, (hw.cell e2).trans e3, (hw.cell e2).trans e4⟩) (S.cell_of w _ 0 _ 3 _ (HV.out w hb).1 rfl))
  have w0 : IntKind.i64.wrap t.v = t.v := by rw [IntKind.wrap_i64]; omega
  have HR2 := hid hR2
  clear h hB1 v1 hB2 v2 v12 hR2 hbr hxv hls hBr2
  unfold tkc
  go_enter Tryz.func106, Tryz.ntmps106
  have hm := must_true t 106 W2
  unfold tkc at hm
  go_wp2_with fail
  refine hm.mono ?_
  rintro e' w3 ⟨rfl, h3⟩
  have HB3 := hid h3
  have HM := hid (fun w => must_true t 102 w)
  unfold tkc at HM
  rw [htw] at HNR
  clear h3 hm x0 x1 x2 x3 x4 y0 y1 hn htw
  go_upto_region 3 with fail
  have hBr : Below W2.heap.size W2 w3.drew := HB3.out.trans ⟨rfl, rfl, rfl, Nat.le_refl _, fun _ _ => rfl⟩
  have hR := HR2.out.next hBr
  refine wp_region_held_drew (S := fun wz : World => wz.cell? ⟨g, 4, none⟩ = some (.slice px r.banks.length cx) /\ wz.cell? ⟨W1.heap.size, 0, none⟩ = some (.int .i64 t.v) /\ wz.cell? ⟨W.heap.size, 0, none⟩ = some (.int .i64 t.k) /\ wz.cell? ⟨W.heap.size, 1, none⟩ = some (.string t.t) /\ wz.cell? ⟨W.heap.size, 2, none⟩ = some (.int .u16 t.v) /\ wz.cell? ⟨W.heap.size, 3, none⟩ = some (.int .i64 t.p.1) /\ wz.cell? ⟨W.heap.size, 4, none⟩ = some (.int .i64 t.p.2)) (by kernel_rfl) (HSX.out _ hBr hR) (fun hHeld => ?_)
  clear HB3 HR2
  generalize w3.drew = y0 at *
  refine D.zH (is := [0, 1, 2, 3, 4, 5, 8]) ?_
  iterate 7
   refine D.yH (v := ?_) rfl (by kernel_rfl) (fun c a w h => h) (by rfl) ?_ hHeld ?_
   rotate_left
   · (intro w hSw; (try dsimp only at hSw); go_simp; try with_reducible rfl)
   simp only [D.pts]
  refine D.eH ?_
  refine wpAnyH_ready (rs := [6]) (by kernel_rfl) (by simp) ?_
  refine AllReadyH.cons rfl (fun K hK => ?_) AllReadyH.nil
  rw [if_pos (by rfl)]
  go_simp
  refine (HNR.out y0 hBr).mono ?_
  rintro e' y1 ⟨rfl, hb1⟩
  replace hR := hR.next hb1
  replace hBr := hBr.trans (hb1.mono hBr.size)
  refine hK.out _ _ (HSX.out _ hBr hR) (fun hHeld => ?_)
  clear hK K
  try simp only [D.pts]
  refine D.xH 7 (v := ?_) rfl (by kernel_rfl) (fun c a w h => h) (by rfl) ?_ hHeld ?_
  rotate_left
  · (intro w hSw; (try dsimp only at hSw); go_simp; try with_reducible rfl)
  simp only [D.pts]
  refine wpAnyH_ready (rs := [9]) (by kernel_rfl) (by simp) ?_
  refine AllReadyH.cons rfl (fun K hK => ?_) AllReadyH.nil
  rw [if_pos (by rfl)]
  go_simp
  refine (HM.out y1).mono ?_
  rintro e' y2 ⟨rfl, hb2⟩
  replace hR := hR.next hb2
  replace hBr := hBr.trans (hb2.mono hBr.size)
  refine hK.out _ _ (HSX.out _ hBr hR) (fun hHeld => ?_)
  clear hK K
  try simp only [D.pts]
  refine wpAnyH_done (by kernel_rfl) ?_ _
  have HRY := hid hR
  have HBY := hid hBr
  clear hHeld hR hBr hb1 hb2 HM HNR HSX
  have hc := next_c W0 pm g e y2 r q HRY.out t3 ts hr
  unfold tkc at hc
  go_wp2_with fail
  refine hc.mono ?_
  rintro e' w4 ⟨rfl, ⟨rv4, hR4⟩, hk4⟩
  clear hc
  obtain ⟨q4, hq4⟩ : ∃ q4, { q with rv := rv4 } = q4 := ⟨_, rfl⟩
  rw [hq4] at hR4
  have Hq4 := hid (show q4.zs = q.zs from by rw [<- hq4])
  clear hq4
  have hn4 : w4.heap[W1.heap.size]? = some (.cells [.int .i64 t.v].toArray 3 (0, 0)) := by
    have k1 := (HV.out y2 HBY.out).1
    rw [hk4 _ (Array.getElem?_eq_some_iff.1 k1).1 (ty_ne k1 HRY.out.blk (by decide))]
    exact k1
  have hs4 : W.heap.size < w4.heap.size := by
    have k2 := (HV.out y2 HBY.out).2
    have k3 := hk4 _ (Array.getElem?_eq_some_iff.1 k2).1 (ty_ne k2 HRY.out.blk (by decide))
    rw [k2] at k3
    exact (Array.getElem?_eq_some_iff.1 k3).1
  obtain ⟨W5, hW5⟩ : ∃ W5, w4.alloc (.cells #[.int .i64 t3.k, .string t3.t, .int .u16 t3.v, .int .i64 t3.p.1, .int .i64 t3.p.2] 53) = W5 := ⟨_, rfl⟩
  have hB5 : Below w4.heap.size w4 W5 := by rw [<- hW5]; exact (Below.refl _ _).alloc (Nat.le_refl _) _
  have v5 : W5.heap[w4.heap.size]? = some (.cells (tkc t3).toArray 53 (0, 0)) := by rw [<- hW5]; exact heap_alloc_new w4 _
  obtain ⟨x0, x1, x2, x3, x4⟩ : W5.cell? ⟨w4.heap.size, 0, none⟩ = some (.int .i64 t3.k) /\ W5.cell? ⟨w4.heap.size, 1, none⟩ = some (.string t3.t) /\ W5.cell? ⟨w4.heap.size, 2, none⟩ = some (.int .u16 t3.v) /\ W5.cell? ⟨w4.heap.size, 3, none⟩ = some (.int .i64 t3.p.1) /\ W5.cell? ⟨w4.heap.size, 4, none⟩ = some (.int .i64 t3.p.2) := ⟨S.cell_of W5 _ 0 _ 53 _ v5 rfl, S.cell_of W5 _ 1 _ 53 _ v5 rfl, S.cell_of W5 _ 2 _ 53 _ v5 rfl, S.cell_of W5 _ 3 _ 53 _ v5 rfl, S.cell_of W5 _ 4 _ 53 _ v5 rfl⟩
  have HR5 := hid (hR4.next hB5)
  have HN5 := hid ((hB5.block _ (Array.getElem?_eq_some_iff.1 hn4).1).trans hn4)
  have HS5 := hid (show W.heap.size < W5.heap.size from Nat.lt_of_lt_of_le hs4 hB5.size)
  clear hR4 hk4 hn4 hs4 hB5 v5 HRY HBY HV
  have hbr := isW_no hbc
  have hm := must_false t3 104 W5
  unfold tkc at hm
  clear hbc
  go_wp2_with fail
  refine hm.mono ?_
  rintro e' w6 ⟨rfl, hb6⟩
  exact ⟨rfl, roc_er rfl (HR5.out.err hb6)⟩
theorem bank_data (W0 : World) (pm : Px) (g : Nat) (e : Ps) (W : World) (r : Rd) (q : Rv) (h : RC W0 pm g e W r q) (t : Tk) (hv0 : 0 <= t.v /\ t.v <= 65535) (hbl : r.banks.length <= 1000000) (hn : t.v < 16) (htw : hasN r.banks t.v = false) (t3 : Tk) (ts : List Tk) (hr : r.rest = t3 :: ts) (hbc : isW t3.t [123] = true) (hvs : ∀ x ∈ ts, 0 <= x.v /\ x.v <= 65535) (RES : Except Er (List UInt8 × Rd)) (hRES : dataN e (ts.length + 1) [] { r with at_ := t3, rest := ts } = RES) :
    Calls Tryz.prog 106 #[.pointer (some ⟨g, 0, none⟩), .agg (tkc t).toArray] W (ROc W0 pm g e (fun _ => .tuple #[]) (bres t.v RES)) := by
  obtain ⟨px, cx, hxv, hbr⟩ := h.banksRow
  obtain ⟨W1, hW1⟩ : ∃ W1, W.alloc (.cells #[.int .i64 t.k, .string t.t, .int .u16 t.v, .int .i64 t.p.1, .int .i64 t.p.2] 53) = W1 := ⟨_, rfl⟩
  have hB1 : Below W.heap.size W W1 := by rw [<- hW1]; exact (Below.refl _ _).alloc (Nat.le_refl _) _
  have v1 : W1.heap[W.heap.size]? = some (.cells (tkc t).toArray 53 (0, 0)) := by rw [<- hW1]; exact heap_alloc_new W _
  obtain ⟨W2, hW2⟩ : ∃ W2, W1.alloc (.cells #[.int .i64 t.v] 3) = W2 := ⟨_, rfl⟩
  have hB2 : Below W1.heap.size W1 W2 := by rw [<- hW2]; exact (Below.refl _ _).alloc (Nat.le_refl _) _
  have v2 : W2.heap[W1.heap.size]? = some (.cells [.int .i64 t.v].toArray 3 (0, 0)) := by rw [<- hW2]; exact heap_alloc_new W1 _
  have v12 : W2.heap[W.heap.size]? = some (.cells (tkc t).toArray 53 (0, 0)) := (hB2.block _ (Array.getElem?_eq_some_iff.1 v1).1).trans v1
  have hR2 := (h.next hB1).next hB2
  have HV := hid (fun (w : World) (hb : Below W2.heap.size W2 w) => show (w.heap[W1.heap.size]? = some (.cells [.int .i64 t.v].toArray 3 (0, 0)) /\ w.heap[W.heap.size]? = some (.cells (tkc t).toArray 53 (0, 0))) from ⟨(hb.block _ (Array.getElem?_eq_some_iff.1 v2).1).trans v2, (hb.block _ (Array.getElem?_eq_some_iff.1 v12).1).trans v12⟩)
  have HSX := hid (fun (w : World) (hb : Below W2.heap.size W2 w) (hR : RC W0 pm g e w r q) => show (w.cell? ⟨g, 4, none⟩ = some (.slice px r.banks.length cx) /\ w.cell? ⟨W1.heap.size, 0, none⟩ = some (.int .i64 t.v) /\ w.cell? ⟨W.heap.size, 0, none⟩ = some (.int .i64 t.k) /\ w.cell? ⟨W.heap.size, 1, none⟩ = some (.string t.t) /\ w.cell? ⟨W.heap.size, 2, none⟩ = some (.int .u16 t.v) /\ w.cell? ⟨W.heap.size, 3, none⟩ = some (.int .i64 t.p.1) /\ w.cell? ⟨W.heap.size, 4, none⟩ = some (.int .i64 t.p.2)) from ⟨by rw [<- hxv]; exact (rd_cells hR.blk).2.2.2.2.1, S.cell_of w _ 0 _ 3 _ (HV.out w hb).1 rfl, S.cell_of w _ 0 _ 53 _ (HV.out w hb).2 rfl, S.cell_of w _ 1 _ 53 _ (HV.out w hb).2 rfl, S.cell_of w _ 2 _ 53 _ (HV.out w hb).2 rfl, S.cell_of w _ 3 _ 53 _ (HV.out w hb).2 rfl, S.cell_of w _ 4 _ 53 _ (HV.out w hb).2 rfl⟩)
  have hBr2 : Below W2.heap.size W2 W2 := Below.refl _ _
  obtain ⟨_, y0, x0, x1, x2, x3, x4⟩ := HSX.out W2 hBr2 hR2
  have y1 : W1.cell? ⟨W.heap.size, 2, none⟩ = some (.int .u16 t.v) := S.cell_of W1 _ 2 _ 53 _ v1 rfl
  have hls : W.heap.size < W2.heap.size := (Array.getElem?_eq_some_iff.1 v12).1
  have HLS := hid hls
  have HGL := hid (show g < W.heap.size from h.lt)
  have HL1 := hid (show W.heap.size < W1.heap.size from (Array.getElem?_eq_some_iff.1 v1).1)
  have HXL := hid (show ∀ x ∈ pm.x, x.1 < W.heap.size from fun x hx => (Array.getElem?_eq_some_iff.1 (h.ex x hx).2).1)
  have HNR := hid (fun (w : World) (hb : Below W2.heap.size W2 w) => containsNum r.banks t.v W1.heap.size px cx w hbl (fun k d hk => by
    obtain ⟨b, q1, a1, d1, e1, e2, e3, e4⟩ := hbr k d hk
    have hw : Below W.heap.size W w := hB1.trans ((hB2.trans (hb.mono hB2.size)).mono hB1.size)
    exact ⟨b, q1, a1, d1, e1, Nat.lt_of_lt_of_le e2 hw.size, (hw.cell e2).trans e3, (hw.cell e2).trans e4⟩) (S.cell_of w _ 0 _ 3 _ (HV.out w hb).1 rfl))
  have w0 : IntKind.i64.wrap t.v = t.v := by rw [IntKind.wrap_i64]; omega
  have HR2 := hid hR2
  clear h hB1 v1 hB2 v2 v12 hR2 hbr hxv hls hBr2
  unfold tkc
  go_enter Tryz.func106, Tryz.ntmps106
  have hm := must_true t 106 W2
  unfold tkc at hm
  go_wp2_with fail
  refine hm.mono ?_
  rintro e' w3 ⟨rfl, h3⟩
  have HB3 := hid h3
  have HM := hid (fun w => must_true t 102 w)
  unfold tkc at HM
  rw [htw] at HNR
  clear h3 hm x0 x1 x2 x3 x4 y0 y1 hn htw
  go_upto_region 3 with fail
  have hBr : Below W2.heap.size W2 w3.drew := HB3.out.trans ⟨rfl, rfl, rfl, Nat.le_refl _, fun _ _ => rfl⟩
  have hR := HR2.out.next hBr
  refine wp_region_held_drew (S := fun wz : World => wz.cell? ⟨g, 4, none⟩ = some (.slice px r.banks.length cx) /\ wz.cell? ⟨W1.heap.size, 0, none⟩ = some (.int .i64 t.v) /\ wz.cell? ⟨W.heap.size, 0, none⟩ = some (.int .i64 t.k) /\ wz.cell? ⟨W.heap.size, 1, none⟩ = some (.string t.t) /\ wz.cell? ⟨W.heap.size, 2, none⟩ = some (.int .u16 t.v) /\ wz.cell? ⟨W.heap.size, 3, none⟩ = some (.int .i64 t.p.1) /\ wz.cell? ⟨W.heap.size, 4, none⟩ = some (.int .i64 t.p.2)) (by kernel_rfl) (HSX.out _ hBr hR) (fun hHeld => ?_)
  clear HB3 HR2
  generalize w3.drew = y0 at *
  refine D.zH (is := [0, 1, 2, 3, 4, 5, 8]) ?_
  iterate 7
   refine D.yH (v := ?_) rfl (by kernel_rfl) (fun c a w h => h) (by rfl) ?_ hHeld ?_
   rotate_left
   · (intro w hSw; (try dsimp only at hSw); go_simp; try with_reducible rfl)
   simp only [D.pts]
  refine D.eH ?_
  refine wpAnyH_ready (rs := [6]) (by kernel_rfl) (by simp) ?_
  refine AllReadyH.cons rfl (fun K hK => ?_) AllReadyH.nil
  rw [if_pos (by rfl)]
  go_simp
  refine (HNR.out y0 hBr).mono ?_
  rintro e' y1 ⟨rfl, hb1⟩
  replace hR := hR.next hb1
  replace hBr := hBr.trans (hb1.mono hBr.size)
  refine hK.out _ _ (HSX.out _ hBr hR) (fun hHeld => ?_)
  clear hK K
  try simp only [D.pts]
  refine D.xH 7 (v := ?_) rfl (by kernel_rfl) (fun c a w h => h) (by rfl) ?_ hHeld ?_
  rotate_left
  · (intro w hSw; (try dsimp only at hSw); go_simp; try with_reducible rfl)
  simp only [D.pts]
  refine wpAnyH_ready (rs := [9]) (by kernel_rfl) (by simp) ?_
  refine AllReadyH.cons rfl (fun K hK => ?_) AllReadyH.nil
  rw [if_pos (by rfl)]
  go_simp
  refine (HM.out y1).mono ?_
  rintro e' y2 ⟨rfl, hb2⟩
  replace hR := hR.next hb2
  replace hBr := hBr.trans (hb2.mono hBr.size)
  refine hK.out _ _ (HSX.out _ hBr hR) (fun hHeld => ?_)
  clear hK K
  try simp only [D.pts]
  refine wpAnyH_done (by kernel_rfl) ?_ _
  have HRY := hid hR
  have HBY := hid hBr
  clear hHeld hR hBr hb1 hb2 HM HNR HSX
  have hc := next_c W0 pm g e y2 r q HRY.out t3 ts hr
  unfold tkc at hc
  go_wp2_with fail
  refine hc.mono ?_
  rintro e' w4 ⟨rfl, ⟨rv4, hR4⟩, hk4⟩
  clear hc
  obtain ⟨q4, hq4⟩ : ∃ q4, { q with rv := rv4 } = q4 := ⟨_, rfl⟩
  rw [hq4] at hR4
  have Hq4 := hid (show q4.zs = q.zs from by rw [<- hq4])
  clear hq4
  have hn4 : w4.heap[W1.heap.size]? = some (.cells [.int .i64 t.v].toArray 3 (0, 0)) := by
    have k1 := (HV.out y2 HBY.out).1
    rw [hk4 _ (Array.getElem?_eq_some_iff.1 k1).1 (ty_ne k1 HRY.out.blk (by decide))]
    exact k1
  have hs4 : W.heap.size < w4.heap.size := by
    have k2 := (HV.out y2 HBY.out).2
    have k3 := hk4 _ (Array.getElem?_eq_some_iff.1 k2).1 (ty_ne k2 HRY.out.blk (by decide))
    rw [k2] at k3
    exact (Array.getElem?_eq_some_iff.1 k3).1
  obtain ⟨W5, hW5⟩ : ∃ W5, w4.alloc (.cells #[.int .i64 t3.k, .string t3.t, .int .u16 t3.v, .int .i64 t3.p.1, .int .i64 t3.p.2] 53) = W5 := ⟨_, rfl⟩
  have hB5 : Below w4.heap.size w4 W5 := by rw [<- hW5]; exact (Below.refl _ _).alloc (Nat.le_refl _) _
  have v5 : W5.heap[w4.heap.size]? = some (.cells (tkc t3).toArray 53 (0, 0)) := by rw [<- hW5]; exact heap_alloc_new w4 _
  obtain ⟨x0, x1, x2, x3, x4⟩ : W5.cell? ⟨w4.heap.size, 0, none⟩ = some (.int .i64 t3.k) /\ W5.cell? ⟨w4.heap.size, 1, none⟩ = some (.string t3.t) /\ W5.cell? ⟨w4.heap.size, 2, none⟩ = some (.int .u16 t3.v) /\ W5.cell? ⟨w4.heap.size, 3, none⟩ = some (.int .i64 t3.p.1) /\ W5.cell? ⟨w4.heap.size, 4, none⟩ = some (.int .i64 t3.p.2) := ⟨S.cell_of W5 _ 0 _ 53 _ v5 rfl, S.cell_of W5 _ 1 _ 53 _ v5 rfl, S.cell_of W5 _ 2 _ 53 _ v5 rfl, S.cell_of W5 _ 3 _ 53 _ v5 rfl, S.cell_of W5 _ 4 _ 53 _ v5 rfl⟩
  have HR5 := hid (hR4.next hB5)
  have HN5 := hid ((hB5.block _ (Array.getElem?_eq_some_iff.1 hn4).1).trans hn4)
  have HS5 := hid (show W.heap.size < W5.heap.size from Nat.lt_of_lt_of_le hs4 hB5.size)
  clear hR4 hk4 hn4 hs4 hB5 v5 HRY HBY HV
  have hbr := isW_yes hbc
  have hm := must_true t3 104 W5
  unfold tkc at hm
  clear hbc
  go_wp2_with fail
  refine hm.mono ?_
  rintro e' w6 ⟨rfl, hb6⟩
  have hR6 := HR5.out.next hb6
  have HR6 := hid hR6
  have HN6 := hid ((hb6.block _ (Array.getElem?_eq_some_iff.1 HN5.out).1).trans HN5.out)
  have HS6 := hid (Nat.lt_of_lt_of_le HS5.out hb6.size)
  clear hm hb6 HR5 HN5 HS5 x0 x1 x2 x3 x4 hbr hR6 hr
  cases hts : ts with
  | nil =>
    have hc := next_no W0 pm g e w6 _ q4 HR6.out hts
    have HE := hid (show RES = .error (e, 105) from hRES.symm.trans (dataN_er e _ [] _ _ (by unfold next; rw [hts])))
    clear hRES hts hvs
    go_wp2_with fail
    refine hc.mono ?_
    rintro e' w9 ⟨rfl, h9⟩
    exact ⟨rfl, by rw [HE.out]; exact roc_er (er := (e, 105)) rfl (HR6.out.err h9)⟩
  | cons t4 ts4 =>
    have hc := next_c W0 pm g e w6 _ q4 HR6.out t4 ts4 hts
    have HT := hid (show tl e ts.length [] { r with at_ := t4, rest := ts4 } = RES from (dataN_tl e _ [] _ _ (by unfold next; rw [hts])).symm.trans hRES)
    have HVS := hid (show ∀ x ∈ t4 :: ts4, 0 <= x.v /\ x.v <= 65535 from fun x hx => hvs x (by rw [hts]; exact hx))
    have HTL := hid (show ts4.length + 1 = ts.length from by rw [hts]; rfl)
    clear hRES hts hvs
    unfold tkc at hc
    go_wp2_with fail
    refine hc.mono ?_
    rintro e' w7 ⟨rfl, ⟨rv7, hR7⟩, hk7⟩
    clear hc
    obtain ⟨q7, hq7⟩ : ∃ q7, { q4 with rv := rv7 } = q7 := ⟨_, rfl⟩
    rw [hq7] at hR7
    clear hq7
    have hn7 : w7.heap[W1.heap.size]? = some (.cells [.int .i64 t.v].toArray 3 (0, 0)) := (hk7 _ (Array.getElem?_eq_some_iff.1 HN6.out).1 (ty_ne HN6.out HR6.out.blk (by decide))).trans HN6.out
    have hs7 : W1.heap.size < w7.heap.size := (Array.getElem?_eq_some_iff.1 hn7).1
    obtain ⟨W8, hW8⟩ : ∃ W8, w7.alloc (.cells #[.int .i64 t4.k, .string t4.t, .int .u16 t4.v, .int .i64 t4.p.1, .int .i64 t4.p.2] 53) = W8 := ⟨_, rfl⟩
    have hB8 : Below w7.heap.size w7 W8 := by rw [<- hW8]; exact (Below.refl _ _).alloc (Nat.le_refl _) _
    have v8 : W8.heap[w7.heap.size]? = some (.cells (tkc t4).toArray 53 (0, 0)) := by rw [<- hW8]; exact heap_alloc_new w7 _
    have HR8 := hid (hR7.next hB8)
    have HV8 := hid (And.intro v8 ((hB8.block _ (Array.getElem?_eq_some_iff.1 hn7).1).trans hn7))
    have HW := hid (show W.heap.size <= w7.heap.size from by
      have := HL1.out
      omega)
    clear hR7 hk7 hn7 hs7 hB8 v8 HR6 HN6 HS6
    go_wp2_with fail
    try rw [hW8]
    clear hW8
    go_loopw [6, 7] (fun v6 v7 wr => BL W0 pm g e W1.heap.size t.v W.heap.size 0 r.banks RES v6 v7 wr) (fun _ _ wr => restC g wr)
    case atStart =>
      exact ⟨_, q7, ts.length, [], w7.heap.size, HR8.out, rfl, HW.out, HV8.out.1, HV8.out.2, World.ownsRow_nil _ _ _ _, fun i w b hw hb => by simp [Value.ownBlock] at hb, by simp, HT.out, by show ts4.length + 1 <= _; rw [HTL.out]; exact Nat.le_refl _, HVS.out, rfl⟩
    case round =>
      obtain ⟨r5, q5, n5, d5, b5, hR, rfl, hlo, hbx, hnb, hrow, hap, hdl, htl, hfu, hvv, hbk⟩ := hrel
      obtain ⟨pd, cd, rfl⟩ := row_val hrow
      obtain ⟨x0, x1, x2, x3, x4⟩ : wr.cell? ⟨b5, 0, none⟩ = some (.int .i64 r5.at_.k) /\ wr.cell? ⟨b5, 1, none⟩ = some (.string r5.at_.t) /\ wr.cell? ⟨b5, 2, none⟩ = some (.int .u16 r5.at_.v) /\ wr.cell? ⟨b5, 3, none⟩ = some (.int .i64 r5.at_.p.1) /\ wr.cell? ⟨b5, 4, none⟩ = some (.int .i64 r5.at_.p.2) := ⟨S.cell_of wr _ 0 _ 53 _ hbx rfl, S.cell_of wr _ 1 _ 53 _ hbx rfl, S.cell_of wr _ 2 _ 53 _ hbx rfl, S.cell_of wr _ 3 _ 53 _ hbx rfl, S.cell_of wr _ 4 _ 53 _ hbx rfl⟩
      have HI := hid (And.intro hR (And.intro hlo (And.intro hbx (And.intro hnb (And.intro hrow (And.intro hap (And.intro hdl (And.intro htl (And.intro hfu (And.intro hvv hbk))))))))))
      have HRR := hid (show restC g wr = r5.rest.length from hR.restC)
      have hv5 : 0 <= r5.at_.v /\ r5.at_.v <= 65535 := hvv r5.at_ (List.mem_cons_self ..)
      clear hR hlo hbx hnb hrow hap htl hfu hvv hbk
      cases hend : isW r5.at_.t [125] with
      | true =>
        have hw1 := isW_yes hend
        have hw2 : (r5.at_.t.toList != [125]) = false := by simp [bne, hw1]
        have HE := hid (show RES = .ok (d5, r5) from HI.out.2.2.2.2.2.2.2.1.symm.trans (tl_end e n5 d5 r5 hend))
        clear hend
        go_upto_region 14 with fail
        clear hw1 hw2 x0 x1 x2 x3 x4
        obtain ⟨hR, hlo, hbx, hnb, hrow, hap, hdl, htl, hfu, hvv, hbk⟩ := HI.out
        obtain ⟨px5, cx5, hxv5, _⟩ := hR.banksRow
        have hBd : Below wr.heap.size wr wr.drew := ⟨rfl, rfl, rfl, Nat.le_refl _, fun _ _ => rfl⟩
        replace hR := hR.next hBd
        replace hnb : wr.drew.heap[W1.heap.size]? = some (.cells [.int .i64 t.v].toArray 3 (0, 0)) := hnb
        replace hrow : wr.drew.ownsRow (g + 1) 5 1 (.slice pd d5.length cd) d5.length (vu d5) := S.own_kept hrow (fun _ _ _ => rfl)
        have hb6 : r5.banks.length <= 1000000 := by rw [hbk]; exact hbl
        have HSY := hid (fun (w : World) (k1 : w.heap[g]? = some (.cells (rdc e r5 q5).toArray RD (0, 0))) (k2 : w.heap[W1.heap.size]? = some (.cells [.int .i64 t.v].toArray 3 (0, 0))) => show (w.cell? ⟨g, 4, none⟩ = some (.slice px5 r5.banks.length cx5) /\ w.cell? ⟨W1.heap.size, 0, none⟩ = some (.int .i64 t.v)) from ⟨by rw [<- hxv5]; exact (rd_cells k1).2.2.2.2.1, S.cell_of w _ 0 _ 3 _ k2 rfl⟩)
        refine wp_region_drop [14] (S := fun wz : World => wz.cell? ⟨g, 4, none⟩ = some (.slice px5 r5.banks.length cx5) /\ wz.cell? ⟨W1.heap.size, 0, none⟩ = some (.int .i64 t.v)) (by kernel_rfl) (HSY.out _ hR.blk hnb) (fun hHeld => ?_)
        have HR := hid (And.intro hR (And.intro hnb (And.intro hrow (And.intro hxv5 hb6))))
        clear hlo hbx hap hdl htl hfu hvv hbk hBd hR hnb hrow hxv5 hb6 HI
        generalize wr.drew = y2 at *
        refine D.zP (is := [0, 1, 2, 3, 4, 7]) ?_
        iterate 6
         refine D.yP (v := ?_) rfl (by kernel_rfl) (fun c a w h => h) (by rfl) ?_ (fun _ => hHeld) ?_
         rotate_left
         · (intro w hSw; clear hSw; go_simp; try with_reducible rfl)
         simp only [D.pts]
        refine D.eP ?_
        refine D.zT (is := [5, 6]) ?_
        iterate 2
         refine D.yT (v := ?_) rfl (by kernel_rfl) (fun c a w h => h) (by rfl) ?_ hHeld ?_
         rotate_left
         · (intro w hSw; (try dsimp only at hSw); go_simp; try with_reducible rfl)
         simp only [D.pts]
        refine D.eT ?_
        refine D.xP 8 (v := ?_) rfl (by kernel_rfl) (fun c a w h => h) (by rfl) ?_ (fun _ => hHeld) ?_
        rotate_left
        · (intro w hSw; clear hSw; go_simp; try with_reducible rfl)
        simp only [D.pts]
        obtain ⟨hR, hnb, hrow, hxv5, hb6⟩ := HR.out
        obtain ⟨y3, hy3⟩ : ∃ y3, y2.alloc (.cells #[.int .i64 t.v, .slice pd d5.length cd] BK) = y3 := ⟨_, rfl⟩
        have hB23 : Below y2.heap.size y2 y3 := by rw [<- hy3]; exact (Below.refl _ _).alloc (Nat.le_refl _) _
        have hnw : y3.heap[y2.heap.size]? = some (.cells [.int .i64 t.v, .slice pd d5.length cd].toArray BK (0, 0)) := by rw [<- hy3]; exact heap_alloc_new y2 _
        have hcs : S.Cs y3 (.slice (some ⟨y2.heap.size, 0, none⟩) 1 1) 2 1 [.int .i64 t.v, .slice pd d5.length cd] := .inr ⟨⟨y2.heap.size, 0, none⟩, 1, rfl, rfl, fun j x hj => by
            rw [Addr.add_lit, Nat.zero_add]
            exact S.cell_of y3 _ j _ BK x hnw hj, fun x hx => by
            simp only [List.mem_cons, List.not_mem_nil, or_false] at hx
            rcases hx with rfl | rfl <;> rfl⟩
        have hR3 := hR.next hB23
        have k2 : y3.heap[W1.heap.size]? = some (.cells [.int .i64 t.v].toArray 3 (0, 0)) := (hB23.block _ (Array.getElem?_eq_some_iff.1 hnb).1).trans hnb
        refine wpD_ready (rs := [9]) (by kernel_rfl) (by simp) ?_
        refine AllD.cons rfl (fun K hK => ?_) AllD.nil
        go_simp
        try rw [hy3]
        refine hK.out _ _ (HSY.out _ hR3.blk k2) (fun hHeld => ?_)
        clear hK K
        try simp only [D.pts]
        have hbrow := hR3.brow
        rw [hxv5] at hbrow
        refine wpD_ready (rs := [10]) (by kernel_rfl) (by simp) ?_
        refine AllD.cons rfl (fun K hK => ?_) AllD.nil
        rw [if_pos (by rfl)]
        refine S.wp_append_row _ _ _ 24 BK (.agg #[.int .i64 0, .slice none 0 0]) 2 32 Tryz.underlying24 infoB rfl (by decide) rfl (g + 1) _ r5.banks.length (bcs r5.banks q5.zs) rfl hbrow _ 1 [.int .i64 t.v, .slice pd d5.length cd] rfl hcs (by unfold S.room; omega) (by unfold maxLen; omega) (by have := hR3.lt; omega) (fun v2 y4 r2 g2 => ?_)
        have gk : ∀ b, b < y3.heap.size -> (∀ c, y3.heap[b]? ≠ some (.cells c BK (0, 0))) -> y4.heap[b]? = y3.heap[b]? := fun b hb hn => g2.block b hb fun eb => by
          obtain ⟨c', hc'⟩ := own_tyD (n := 0) hbrow b eb.symm
          exact hn c' hc'
        have m1 : y4.heap[g]? = some (.cells (rdc e r5 q5).toArray RD (0, 0)) := (gk g hR3.lt (fun c hc => ty_ne hR3.blk hc (by decide) rfl)).trans hR3.blk
        have m2 : y4.heap[W1.heap.size]? = some (.cells [.int .i64 t.v].toArray 3 (0, 0)) := (gk _ (Array.getElem?_eq_some_iff.1 k2).1 (fun c hc => ty_ne k2 hc (by decide) rfl)).trans k2
        refine hK.out _ _ (HSY.out _ m1 m2) (fun hHeld => ?_)
        clear hK K
        try simp only [D.pts]
        have hfin : RC W0 pm g e (y4.setCell ⟨g, 4, none⟩ v2) { r5 with banks := r5.banks ++ [(t.v, d5)] } { q5 with xv := v2, zs := q5.zs ++ [.slice pd d5.length cd] } := by
          have g3 : S.Grew y3 y4 q5.xv v2 := by rw [hxv5]; exact g2
          exact hR.bank (W := y2) (Wb := y3) (W2 := y4) (t.v, d5) hB23 r2 g3 hrow
        have HF := hid hfin
        have f4 := S.frozen_of y4 g 4 _ _ m1
        have x4 := (HSY.out _ m1 m2).1
        obtain ⟨p2, c2, hv2⟩ : ∃ p2 c2, v2 = .slice p2 (r5.banks.length + 1) c2 := by
          rcases r2.2 with ⟨_, h0⟩ | ⟨g', c', cur, hv, _⟩
          · omega
          · exact ⟨_, _, hv⟩
        clear hfin hrow hcs hnw hB23 hy3 k2 m1 m2 gk hR hR3 hnb hxv5 hb6 HR HSY hbrow
        subst hv2
        clear r2 g2
        refine D.zP (is := [11, 12, 13]) ?_
        iterate 3
         refine D.yP (v := ?_) rfl (by kernel_rfl) (fun c a w h => h) (by rfl) ?_ (fun _ => hHeld) ?_
         rotate_left
         · (intro w hSw; clear hSw; go_simp; try with_reducible rfl)
         simp only [D.pts]
        refine D.eP ?_
        refine wpD_ready (rs := [14]) (by kernel_rfl) (by simp) ?_
        refine AllD.late rfl (by kernel_rfl) (fun K hK => ?_)
        go_simp
        refine hK.out _ _ ?_
        clear hK K
        try simp only [D.pts]
        refine wpD_done (by kernel_rfl) ?_ _
        clear hHeld f4 x4
        go_wp2
        go_end0
        rw [HE.out]
        exact roc_ok (r := { r5 with banks := r5.banks ++ [(t.v, d5)] }) rfl ⟨_, HF.out⟩
      | false =>
        have hw1 := isW_no hend
        have hw2 : (r5.at_.t.toList != [125]) = true := by simp [bne, hw1]
        have HN := hid hend
        clear hend
        cases hbad : (r5.at_.k == 2 && decide (r5.at_.v <= 255) && decide (d5.length < 16384)) with
        | false =>
          have HE := hid (show RES = .error (r5.at_.p, 106) from HI.out.2.2.2.2.2.2.2.1.symm.trans (tl_bad e n5 d5 r5 HN.out hbad))
          have hm := must_false r5.at_ 106 wr
          unfold tkc at hm
          have HER := hid (fun (w : World) (hb : Below wr.heap.size wr w) => HI.out.1.err hb)
          cases hk5 : (r5.at_.k == 2) with
          | false =>
            clear hbad HI hv5
            go_wp2_with fail
            refine hm.mono ?_
            rintro e' w9 ⟨rfl, h9⟩
            exact ⟨rfl, by rw [HE.out]; exact roc_er (er := (r5.at_.p, 106)) rfl (HER.out _ h9)⟩
          | true =>
            by_cases hv : r5.at_.v <= 255
            · have hl5 : ¬ d5.length < 16384 := by rw [hk5, decide_eq_true hv] at hbad; simpa using hbad
              have hl6 : ¬ (d5.length : Int) < 16384 := by omega
              clear hbad HI hl5
              go_wp2_with fail
              refine hm.mono ?_
              rintro e' w9 ⟨rfl, h9⟩
              exact ⟨rfl, by rw [HE.out]; exact roc_er (er := (r5.at_.p, 106)) rfl (HER.out _ h9)⟩
            · clear hbad HI
              go_wp2_with fail
              refine hm.mono ?_
              rintro e' w9 ⟨rfl, h9⟩
              exact ⟨rfl, by rw [HE.out]; exact roc_er (er := (r5.at_.p, 106)) rfl (HER.out _ h9)⟩
        | true =>
          have HG := hid (show dataN e n5 (d5 ++ [UInt8.ofNat r5.at_.v.toNat]) r5 = RES from (tl_go e n5 d5 r5 HN.out hbad).symm.trans HI.out.2.2.2.2.2.2.2.1)
          simp only [Bool.and_eq_true, decide_eq_true_eq] at hbad
          obtain ⟨⟨hk5, hv⟩, hl5⟩ := hbad
          have hl6 : (d5.length : Int) < 16384 := by omega
          have hm := must_true r5.at_ 106 wr
          unfold tkc at hm
          go_wp2_with fail
          refine hm.mono ?_
          rintro e' w6 ⟨rfl, hb6⟩
          clear hm x0 x1 x2 x3 x4 hw1 hw2 hk5
          obtain ⟨hR, hlo, hbx, hnb, hrow, hap, _, _, hfu, hvv, hbk⟩ := HI.out
          have hR6 := hR.next hb6
          have hbx6 := (hb6.block _ (Array.getElem?_eq_some_iff.1 hbx).1).trans hbx
          have hnb6 := (hb6.block _ (Array.getElem?_eq_some_iff.1 hnb).1).trans hnb
          have hrow6 : w6.ownsRow (g + 1) 5 1 (.slice pd d5.length cd) d5.length (vu d5) := S.own_kept hrow (fun k _ hk => hb6.block k hk)
          have y2 : w6.cell? ⟨b5, 2, none⟩ = some (.int .u16 r5.at_.v) := S.cell_of w6 _ 2 _ 53 _ hbx6 rfl
          have wv : IntKind.u8.wrap r5.at_.v = r5.at_.v := IntWalk.u8_in _ (by omega)
          obtain ⟨W9, hW9⟩ : ∃ W9, w6.alloc (.cells #[.int .u8 r5.at_.v] 5) = W9 := ⟨_, rfl⟩
          have hB9 : Below w6.heap.size w6 W9 := by rw [<- hW9]; exact (Below.refl _ _).alloc (Nat.le_refl _) _
          have v9 : W9.heap[w6.heap.size]? = some (.cells [.int .u8 r5.at_.v].toArray 5 (0, 0)) := by rw [<- hW9]; exact heap_alloc_new w6 _
          have hcs : S.Cs W9 (.slice (some ⟨w6.heap.size, 0, none⟩) 1 1) 1 1 [.int .u8 r5.at_.v] := .inr ⟨⟨w6.heap.size, 0, none⟩, 1, rfl, rfl, fun j x hj => by
              rw [Addr.add_lit, Nat.zero_add]
              exact S.cell_of W9 _ j _ 5 x v9 hj, fun x hx => by
              simp only [List.mem_cons, List.not_mem_nil, or_false] at hx
              rcases hx with rfl; rfl⟩
          have hrow9 : W9.ownsRow (g + 1) 5 1 (.slice pd d5.length cd) d5.length (vu d5) := S.own_kept hrow6 (fun k _ hk => hB9.block k hk)
          have hg9 : g + 1 <= W9.heap.size := by have := (hR6.next hB9).lt; omega
          have HJ := hid (And.intro (hR6.next hB9) (And.intro ((hB9.block _ (Array.getElem?_eq_some_iff.1 hbx6).1).trans hbx6) (And.intro ((hB9.block _ (Array.getElem?_eq_some_iff.1 hnb6).1).trans hnb6) (And.intro hrow9 (And.intro hap (And.intro hlo (And.intro hfu (And.intro hvv hbk))))))))
          have HV5 := hid (And.intro hv5 (And.intro hv hl5))
          clear hR hlo hbx hnb hrow hap hfu hvv hbk hR6 hbx6 hnb6 hrow6 hb6 hB9 v9 HI hdl hl6 hv hl5 hv5
          have HW9 := hid hW9
          clear hW9
          go_wp2_with (first | (at_builtin; rw [HW9.out]; refine S.wpList_append_row _ rfl _ _ 50 5 (.int .u8 0) 1 1 Tryz.underlying50 infoU rfl (by decide) rfl (g + 1) _ d5.length (vu d5) rfl hrow9 _ 1 [.int .u8 r5.at_.v] rfl hcs (by have := HV5.out.2.2; unfold S.room; omega) (by have := HV5.out.2.2; unfold maxLen; omega) hg9 ?_))
          intro v10 w10 r10 g10
          obtain ⟨hR, hbx, hnb, hrow, hap, hlo, hfu, hvv, hbk⟩ := HJ.out
          obtain ⟨hR10, hap10, hkt⟩ := hR.grewB hrow hap g10
          have hbx10 := (hkt _ _ _ hbx (by decide)).trans hbx
          have hnb10 := (hkt _ _ _ hnb (by decide)).trans hnb
          obtain ⟨p10, c10, rfl⟩ := row_val r10
          have hrw : w10.ownsRow (g + 1) 5 1 (.slice p10 (d5.length + 1) c10) (d5 ++ [UInt8.ofNat r5.at_.v.toNat]).length (vu (d5 ++ [UInt8.ofNat r5.at_.v.toNat])) := by
            have e1 : vu (d5 ++ [UInt8.ofNat r5.at_.v.toNat]) = vu d5 ++ [.int .u8 r5.at_.v] := by
              unfold vu
              rw [List.map_append, List.map_cons, List.map_nil, byte_nat _ HV5.out.1.1 HV5.out.2.1]
            rw [e1, List.length_append]
            exact r10
          obtain ⟨x0, x1, x2, x3, x4⟩ : w10.cell? ⟨b5, 0, none⟩ = some (.int .i64 r5.at_.k) /\ w10.cell? ⟨b5, 1, none⟩ = some (.string r5.at_.t) /\ w10.cell? ⟨b5, 2, none⟩ = some (.int .u16 r5.at_.v) /\ w10.cell? ⟨b5, 3, none⟩ = some (.int .i64 r5.at_.p.1) /\ w10.cell? ⟨b5, 4, none⟩ = some (.int .i64 r5.at_.p.2) := ⟨S.cell_of w10 _ 0 _ 53 _ hbx10 rfl, S.cell_of w10 _ 1 _ 53 _ hbx10 rfl, S.cell_of w10 _ 2 _ 53 _ hbx10 rfl, S.cell_of w10 _ 3 _ 53 _ hbx10 rfl, S.cell_of w10 _ 4 _ 53 _ hbx10 rfl⟩
          obtain ⟨W11, hW11⟩ : ∃ W11, w10.alloc (.cells #[.int .i64 r5.at_.k, .string r5.at_.t, .int .u16 r5.at_.v, .int .i64 r5.at_.p.1, .int .i64 r5.at_.p.2] 53) = W11 := ⟨_, rfl⟩
          have hB11 : Below w10.heap.size w10 W11 := by rw [<- hW11]; exact (Below.refl _ _).alloc (Nat.le_refl _) _
          have v11 : W11.heap[w10.heap.size]? = some (.cells (tkc r5.at_).toArray 53 (0, 0)) := by rw [<- hW11]; exact heap_alloc_new w10 _
          have HK := hid (And.intro (hR10.next hB11) (And.intro v11 (And.intro ((hB11.block _ (Array.getElem?_eq_some_iff.1 hnb10).1).trans hnb10) (And.intro (S.own_kept hrw (fun k _ hk => hB11.block k hk)) (And.intro hap10 (And.intro (show W.heap.size <= w10.heap.size from by have := (Array.getElem?_eq_some_iff.1 hbx10).1; omega) (And.intro hfu (And.intro hvv hbk))))))))
          clear hR hbx hnb hrow hap hlo hfu hvv hbk hR10 hap10 hkt hbx10 hnb10 hrw hB11 v11 r10 g10 HJ hcs hrow9 hg9 y2 wv HW9
          cases hrs : r5.rest with
          | nil =>
            have hc := next_no W0 pm g e W11 r5 q5 HK.out.1 hrs
            have HE := hid (show RES = .error (e, 105) from by
              have hfu := HK.out.2.2.2.2.2.2.1
              obtain ⟨m, rfl⟩ : ∃ m, n5 = m + 1 := ⟨n5 - 1, by omega⟩
              exact HG.out.symm.trans (dataN_er e m _ r5 _ (by unfold next; rw [hrs])))
            go_wp2_with fail
            try rw [hW11]
            refine hc.mono ?_
            rintro e' w9 ⟨rfl, h9⟩
            exact ⟨rfl, by rw [HE.out]; exact roc_er (er := (e, 105)) rfl (HK.out.1.err h9)⟩
          | cons t6 ts6 =>
            have hc := next_c W0 pm g e W11 r5 q5 HK.out.1 t6 ts6 hrs
            unfold tkc at hc
            have Hrs := hid hrs
            clear hrs
            go_wp2_with fail
            try rw [hW11]
            refine hc.mono ?_
            rintro e' w12 ⟨rfl, ⟨rv12, hR12⟩, hk12⟩
            obtain ⟨hR11, v11, hnb11, hrw11, hap11, hlo11, hfu, hvv, hbk⟩ := HK.out
            have v12 : w12.heap[w10.heap.size]? = some (.cells (tkc r5.at_).toArray 53 (0, 0)) := (hk12 _ (Array.getElem?_eq_some_iff.1 v11).1 (ty_ne v11 hR11.blk (by decide))).trans v11
            have hnb12 := (hk12 _ (Array.getElem?_eq_some_iff.1 hnb11).1 (ty_ne hnb11 hR11.blk (by decide))).trans hnb11
            have hrw12 : w12.ownsRow (g + 1) 5 1 (.slice p10 (d5.length + 1) c10) (d5 ++ [UInt8.ofNat r5.at_.v.toNat]).length (vu (d5 ++ [UInt8.ofNat r5.at_.v.toNat])) := S.own_kept hrw11 (fun k ek hk => hk12 k hk (by have := (hrw11.lt k ek).1; omega))
            have h13 := setRow_heap w12 w10.heap.size _ #[.int .i64 t6.k, .string t6.t, .int .u16 t6.v, .int .i64 t6.p.1, .int .i64 t6.p.2] _ _ v12
            have ho13 : ∀ k, k ≠ w10.heap.size -> (w12.setRow w10.heap.size #[.int .i64 t6.k, .string t6.t, .int .u16 t6.v, .int .i64 t6.p.1, .int .i64 t6.p.2]).heap[k]? = w12.heap[k]? := fun k hk => setRow_other w12 w10.heap.size k _ hk
            have hR13 : RC W0 pm g e (w12.setRow w10.heap.size #[.int .i64 t6.k, .string t6.t, .int .u16 t6.v, .int .i64 t6.p.1, .int .i64 t6.p.2]) { r5 with at_ := t6, rest := ts6 } { q5 with rv := rv12 } := hR12.other v12 okTK (fun x hx => by have := HXL.out x hx; omega) ho13 ⟨hR12.bel.os, hR12.bel.tape, hR12.bel.output, by rw [size_setRow]; exact hR12.bel.size, fun k hk => (ho13 k (by have := hR11.lt; have := (Array.getElem?_eq_some_iff.1 v12).1; have := ty_ne v12 hR12.blk (by decide); have := HGL.out; have := hR12.old; omega)).trans (hR12.bel.block k hk)⟩
            have hnb13 := (ho13 _ (ty_ne hnb12 v12 (by decide))).trans hnb12
            have hrw13 : (w12.setRow w10.heap.size #[.int .i64 t6.k, .string t6.t, .int .u16 t6.v, .int .i64 t6.p.1, .int .i64 t6.p.2]).ownsRow (g + 1) 5 1 (.slice p10 (d5.length + 1) c10) (d5 ++ [UInt8.ofNat r5.at_.v.toNat]).length (vu (d5 ++ [UInt8.ofNat r5.at_.v.toNat])) := S.own_kept hrw12 (fun k ek hk => by
              obtain ⟨c', hc'⟩ := own_tyD (n := 0) hrw12 k ek
              exact ho13 k (ty_ne hc' v12 (by decide)))
            have HBL := hid (show BL W0 pm g e W1.heap.size t.v W.heap.size 0 r.banks RES (.slice p10 (d5.length + 1) c10) (.pointer (some ⟨w10.heap.size, 0, none⟩)) (w12.setRow w10.heap.size #[.int .i64 t6.k, .string t6.t, .int .u16 t6.v, .int .i64 t6.p.1, .int .i64 t6.p.2]) from by
              obtain ⟨m, rfl⟩ : ∃ m, n5 = m + 1 := ⟨n5 - 1, by omega⟩
              refine ⟨_, _, m, d5 ++ [UInt8.ofNat r5.at_.v.toNat], w10.heap.size, hR13, rfl, hlo11, h13, hnb13, hrw13, hap11, by simp only [List.length_append, List.length_cons, List.length_nil]; have := HV5.out.2.2; omega, ?_, by show ts6.length + 1 <= m; rw [Hrs.out] at hfu; simp only [List.length_cons] at hfu; omega, fun x hx => hvv x (by rw [Hrs.out]; exact List.mem_cons_of_mem _ hx), hbk⟩
              exact (dataN_tl e m _ r5 _ (by unfold next; rw [Hrs.out])).symm.trans HG.out)
            have HMS := hid (show restC g (w12.setRow w10.heap.size #[.int .i64 t6.k, .string t6.t, .int .u16 t6.v, .int .i64 t6.p.1, .int .i64 t6.p.2]) < restC g wr from by
              rw [hR13.restC]
              rw [HRR.out, Hrs.out]
              simp)
            have V12 := v12
            clear hR12 hk12 hR11 v11 hnb11 hrw11 hap11 hlo11 hfu hvv hbk v12 hnb12 hrw12 h13 ho13 hR13 hnb13 hrw13 HK hc
            go_wp2_with (refine wpList_store_row rfl 53 _ _ rfl w10.heap.size _ rfl rfl 53 _ V12 (by exact sizeTK) (by rfl) (by simp [Value.oneCell']) ?_)
            go_roundw
            case rel => first | exact HBL.out | ((repeat apply Exists.intro); exact ⟨HBL.out, rfl⟩)
            case measure => exact HMS.out
end Go.Proofs.YtdnklgceghllaaaGreatDoor.D
