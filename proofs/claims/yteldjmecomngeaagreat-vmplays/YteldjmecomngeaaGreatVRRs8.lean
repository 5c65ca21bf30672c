import Derived.Test.YteldjmecomngeaaGreatVTks
import Derived.Test.YteldjmecomngeaaGreatVRNw8
import Derived.Test.YteldjmecomngeaaGreatVRMay8
import Derived.Test.YteldjmecomngeaaGreatVGoM
import Derived.Deep.DeepCutAuto
import Derived.Deep.RegionHeldLaw
import Derived.Deep.RegionHeld3
namespace Go.Proofs.YteldjmecomngeaaGreat.V
open Go.RowKit
open Go.Proofs
set_option linter.unusedVariables false
set_option linter.unusedSimpArgs false
set_option maxHeartbeats 8000000
set_option maxRecDepth 100000
theorem rrest8 (v : Value) (c : T.Ct) (ep : Option Addr) (ec : Nat) (bp : Option Addr) (bc : Nat) (kv : Value) (pc st fa : Int) (p q : Option Addr) (cd cr : Nat) (D : List Int) (R : List (Int × Int)) (m : M.MS) (ip rp sp : Option Addr) (icap rc scap : Nat) (w : World)
  (h : T.IsC w v c ep ec bp bc kv) (hcl : c.code.length <= 16384) (hpc : C.C pc) (hs : okS st fa) (dl : D.length <= 256) (rl : R.length <= 128) (hk : okRt R) (hDC : ∀ x ∈ D, C.C x) (hRC : ∀ q ∈ R, C.C q.2) (h1 : S.Ls S.eU 1 w (.slice p D.length cd) D) (h2 : S.Ls S.eK 2 w (.slice q R.length cr) R)
  (hbk : ∀ k, (Value.ownBlock (.slice p D.length cd) = some k \/ Value.ownBlock (.slice q R.length cr) = some k) -> k < w.heap.size)
  (hI : M.BnS w ip (M.inO m 16)) (hr : M.Sl w (.slice rp m.ram.length rc) m.ram) (hsc : M.Sl w (.slice sp m.scr.length scap) m.scr) (hw : M.Wf m) (hn : (M.inO m 16).map Prod.fst = c.banks.map Prod.fst) :
  Calls Tryz.prog 34 #[v, .agg #[.int .u16 pc, .int .i64 st, .int .i64 fa, .slice p D.length cd, .slice q R.length cr], .agg #[.slice ip (M.inO m 16).length icap, .slice rp m.ram.length rc, .slice sp m.scr.length scap, .int .u8 m.ch, .int .u8 m.pad, .int .u16 m.pitch, .int .u8 m.vol, .int .u16 m.time]] w fun e w' => ∃ g b ku dv rv F, e = .returned (.tuple #[.pointer (some ⟨g, 0, none⟩), .int .i64 0]) /\ RX w' g b ku dv rv F ⟨c.code, pc, st, fa, D, R, M.rs m⟩ /\ RFr w.heap.size g dv rv F /\ (∀ k, ku.ownBlock = some k -> w.heap.size <= k /\ ¬ dv.ownBlock = some k /\ ¬ rv.ownBlock = some k) /\ Below w.heap.size w w' := by
 obtain ⟨kp, kc, rfl, _⟩ := h.code.ex
 have hv := h.val
 subst hv
 unfold T.cv
 obtain ⟨n1, n2, n3, hB, hsz⟩ := three w (.cells #[.slice kp c.code.length kc, .int .u16 (c.entry : Int), .slice ep c.effs.length ec, .slice bp c.banks.length bc] 27) (.cells #[.int .u16 pc, .int .i64 st, .int .i64 fa, .slice p D.length cd, .slice q R.length cr] 55) (.cells #[.slice ip (M.inO m 16).length icap, .slice rp m.ram.length rc, .slice sp m.scr.length scap, .int .u8 m.ch, .int .u8 m.pad, .int .u16 m.pitch, .int .u8 m.vol, .int .u16 m.time] 104)
 obtain ⟨W, hW⟩ : ∃ W, ((w.alloc (.cells #[.slice kp c.code.length kc, .int .u16 (c.entry : Int), .slice ep c.effs.length ec, .slice bp c.banks.length bc] 27)).alloc (.cells #[.int .u16 pc, .int .i64 st, .int .i64 fa, .slice p D.length cd, .slice q R.length cr] 55)).alloc (.cells #[.slice ip (M.inO m 16).length icap, .slice rp m.ram.length rc, .slice sp m.scr.length scap, .int .u8 m.ch, .int .u8 m.pad, .int .u16 m.pitch, .int .u8 m.vol, .int .u16 m.time] 104) = W := ⟨_, rfl⟩
 rw [hW] at n1 n2 n3 hB hsz
 have hC := h.below hB
 have s1 := h1.below hB
 have s2 := h2.below hB
 obtain ⟨p', c', ep', _, sl2⟩ := s2.ex
 cases ep'
 have kM := rmay_yes pc st fa p q cd cr D R W hs dl rl hk sl2
 have b0 := S.cell_of W _ 0 [.int .u16 pc, .int .i64 st, .int .i64 fa, .slice p D.length cd, .slice q R.length cr] _ _ n2 rfl
 have b1 := S.cell_of W _ 1 [.int .u16 pc, .int .i64 st, .int .i64 fa, .slice p D.length cd, .slice q R.length cr] _ _ n2 rfl
 have b2 := S.cell_of W _ 2 [.int .u16 pc, .int .i64 st, .int .i64 fa, .slice p D.length cd, .slice q R.length cr] _ _ n2 rfl
 have b3 := S.cell_of W _ 3 [.int .u16 pc, .int .i64 st, .int .i64 fa, .slice p D.length cd, .slice q R.length cr] _ _ n2 rfl
 have b4 := S.cell_of W _ 4 [.int .u16 pc, .int .i64 st, .int .i64 fa, .slice p D.length cd, .slice q R.length cr] _ _ n2 rfl
 have HL : Hid _ := And.intro n1 (And.intro n2 n3)
 have HQ : Hid _ := And.intro hC (And.intro s1 s2)
 have HO : Hid _ := And.intro hcl (And.intro hpc (And.intro dl (And.intro rl (And.intro hDC hRC))))
 have HBK : Hid _ := hbk
 have HBW : Hid _ := hB
 have HI : Hid _ := And.intro (hI.below hB) (And.intro (M.Sl.below hr hB) (And.intro (M.Sl.below hsc hB) (And.intro hw hn)))
 have HW : Hid _ := hW
 clear h n1 n2 n3 hC s1 s2 hcl hpc dl rl hDC hRC hbk hI hr hsc hw hn h1 h2 hk sl2 hW hs
 go_enter Tryz.func34, Tryz.ntmps34
 go_upto_region 1 with fail
 rw [HW.out]
 go_wp2_with fail
 refine kM.mono ?_
 rintro e w1 ⟨rfl, hb1⟩
 clear kM b0 b1 b2 b3 b4
 have n31 := (hb1.block _ (by rw [hsz]; omega)).trans HL.out.2.2
 have i0 := S.cell_of w1 _ 0 [.slice ip (M.inO m 16).length icap, .slice rp m.ram.length rc, .slice sp m.scr.length scap, .int .u8 m.ch, .int .u8 m.pad, .int .u16 m.pitch, .int .u8 m.vol, .int .u16 m.time] _ _ n31 rfl
 have i1 := S.cell_of w1 _ 1 [.slice ip (M.inO m 16).length icap, .slice rp m.ram.length rc, .slice sp m.scr.length scap, .int .u8 m.ch, .int .u8 m.pad, .int .u16 m.pitch, .int .u8 m.vol, .int .u16 m.time] _ _ n31 rfl
 have i2 := S.cell_of w1 _ 2 [.slice ip (M.inO m 16).length icap, .slice rp m.ram.length rc, .slice sp m.scr.length scap, .int .u8 m.ch, .int .u8 m.pad, .int .u16 m.pitch, .int .u8 m.vol, .int .u16 m.time] _ _ n31 rfl
 have i3 := S.cell_of w1 _ 3 [.slice ip (M.inO m 16).length icap, .slice rp m.ram.length rc, .slice sp m.scr.length scap, .int .u8 m.ch, .int .u8 m.pad, .int .u16 m.pitch, .int .u8 m.vol, .int .u16 m.time] _ _ n31 rfl
 have i4 := S.cell_of w1 _ 4 [.slice ip (M.inO m 16).length icap, .slice rp m.ram.length rc, .slice sp m.scr.length scap, .int .u8 m.ch, .int .u8 m.pad, .int .u16 m.pitch, .int .u8 m.vol, .int .u16 m.time] _ _ n31 rfl
 have i5 := S.cell_of w1 _ 5 [.slice ip (M.inO m 16).length icap, .slice rp m.ram.length rc, .slice sp m.scr.length scap, .int .u8 m.ch, .int .u8 m.pad, .int .u16 m.pitch, .int .u8 m.vol, .int .u16 m.time] _ _ n31 rfl
 have i6 := S.cell_of w1 _ 6 [.slice ip (M.inO m 16).length icap, .slice rp m.ram.length rc, .slice sp m.scr.length scap, .int .u8 m.ch, .int .u8 m.pad, .int .u16 m.pitch, .int .u8 m.vol, .int .u16 m.time] _ _ n31 rfl
 have i7 := S.cell_of w1 _ 7 [.slice ip (M.inO m 16).length icap, .slice rp m.ram.length rc, .slice sp m.scr.length scap, .int .u8 m.ch, .int .u8 m.pad, .int .u16 m.pitch, .int .u8 m.vol, .int .u16 m.time] _ _ n31 rfl
 have kR := M.rrest_is ip icap rp sp rc scap m HI.out.2.2.2.1 w1 (HI.out.1.below hb1) (M.Sl.below HI.out.2.1 hb1) (M.Sl.below HI.out.2.2.1 hb1)
 unfold M.imgC at kR
 have HB1 : Hid (Below W.heap.size W w1) := hb1
 clear n31 hb1
 go_wp2_with fail
 refine kR.mono ?_
 rintro e w2 ⟨b, rfl, hR2, hb2⟩
 clear kR i0 i1 i2 i3 i4 i5 i6 i7
 have hb12 : Below W.heap.size W w2 := HB1.out.trans (hb2.mono HB1.out.size)
 obtain ⟨pb, cb, hcb, hbn⟩ : ∃ pb cb, w2.cell? ⟨b, 0, none⟩ = some (.slice pb (M.inO m 16).length cb) /\ M.BnS w2 pb (M.inO m 16) := by
  obtain ⟨_, u, gr, gc, gs, tv, hx⟩ := hR2; have e := M.inO_congr (m' := M.rs m) (m := m) rfl 16; obtain ⟨pb, cb, rfl, hbn⟩ := M.RB.ex hx.banks; rw [e] at hbn; refine ⟨pb, cb, ?_, hbn⟩; rw [<- e]; exact S.cell_of w2 b 0 _ _ _ hx.blk rfl
 have m1 := (hb12.block _ (by rw [hsz]; omega)).trans HL.out.1
 have hlen : (M.inO m 16).length = c.banks.length := by have := congrArg List.length HI.out.2.2.2.2; simpa using this
 have g0 : ∀ q, (w2.drewN q).cell? ⟨b, 0, none⟩ = some (.slice pb c.banks.length cb) := fun q => by rw [hlen] at hcb; exact hcb
 have g3 : ∀ q, (w2.drewN q).cell? ⟨w.heap.size, 3, none⟩ = some (.slice bp c.banks.length bc) := fun q => S.cell_of w2 _ 3 [.slice kp c.code.length kc, .int .u16 (c.entry : Int), .slice ep c.effs.length ec, .slice bp c.banks.length bc] _ _ m1 rfl
 have g0' : w2.cell? ⟨b, 0, none⟩ = some (.slice pb c.banks.length cb) := g0 0
 have g3' : w2.cell? ⟨w.heap.size, 3, none⟩ = some (.slice bp c.banks.length bc) := g3 0
 have hl16 : (M.inO m 16).length <= 16 := M.inO_len m 16
 have hnb : c.banks.length <= 16 := by rw [<- hlen]; exact hl16
 have H2 : Hid _ := And.intro hR2 (And.intro hb2 hb12)
 have HN : Hid _ := And.intro hbn (HQ.out.1.banks.below hb12)
 have HM1 : Hid _ := And.intro m1 hlen
 obtain ⟨nb, hnb0⟩ : ∃ n, c.banks.length = n := ⟨_, rfl⟩
 rw [hnb0] at g0 g3 g0' g3' hnb
 have HNB : Hid _ := hnb0
 clear hcb hbn m1 hlen hR2 hb2 hb12 hl16 hnb0
 go_upto_region 6 with fail
 go_quiet (fail)
 go_wp2_with fail
 go_loopw [37] (fun i wr => ∃ k z : Nat, k <= nb /\ i = .int .i64 (k : Int) /\ wr = w2.drewN z) (fun i _ => nb - (intOf i).toNat)
 case atStart => exact ⟨0, _, by omega, rfl, rfl⟩
 case round =>
  obtain ⟨k, z, hk, rfl, rfl⟩ := hrel
  by_cases hlt : k < nb
  ·have i1 : (k : Int) < (nb : Int) := by omega
   have hl1 : k < (M.inO m 16).length := by rw [HM1.out.2, HNB.out]; exact hlt
   have hl2 : k < c.banks.length := by rw [HNB.out]; exact hlt
   obtain ⟨x1, o1, dv1, rfl, e1, -⟩ := HN.out.1 k _ (List.getElem?_eq_getElem hl1); obtain ⟨x2, o2, dv2, rfl, e2, -⟩ := HN.out.2 k _ (List.getElem?_eq_getElem hl2)
   have heq : ((M.inO m 16)[k]).1 = (c.banks[k]).1 := by
    have := congrArg (fun l : List Int => l[k]?) HI.out.2.2.2.2; simp only [List.getElem?_map, List.getElem?_eq_getElem hl1, List.getElem?_eq_getElem hl2, Option.map_some, Option.some.injEq] at this; exact this
   rw [heq] at e1; generalize (c.banks[k]).1 = t at *
   have f1 : ∀ q, (w2.drewN q).cell? ⟨x1, o1 + k * 2, none⟩ = some (.int .i64 t) := fun q => e1
   have f2 : ∀ q, (w2.drewN q).cell? ⟨x2, o2 + k * 2, none⟩ = some (.int .i64 t) := fun q => e2
   have w1' : wrap64 ((k : Int) + 1) = ((k + 1 : Nat) : Int) := by simp [wrap64]; omega
   clear e1 e2 heq hl1 hl2; go_wp2_with fail
   go_quiet (fail)
   go_wp2; go_roundw
   case rel =>
    first
     | exact ⟨k + 1, _, hlt, (by first | rfl | rw [w1']), rfl⟩
     | ((repeat apply Exists.intro); refine ⟨⟨k + 1, _, hlt, ?_, rfl⟩, rfl⟩; first | rfl | rw [w1'])
   case measure => exact msr2 _ _ _ k (by first | rfl | rw [w1']) rfl hlt
  ·obtain rfl : k = nb := by omega
   clear hlt hk; have hb2q : Below w2.heap.size w2 (w2.drewN z) := ⟨rfl, rfl, rfl, Nat.le_refl _, fun _ _ => rfl⟩
   obtain ⟨y2, hy2⟩ : ∃ y, w2.drewN z = y := ⟨_, rfl⟩
   rw [hy2] at hb2q
   have hS : ∀ X : World, Below y2.heap.size y2 X -> (fun wz : World => wz.cell? ⟨w.heap.size, 0, none⟩ = some (.slice kp c.code.length kc) /\ wz.cell? ⟨w.heap.size + 1, 0, none⟩ = some (.int .u16 pc) /\ wz.cell? ⟨w.heap.size + 1, 1, none⟩ = some (.int .i64 st) /\ wz.cell? ⟨w.heap.size + 1, 2, none⟩ = some (.int .i64 fa) /\ wz.cell? ⟨w.heap.size + 1, 3, none⟩ = some (.slice p D.length cd) /\ wz.cell? ⟨w.heap.size + 1, 4, none⟩ = some (.slice q R.length cr)) X := fun X hX => by
    have q2 := H2.out.2.2.trans ((hb2q.trans (hX.mono hb2q.size)).mono H2.out.2.2.size); have x1 := (q2.block _ (by rw [hsz]; omega)).trans HL.out.1; have x2 := (q2.block _ (by rw [hsz]; omega)).trans HL.out.2.1; exact ⟨S.cell_of X _ 0 [.slice kp c.code.length kc, .int .u16 (c.entry : Int), .slice ep c.effs.length ec, .slice bp c.banks.length bc] _ _ x1 rfl, S.cell_of X _ 0 [.int .u16 pc, .int .i64 st, .int .i64 fa, .slice p D.length cd, .slice q R.length cr] _ _ x2 rfl, S.cell_of X _ 1 [.int .u16 pc, .int .i64 st, .int .i64 fa, .slice p D.length cd, .slice q R.length cr] _ _ x2 rfl, S.cell_of X _ 2 [.int .u16 pc, .int .i64 st, .int .i64 fa, .slice p D.length cd, .slice q R.length cr] _ _ x2 rfl, S.cell_of X _ 3 [.int .u16 pc, .int .i64 st, .int .i64 fa, .slice p D.length cd, .slice q R.length cr] _ _ x2 rfl, S.cell_of X _ 4 [.int .u16 pc, .int .i64 st, .int .i64 fa, .slice p D.length cd, .slice q R.length cr] _ _ x2 rfl⟩
   have HS : Hid _ := hS; have HBd : Hid (Below y2.heap.size y2 y2.drew) := ⟨rfl, rfl, rfl, Nat.le_refl _, fun _ _ => rfl⟩
   have HB2 := S.hid (hb2q); clear hS hb2q g0 g3 g0' g3'; go_upto_region 14 with fail
   try rw [hy2]
   clear hy2; refine V.wrh HS.out HBd.out (by kernel_rfl) (fun hHeld => ?_); generalize y2.drew = yd at *
   obtain ⟨y3, hy3⟩ : ∃ x, yd.alloc (.cells #[] 5) = x := ⟨_, rfl⟩
   have b3 : Below yd.heap.size yd y3 := by rw [<- hy3]; exact P.bel_alloc yd _
   have r3 : M.Row y3 yd.heap.size (.slice (some ⟨yd.heap.size, 0, none⟩) 0 0) [] := by rw [<- hy3]; exact M.row_of_alloc yd yd.heap.size (Nat.le_refl _) [] (by simp)
   have HY3 : Hid _ := hy3; have z3 := b3.size; have s3 : M.Sl y3 (.slice kp c.code.length kc) c.code := HQ.out.1.code.below (H2.out.2.2.trans ((HB2.out.trans ((HBd.out.trans (b3.mono HBd.out.size)).mono HB2.out.size)).mono H2.out.2.2.size)); have hl3 : ([] : List UInt8).length + c.code.length <= M.room := by have := HO.out.1; unfold M.room; simp; omega
   clear hy3; refine wtk0 (is := [1, 2, 4, 5]) ?_
   iterate 4
    refine V.wt (v := ?_) rfl (by kernel_rfl) (fun c a w h => h) (by rfl) ?_ hHeld ?_
    rotate_left
    ·(intro w hSw; (try dsimp only at hSw); go_simp; try with_reducible rfl)
    simp only [V.pts]
   refine wtkE ?_; refine V.wrd 0 (by kernel_rfl) rfl fun K hK => ?_
   go_simp; refine hK.out _ _ (by first | exact HS.out y3 (HBd.out.trans (b3.mono HBd.out.size)) | (rw [HY3.out]; exact HS.out y3 (HBd.out.trans (b3.mono HBd.out.size)))) (fun hHeld => ?_); clear hK K; try rw [HY3.out]
   try simp only [V.pts]
   refine V.wrd 3 (by kernel_rfl) rfl fun K hK => ?_
   rw [if_pos (by rfl)]; try rw [HY3.out]
   refine M.wp_append_bytes _ _ _ rfl yd.heap.size _ [] rfl r3 _ c.code rfl s3 hl3 z3 (fun v4 y4 hr4 hg4 => ?_); have b4 : Below yd.heap.size yd y4 := b3.trans (hg4.below (fun i e => (World.ownsRow.lt r3 i e).1) b3.size); try rw [List.nil_append] at hr4
   obtain ⟨p4, c4, hv4⟩ := own_fm hr4; subst hv4; have H4 : Hid _ := And.intro hr4 b4; clear hr4 hg4 b4 r3 s3 z3; refine hK.out _ _ (HS.out y4 (HBd.out.trans (H4.out.2.mono HBd.out.size))) (fun hHeld => ?_); clear hK K; try simp only [V.pts]
   refine V.wt1 6 (v := ?_) rfl (by kernel_rfl) (fun c a w h => h) (by rfl) ?_ hHeld ?_
   rotate_left
   ·(intro w hSw; (try dsimp only at hSw); go_simp; try with_reducible rfl)
   simp only [V.pts]; refine V.wrd 7 (by kernel_rfl) rfl fun K hK => ?_
   go_simp; refine hK.out _ _ (HS.out _ (HBd.out.trans ((H4.out.2.trans ((P.bel_alloc y4 _).mono H4.out.2.size)).mono HBd.out.size))) (fun hHeld => ?_); clear hK K; try simp only [V.pts]
   refine V.wt1 8 (v := ?_) rfl (by kernel_rfl) (fun c a w h => h) (by rfl) ?_ hHeld ?_
   rotate_left
   ·(intro w hSw; (try dsimp only at hSw); go_simp; try with_reducible rfl)
   simp only [V.pts]; refine wpAnyH_done (by kernel_rfl) ?_ _; clear hHeld; obtain ⟨y5, hy5⟩ : ∃ y, y4.alloc (.cells #[.slice p4 c.code.length c4, .int .u16 pc, .int .i64 st, .int .i64 fa, .slice p D.length cd, .slice q R.length cr, .pointer (some ⟨b, 0, none⟩)] 93) = y := ⟨_, rfl⟩
   have q2 : Below w.heap.size w w2 := HBW.out.trans (H2.out.2.2.mono HBW.out.size); have q3 : Below w2.heap.size w2 y4 := HB2.out.trans ((HBd.out.trans (H4.out.2.mono HBd.out.size)).mono HB2.out.size); have q4 : Below w.heap.size w y4 := q2.trans (q3.mono q2.size)
   have hE : RX y5 y4.heap.size b (.slice p4 c.code.length c4) (.slice p D.length cd) (.slice q R.length cr) (fun k => w1.heap.size <= k /\ k < w2.heap.size) ⟨c.code, pc, st, fa, D, R, M.rs m⟩ := by
    rw [<- hy5]; have z1 := HB1.out.size; have z3 := q3.size; have zw := HBW.out.size; have zd := HBd.out.size; have z22 := HB2.out.size; have z12 := H2.out.2.1.size; refine rx_made (v := ⟨c.code, pc, st, fa, D, R, M.rs m⟩) ((H2.out.1.mono (G := fun k => w1.heap.size <= k /\ k < w2.heap.size) fun i hi f => ⟨f, hi⟩).below q3) (fun k f => by omega) H4.out.1.sl HO.out.1 (HQ.out.2.1.below (H2.out.2.2.trans (q3.mono H2.out.2.2.size))) (HQ.out.2.2.below (H2.out.2.2.trans (q3.mono H2.out.2.2.size))) (fun k e => ?_) HO.out.2.2.1 HO.out.2.2.2.1 ⟨HO.out.2.1.1, HO.out.2.1.2, HO.out.2.2.2.2.1, HO.out.2.2.2.2.2⟩
    rcases e with e | e
    ·have := World.ownsRow.lt H4.out.1 k e
     exact ⟨this.2, fun f => by omega⟩
    ·have := HBK.out k e
     exact ⟨by omega, fun f => by omega⟩
   have hb5 : Below y4.heap.size y4 y5 := by rw [<- hy5]; exact P.bel_alloc y4 _
   have kC := rcopy8 _ _ _ _ _ _ _ (by show ([] : List (Int × Int × Int)).length <= 1000000; simp) y5 hE; have H5 : Hid _ := And.intro hb5 q4; have HKU : Hid (∀ k, (Value.slice p4 c.code.length c4).ownBlock = some k -> w.heap.size <= k /\ k < y5.heap.size) := fun k e => by have := (World.ownsRow.lt H4.out.1 k e).1; have := (World.ownsRow.lt H4.out.1 k e).2; have z4 := q2.size; have := HB2.out.size; have := HBd.out.size; have := hb5.size; omega
   have HY5 : Hid _ := hy5; clear hE hb5 q2 q3 q4 hy5; go_wp2_with fail
   try rw [HY5.out]
   refine kC.mono ?_; rintro e w6 ⟨g', b', dv', rv', F', rfl, hx6, hf6, hb6⟩; have z5 : w.heap.size <= y5.heap.size := Nat.le_trans H5.out.2.size H5.out.1.size; have hb56 : Below w.heap.size w w6 := (H5.out.2.trans (H5.out.1.mono H5.out.2.size)).trans (hb6.mono z5); have HE : Hid _ := And.intro hx6 (And.intro (show RFr w.heap.size g' dv' rv' F' from ⟨Nat.le_trans z5 hf6.g, fun k e => Nat.le_trans z5 (hf6.d k e), fun k e => Nat.le_trans z5 (hf6.r k e), fun k e => Nat.le_trans z5 (hf6.f k e)⟩) (And.intro (show ∀ k, (Value.slice p4 c.code.length c4).ownBlock = some k -> w.heap.size <= k /\ ¬ dv'.ownBlock = some k /\ ¬ rv'.ownBlock = some k from fun k e => ⟨(HKU.out k e).1, fun f => by have := hf6.d k f; have := (HKU.out k e).2; omega, fun f => by have := hf6.r k f; have := (HKU.out k e).2; omega⟩) hb56)); clear kC hx6 hf6 hb6 hb56 z5; go_wp2
   go_ret2
   first
    | exact ⟨_, _, _, _, _, _, rfl, HE.out⟩
    | exact ⟨_, rfl, _, _, _, _, _, HE.out⟩
theorem tm_r (a : Int) (n : Int) (hn : 0 < n) : -n < a.tmod n /\ a.tmod n < n := by
 have h1 := Int.tmod_lt_of_pos a hn
 have h2 := Int.tmod_lt_of_pos (-a) hn
 rw [Int.neg_tmod] at h2
 exact ⟨by omega, h1⟩
theorem RX.tc {W W' : World} {g b : Nat} {kv dv rv : Value} {F G : Nat -> Prop} {v : VS} (h : RX W g b kv dv rv F v) (k : S.Tc G W W') (hg : ¬ G g) (hF : ∀ i, F i -> ¬ G i) (ho : ∀ i, (kv.ownBlock = some i \/ dv.ownBlock = some i \/ rv.ownBlock = some i) -> ¬ G i) : RX W' g b kv dv rv F v :=
 { h with
  blk := (k.block _ h.lt hg).trans h.blk
  mem := h.mem.kept fun i hi f => k.block i hi (hF i f)
  code := msl_tc h.code k fun i e => ho i (.inl e)
  d := ls_tc h.d k fun i e => ho i (.inr (.inl e))
  r := ls_tc h.r k fun i e => ho i (.inr (.inr e))
  ck := fun i e => ⟨Nat.lt_of_lt_of_le (h.ck i e).1 k.size, (h.ck i e).2⟩
  fb := fun i e => Nat.lt_of_lt_of_le (h.fb i e) k.size }
end Go.Proofs.YteldjmecomngeaaGreat.V
