import Derived.Test.YteldjmecomngeaaGreatVTks
import Derived.Test.YteldjmecomngeaaGreatVRCp8
import Derived.Test.YteldjmecomngeaaGreatVNew
import Derived.Test.YteldjmecomngeaaGreatMRCopy
import Derived.Deep.DeepCutAuto
import Derived.Deep.RegionHeldLaw
import Derived.Deep.RegionHeld3
namespace Go.Proofs.YteldjmecomngeaaGreat.V
open Go.RowKit
open Go.Proofs
set_option linter.unusedVariables false
set_option linter.unusedSimpArgs false
set_option maxHeartbeats 8000000
set_option maxRecDepth 100000
theorem rx_made {y : World} {b : Nat} {ku dv rv : Value} {G : Nat -> Prop} {v : VS} (hm : M.IsR y G b v.m) (hG : ∀ k, G k -> k < y.heap.size) (hk : M.Sl y ku v.code) (hc : v.code.length <= 16384) (hd : S.Ls S.eU 1 y dv v.D) (hr : S.Ls S.eK 2 y rv v.R) (hb : ∀ k, (ku.ownBlock = some k \/ dv.ownBlock = some k \/ rv.ownBlock = some k) -> k < y.heap.size /\ ¬ G k) (dl : v.D.length <= 256) (rl : v.R.length <= 128) (wf : Vf v) :
  RX (y.alloc (.cells #[ku, .int .u16 v.pc, .int .i64 v.st, .int .i64 v.fa, dv, rv, .pointer (some ⟨b, 0, none⟩)] 93)) y.heap.size b ku dv rv G v := by
 have b7 := P.bel_alloc y (.cells #[ku, .int .u16 v.pc, .int .i64 v.st, .int .i64 v.fa, dv, rv, .pointer (some ⟨b, 0, none⟩)] 93)
 have n7 := heap_alloc_new y (.cells #[ku, .int .u16 v.pc, .int .i64 v.st, .int .i64 v.fa, dv, rv, .pointer (some ⟨b, 0, none⟩)] 93)
 generalize y.alloc (.cells #[ku, .int .u16 v.pc, .int .i64 v.st, .int .i64 v.fa, dv, rv, .pointer (some ⟨b, 0, none⟩)] 93) = y7 at *
 have s7 := b7.size
 refine ⟨n7, hm.below b7, hk.below b7, hc, hd.below b7, hr.below b7, fun k e => ⟨by have := (hb k e).1; omega, by have := (hb k e).1; omega, (hb k e).2⟩, fun k f => by have := hG k f; omega, fun f => by have := hG _ f; omega, dl, rl, wf⟩
theorem rnew8 (v : Value) (c : T.Ct) (ep : Option Addr) (ec : Nat) (bp : Option Addr) (bc : Nat) (kv : Value) (w : World) (h : T.IsC w v c ep ec bp bc kv) (hm : T.may c = true) :
  Calls Tryz.prog 29 #[v] w fun e w' => ∃ g b ku F, e = .returned (.tuple #[.pointer (some ⟨g, 0, none⟩), .int .i64 0]) /\ RX w' g b ku (.slice none 0 0) (.slice none 0 0) F (born c) /\ (w.heap.size <= g /\ (∀ k, ku.ownBlock = some k -> w.heap.size <= k) /\ ∀ k, F k -> w.heap.size <= k) /\ Below w.heap.size w w' := by
 obtain ⟨kp, kc, rfl, _⟩ := h.code.ex
 have hv := h.val
 subst hv
 unfold T.cv
 obtain ⟨hcl, hbg⟩ := may_parts hm
 have hen := h.fit.entry
 obtain ⟨W, hW⟩ : ∃ W, w.alloc (.cells #[.slice kp c.code.length kc, .int .u16 (c.entry : Int), .slice ep c.effs.length ec, .slice bp c.banks.length bc] 27) = W := ⟨_, rfl⟩
 have hB : Below w.heap.size w W := by rw [<- hW]; exact P.bel_alloc w _
 have n1 : W.heap[w.heap.size]? = some (.cells [.slice kp c.code.length kc, .int .u16 (c.entry : Int), .slice ep c.effs.length ec, .slice bp c.banks.length bc].toArray 27 (0, 0)) := by rw [<- hW]; exact heap_alloc_new w _
 have hC := h.below hB
 have hbl := h.blen
 have a3 := S.cell_of W _ 3 _ _ _ n1 rfl
 have a3' : (w.alloc (.cells #[.slice kp c.code.length kc, .int .u16 (c.entry : Int), .slice ep c.effs.length ec, .slice bp c.banks.length bc] 27)).cell? ⟨w.heap.size, 3, none⟩ = some (.slice bp c.banks.length bc) := by rw [hW]; exact a3
 have kN := M.rnew_is bp bc c.banks (by unfold M.room at *; exact hbl) W hC.banks (mayB_of _ _ hbg)
 have H0 : Hid _ := And.intro hB (And.intro n1 (And.intro hC (And.intro hcl hen)))
 have hs1 : w.heap.size < W.heap.size := S.lt_of n1
 have HW : Hid _ := hW
 clear h hB n1 hC hcl hbg hbl hm hW hen
 go_enter Tryz.func29, Tryz.ntmps29
 go_wp2_with fail
 try rw [HW.out]
 refine kN.mono ?_
 rintro e w2 ⟨b, rfl, hR2, hb2⟩
 clear kN a3 a3'
 obtain ⟨pc, hpc⟩ : ∃ pc, ((c.entry : Int) + 2) % 65536 = pc := ⟨_, rfl⟩
 have u1 : IntKind.u16.wrap ((c.entry : Int) + 2) = pc := by rw [M.u16_wrap]; exact hpc
 have HPC : Hid _ := hpc
 have H2 : Hid _ := And.intro hR2 hb2
 have HBd : Hid (Below w2.heap.size w2 w2.drew) := ⟨rfl, rfl, rfl, Nat.le_refl _, fun _ _ => rfl⟩
 have hS : ∀ X : World, Below w2.heap.size w2 X -> (fun wz : World => wz.cell? ⟨w.heap.size, 0, none⟩ = some (.slice kp c.code.length kc) /\ wz.cell? ⟨w.heap.size, 1, none⟩ = some (.int .u16 (c.entry : Int))) X := fun X hX => by
  have hn := ((hb2.trans (hX.mono hb2.size)).block _ hs1).trans H0.out.2.1; exact ⟨S.cell_of X _ 0 _ _ _ hn rfl, S.cell_of X _ 1 _ _ _ hn rfl⟩
 have HS : Hid _ := hS
 clear hS hR2 hb2 hpc
 go_upto_region 4 with fail
 refine V.wrh HS.out HBd.out (by kernel_rfl) (fun hHeld => ?_)
 generalize w2.drew = yd at *
 obtain ⟨y3, hy3⟩ : ∃ x, yd.alloc (.cells #[] 5) = x := ⟨_, rfl⟩
 have b3 : Below yd.heap.size yd y3 := by rw [<- hy3]; exact P.bel_alloc yd _
 have r3 : M.Row y3 yd.heap.size (.slice (some ⟨yd.heap.size, 0, none⟩) 0 0) [] := by rw [<- hy3]; exact M.row_of_alloc yd yd.heap.size (Nat.le_refl _) [] (by simp)
 have HY3 : Hid _ := hy3
 have z3 := b3.size
 have s3 : M.Sl y3 (.slice kp c.code.length kc) c.code := H0.out.2.2.1.code.below (H2.out.2.trans ((HBd.out.trans (b3.mono HBd.out.size)).mono H2.out.2.size))
 have hl3 : ([] : List UInt8).length + c.code.length <= M.room := by have := H0.out.2.2.2.1; unfold M.room; simp; omega
 clear hy3
 refine wtk0 (is := [1, 2, 4, 5, 6, 7, 8]) ?_
 iterate 7
  refine V.wt (v := ?_) rfl (by kernel_rfl) (fun c a w h => h) (by rfl) ?_ hHeld ?_
  rotate_left
  ·(intro w hSw; (try dsimp only at hSw); go_simp; try with_reducible rfl)
  simp only [V.pts]
 refine wtkE ?_
 refine V.wrd 0 (by kernel_rfl) rfl fun K hK => ?_
 go_simp
 refine hK.out _ _ (by first | exact HS.out y3 (HBd.out.trans (b3.mono HBd.out.size)) | (rw [HY3.out]; exact HS.out y3 (HBd.out.trans (b3.mono HBd.out.size)))) (fun hHeld => ?_)
 clear hK K
 try rw [HY3.out]
 try simp only [V.pts]
 refine V.wrd 3 (by kernel_rfl) rfl fun K hK => ?_
 rw [if_pos (by rfl)]
 try rw [HY3.out]
 refine M.wp_append_bytes _ _ _ rfl yd.heap.size _ [] rfl r3 _ c.code rfl s3 hl3 z3 (fun v4 y4 hr4 hg4 => ?_)
 have b4 : Below yd.heap.size yd y4 := b3.trans (hg4.below (fun i e => (World.ownsRow.lt r3 i e).1) b3.size)
 try rw [List.nil_append] at hr4
 obtain ⟨p4, c4, hv4⟩ := own_fm hr4
 subst hv4
 have H4 : Hid _ := And.intro hr4 b4
 clear hr4 hg4 b4 r3 s3 z3
 refine hK.out _ _ (HS.out y4 (HBd.out.trans (H4.out.2.mono HBd.out.size))) (fun hHeld => ?_)
 clear hK K
 try simp only [V.pts]
 refine V.wt1 9 (v := ?_) rfl (by kernel_rfl) (fun c a w h => h) (by rfl) ?_ hHeld ?_
 rotate_left
 ·(intro w hSw; (try dsimp only at hSw); go_simp; try with_reducible rfl)
 simp only [V.pts]
 refine V.wrd 10 (by kernel_rfl) rfl fun K hK => ?_
 go_simp
 refine hK.out _ _ (HS.out _ (HBd.out.trans ((H4.out.2.trans ((P.bel_alloc y4 _).mono H4.out.2.size)).mono HBd.out.size))) (fun hHeld => ?_)
 clear hK K
 try simp only [V.pts]
 refine wtk0 (is := [11, 12]) ?_
 iterate 2
  refine V.wt (v := ?_) rfl (by kernel_rfl) (fun c a w h => h) (by rfl) ?_ hHeld ?_
  rotate_left
  ·(intro w hSw; (try dsimp only at hSw); go_simp; try with_reducible rfl)
  simp only [V.pts]
 refine wtkE ?_
 refine wpAnyH_done (by kernel_rfl) ?_ _
 clear hHeld
 have hE : RX (y4.alloc (.cells #[.slice p4 c.code.length c4, .int .u16 pc, .int .i64 1, .int .i64 0, .slice none 0 0, .slice none 0 0, .pointer (some ⟨b, 0, none⟩)] 93)) y4.heap.size b (.slice p4 c.code.length c4) (.slice none 0 0) (.slice none 0 0) (fun k => W.heap.size <= k /\ k < w2.heap.size) (born c) := by
  have e : born c = ⟨c.code, pc, 1, 0, [], [], { M.m0 with banks := M.nbk c.banks }⟩ := by unfold born; rw [HPC.out]
  rw [e]; have hz2 := HBd.out.size; have hz4 := H4.out.2.size; refine rx_made (v := ⟨c.code, pc, 1, 0, [], [], { M.m0 with banks := M.nbk c.banks }⟩) ((H2.out.1.mono (G := fun k => W.heap.size <= k /\ k < w2.heap.size) fun i hi f => ⟨f, hi⟩).below (HBd.out.trans (H4.out.2.mono HBd.out.size))) (fun k f => by omega) H4.out.1.sl H0.out.2.2.2.1 (.inl ⟨rfl, rfl⟩) (.inl ⟨rfl, rfl⟩) (fun k e => ?_) (by simp) (by simp) ⟨?_, ?_, by simp, by simp⟩
  ·rcases e with e | e | e
   ·have := World.ownsRow.lt H4.out.1 k e
    exact ⟨this.2, fun f => by omega⟩
   ·simp [Value.ownBlock] at e
   ·simp [Value.ownBlock] at e
  ·show 0 <= pc
   rw [<- HPC.out]; omega
  ·show pc < 65536
   rw [<- HPC.out]; omega
 have hF : (w.heap.size <= y4.heap.size /\ (∀ k, (Value.slice p4 c.code.length c4).ownBlock = some k -> w.heap.size <= k) /\ ∀ k, (W.heap.size <= k /\ k < w2.heap.size) -> w.heap.size <= k) := by
  have z1 := H0.out.1.size; have z2 := H2.out.2.size; have zd := HBd.out.size; have z4 := H4.out.2.size; exact ⟨by omega, fun k e => by have := (World.ownsRow.lt H4.out.1 k e).1; omega, fun k f => by omega⟩
 have hL : Below w.heap.size w (y4.alloc (.cells #[.slice p4 c.code.length c4, .int .u16 pc, .int .i64 1, .int .i64 0, .slice none 0 0, .slice none 0 0, .pointer (some ⟨b, 0, none⟩)] 93)) := by
  have q1 := H0.out.1.trans (H2.out.2.mono H0.out.1.size); have q2 := q1.trans (HBd.out.mono q1.size); have q3 := q2.trans (H4.out.2.mono q2.size); exact q3.trans ((P.bel_alloc y4 _).mono q3.size)
 have HE : Hid _ := And.intro hE (And.intro hF hL)
 clear hE hF hL
 go_wp2
 go_ret2
 first
  | exact ⟨_, _, _, _, rfl, HE.out⟩
  | exact ⟨_, rfl, _, _, _, HE.out⟩
end Go.Proofs.YteldjmecomngeaaGreat.V
