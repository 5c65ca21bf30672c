import Derived.Test.YteldjmecomngeaaGreatVRStK
import Derived.Test.YteldjmecomngeaaGreatMRCopy
import Derived.Test.YteldjmecomngeaaGreatVTks
import Derived.Deep.DeepCutAuto
import Derived.Deep.RegionHeldLaw
import Derived.Deep.RegionHeld3
namespace Go.Proofs.YteldjmecomngeaaGreat.V
open Go.RowKit
open Go.Proofs
set_option linter.unusedVariables false
set_option linter.unusedSimpArgs false
set_option maxHeartbeats 8000000
set_option maxRecDepth 100000
structure RFr (n g : Nat) (dv rv : Value) (F : Nat -> Prop) : Prop where
 g : n <= g
 d : ∀ k, dv.ownBlock = some k -> n <= k
 r : ∀ k, rv.ownBlock = some k -> n <= k
 f : ∀ k, F k -> n <= k
theorem rcp_end {w y5 y6 : World} {g b b' : Nat} {kv dv rv d1 r1 : Value} {F : Nat -> Prop} {v : VS} (h : RX w g b kv dv rv F v) (hb5 : Below w.heap.size w y5) (hd : y5.ownsRow w.heap.size 23 1 d1 v.D.length (S.en S.eU v.D)) (hr : y5.ownsRow w.heap.size 101 2 r1 v.R.length (S.en S.eK v.R)) (hb6 : Below y5.heap.size y5 y6) (hm : M.IsR y6 (fun k => y5.heap.size <= k) b' v.m) :
  RX (y6.alloc (.cells #[kv, .int .u16 v.pc, .int .i64 v.st, .int .i64 v.fa, d1, r1, .pointer (some ⟨b', 0, none⟩)] 93)) y6.heap.size b' kv d1 r1 (fun k => y5.heap.size <= k /\ k < y6.heap.size) v /\ RFr w.heap.size y6.heap.size d1 r1 (fun k => y5.heap.size <= k /\ k < y6.heap.size) /\ Below w.heap.size w (y6.alloc (.cells #[kv, .int .u16 v.pc, .int .i64 v.st, .int .i64 v.fa, d1, r1, .pointer (some ⟨b', 0, none⟩)] 93)) := by
 have b7 := P.bel_alloc y6 (.cells #[kv, .int .u16 v.pc, .int .i64 v.st, .int .i64 v.fa, d1, r1, .pointer (some ⟨b', 0, none⟩)] 93)
 have n7 := heap_alloc_new y6 (.cells #[kv, .int .u16 v.pc, .int .i64 v.st, .int .i64 v.fa, d1, r1, .pointer (some ⟨b', 0, none⟩)] 93)
 have s5 := hb5.size
 have s6 := hb6.size
 have b6 : Below w.heap.size w y6 := hb5.trans (hb6.mono hb5.size)
 generalize y6.alloc (.cells #[kv, .int .u16 v.pc, .int .i64 v.st, .int .i64 v.fa, d1, r1, .pointer (some ⟨b', 0, none⟩)] 93) = y7 at *
 have hB7 : Below w.heap.size w y7 := b6.trans (b7.mono b6.size)
 have h57 : Below y5.heap.size y5 y7 := hb6.trans (b7.mono hb6.size)
 have s7 := b7.size
 have hl := S.lt_of n7
 have ld := World.ownsRow.lt hd
 have lr := World.ownsRow.lt hr
 refine ⟨⟨n7, ?_, h.code.below hB7, h.clen, S.own_sl S.hU (own_nw hd h57), S.own_sl S.hK (own_nw hr h57), fun k e => ?_, fun k f => by omega, fun f => by omega, h.dl, h.rl, h.wf⟩, ⟨by omega, fun k e => (ld k e).1, fun k e => (lr k e).1, fun k f => by omega⟩, hB7⟩
 ·exact (hm.mono (G := fun k => y5.heap.size <= k /\ k < y6.heap.size) fun i hi f => ⟨f, hi⟩).below b7
 ·rcases e with e | e | e
  ·have := (h.ck k (.inl e)).1
   exact ⟨by omega, by omega, by rintro ⟨f, _⟩; omega⟩
  ·have := ld k e
   exact ⟨by omega, by omega, by rintro ⟨f, _⟩; omega⟩
  ·have := lr k e
   exact ⟨by omega, by omega, by rintro ⟨f, _⟩; omega⟩
theorem rcopy8 (g b : Nat) (kv dv rv : Value) (F : Nat -> Prop) (v : VS) (ht : v.m.tones.length <= 1000000) (w : World) (h : RX w g b kv dv rv F v) :
  Calls Tryz.prog 30 #[.pointer (some ⟨g, 0, none⟩)] w fun e w' => ∃ g' b' dv' rv' F', e = .returned (.pointer (some ⟨g', 0, none⟩)) /\ RX w' g' b' kv dv' rv' F' v /\ RFr w.heap.size g' dv' rv' F' /\ Below w.heap.size w w' := by
 obtain ⟨p, cd, hdv, hcd, _⟩ := h.d.ex
 obtain ⟨q, cr, hrv, hcr, _⟩ := h.r.ex
 subst hdv hrv
 have hdl := h.dl
 have hrl := h.rl
 have c1 := h.c1
 have c2 := h.c2
 have c3 := h.c3
 have c4 := h.c4
 have c5 := h.c5
 obtain ⟨nd, hnd⟩ : ∃ n, v.D.length = n := ⟨_, rfl⟩
 obtain ⟨nr, hnr⟩ : ∃ n, v.R.length = n := ⟨_, rfl⟩
 rw [hnd] at c4 hdl hcd
 rw [hnr] at c5 hrl hcr
 have HN : Hid _ := And.intro hnd hnr
 have HX : Hid _ := h
 clear h hnd hnr
 obtain ⟨y1, hy1⟩ : ∃ y, w.alloc (.cells #[.int .u16 v.pc, .int .i64 v.st, .int .i64 v.fa, .slice p nd cd, .slice q nr cr] 55) = y := ⟨_, rfl⟩
 have n1 : y1.heap[w.heap.size]? = some (.cells [.int .u16 v.pc, .int .i64 v.st, .int .i64 v.fa, .slice p nd cd, .slice q nr cr].toArray 55 (0, 0)) := by rw [<- hy1]; exact heap_alloc_new w _
 have b1 : Below w.heap.size w y1 := by rw [<- hy1]; exact P.bel_alloc w _
 have s1 : w.heap.size < y1.heap.size := S.lt_of n1
 obtain ⟨y2, hy2⟩ : ∃ y, y1.alloc (.cells #[] 23) = y := ⟨_, rfl⟩
 have b2 : Below y1.heap.size y1 y2 := by rw [<- hy2]; exact P.bel_alloc y1 _
 have own2 := S.own_empty y1 23 1
 rw [hy2] at own2
 have n2 := (b2.block _ s1).trans n1
 have e3 := S.cell_of y2 _ 3 _ _ _ n2 rfl
 have e3' : (y1.alloc (.cells #[] 23)).cell? ⟨w.heap.size, 3, none⟩ = some (.slice p nd cd) := by rw [hy2]; exact e3
 have lsD := (HX.out.below (b1.trans (b2.mono b1.size))).d
 rw [HN.out.1] at lsD
 have cs2 : S.Cs y2 (.slice p nd cd) 1 nd (S.en S.eU v.D) := by have := S.Ls.cs S.hU (by decide) S.oneU lsD; rw [HN.out.1] at this; exact this
 have z2 : y1.heap.size <= y2.heap.size := b2.size
 have bound1 : (0 + nd) * 2 <= S.room := by unfold S.room; omega
 have bound2 : 0 + nd <= maxLen := by unfold maxLen; omega
 have HY1 : Hid _ := hy1
 have HY2 : Hid _ := hy2
 have H1 : Hid _ := And.intro n1 (And.intro b1 s1)
 have HB2 : Hid _ := b2
 have HN2 : Hid _ := n2
 clear n1 b1 lsD hy1 hy2 b2 n2
 go_enter Tryz.func30, Tryz.ntmps30
 go_upto_region 2 with fail
 rw [HY1.out]
 clear c1 c2 c3 c4 c5
 go_wp2_with (first | (at_builtin; rw [HY2.out]; refine S.wpList_append_row _ rfl _ _ 43 23 _ 1 2 Tryz.underlying43 S.info32 rfl (by decide) rfl y1.heap.size _ 0 [] rfl own2 _ nd _ rfl cs2 bound1 bound2 z2 ?_))
 intro d1 y3 od gd
 try simp only [Nat.zero_add, List.nil_append] at od
 clear e3 e3' cs2 bound1 bound2 z2
 obtain ⟨pd, cd1, hd1⟩ := own_fm od
 subst hd1
 have b3 : Below y1.heap.size y1 y3 := gd.belowAll (fun g e => by rw [show g = y1.heap.size by simpa [Value.ownBlock] using e.symm]; exact Nat.le_refl _) HB2.out (Nat.le_refl _)
 have n3 := (b3.block _ H1.out.2.2).trans H1.out.1
 have a3 := S.cell_of y3 _ 3 _ _ _ n3 rfl
 have f3 := S.frozen_of y3 _ 3 _ _ n3
 have n3' := S.setCell_heap y3 _ 3 _ _ (.slice pd nd cd1) n3
 obtain ⟨y4, hy4⟩ : ∃ y, y3.setCell ⟨w.heap.size, 3, none⟩ (.slice pd nd cd1) = y := ⟨_, rfl⟩
 rw [hy4] at n3'
 have n4 : y4.heap[w.heap.size]? = some (.cells [.int .u16 v.pc, .int .i64 v.st, .int .i64 v.fa, .slice pd nd cd1, .slice q nr cr].toArray 55 (0, 0)) := n3'
 have o4 : ∀ k, k ≠ w.heap.size -> y4.heap[k]? = y3.heap[k]? := fun k hk => by rw [<- hy4]; exact S.setCell_other _ _ _ _ _ hk
 have z4 : y4.heap.size = y3.heap.size := by rw [<- hy4]; exact S.setCell_size _ _ _
 have b4 : Below w.heap.size w y4 := by
  have q3 := H1.out.2.1.trans (b3.mono H1.out.2.1.size); exact ⟨by rw [<- hy4]; exact q3.os, by rw [<- hy4]; exact q3.tape, by rw [<- hy4]; exact q3.output, by rw [z4]; exact q3.size, fun k hk => (o4 k (by omega)).trans (q3.block k hk)⟩
 have od4 : y4.ownsRow y1.heap.size 23 1 (.slice pd nd cd1) nd (S.en S.eU v.D) := S.own_kept od fun k e _ => o4 k (by have := (World.ownsRow.lt od k e).1; have := H1.out.2.2; omega)
 have s4 : w.heap.size < y4.heap.size := S.lt_of n4
 obtain ⟨y5, hy5⟩ : ∃ y, y4.alloc (.cells #[] 101) = y := ⟨_, rfl⟩
 have b5 : Below y4.heap.size y4 y5 := by rw [<- hy5]; exact P.bel_alloc y4 _
 have own5 := S.own_empty y4 101 2
 rw [hy5] at own5
 have n5 := (b5.block _ s4).trans n4
 have e4' : (y4.alloc (.cells #[] 101)).cell? ⟨w.heap.size, 4, none⟩ = some (.slice q nr cr) := by rw [hy5]; exact S.cell_of y5 _ 4 _ _ _ n5 rfl
 have lsR := (HX.out.below (b4.trans (b5.mono b4.size))).r
 rw [HN.out.2] at lsR
 have cs5 : S.Cs y5 (.slice q nr cr) 2 nr (S.en S.eK v.R) := by have := S.Ls.cs S.hK (by decide) S.oneK lsR; rw [HN.out.2] at this; exact this
 have z5 : y4.heap.size <= y5.heap.size := b5.size
 have bound1 : (0 + nr) * 16 <= S.room := by unfold S.room; omega
 have bound2 : 0 + nr <= maxLen := by unfold maxLen; omega
 have HY4 : Hid _ := hy4
 have HY5 : Hid _ := hy5
 have H4 : Hid _ := And.intro n4 (And.intro b4 (And.intro s4 od4))
 have HB5 : Hid _ := b5
 clear n3 n3' n4 o4 z4 b4 od4 b5 n5 lsR hy4 hy5 od gd b3 own2
 go_upto_region 3 with fail
 rw [HY4.out]
 clear a3 f3
 go_wp2_with (first | (at_builtin; rw [HY5.out]; refine S.wpList_append_row _ rfl _ _ 44 101 _ 2 16 Tryz.underlying44 S.info43 rfl (by decide) rfl y4.heap.size _ 0 [] rfl own5 _ nr _ rfl cs5 bound1 bound2 z5 ?_))
 intro r1 y6 orr gr
 try simp only [Nat.zero_add, List.nil_append] at orr
 clear e4' cs5 bound1 bound2 z5
 obtain ⟨pr, cr1, hr1⟩ := own_fm orr
 subst hr1
 have b6 : Below y4.heap.size y4 y6 := gr.belowAll (fun g e => by rw [show g = y4.heap.size by simpa [Value.ownBlock] using e.symm]; exact Nat.le_refl _) HB5.out (Nat.le_refl _)
 have n6 := (b6.block _ H4.out.2.2.1).trans H4.out.1
 have a4 := S.cell_of y6 _ 4 _ _ _ n6 rfl
 have f4 := S.frozen_of y6 _ 4 _ _ n6
 have n6' := S.setCell_heap y6 _ 4 _ _ (.slice pr nr cr1) n6
 obtain ⟨y7, hy7⟩ : ∃ y, y6.setCell ⟨w.heap.size, 4, none⟩ (.slice pr nr cr1) = y := ⟨_, rfl⟩
 rw [hy7] at n6'
 have n7 : y7.heap[w.heap.size]? = some (.cells [.int .u16 v.pc, .int .i64 v.st, .int .i64 v.fa, .slice pd nd cd1, .slice pr nr cr1].toArray 55 (0, 0)) := n6'
 have o7 : ∀ k, k ≠ w.heap.size -> y7.heap[k]? = y6.heap[k]? := fun k hk => by rw [<- hy7]; exact S.setCell_other _ _ _ _ _ hk
 have z7 : y7.heap.size = y6.heap.size := by rw [<- hy7]; exact S.setCell_size _ _ _
 have b7 : Below w.heap.size w y7 := by
  have q6 := H4.out.2.1.trans (b6.mono H4.out.2.1.size); exact ⟨by rw [<- hy7]; exact q6.os, by rw [<- hy7]; exact q6.tape, by rw [<- hy7]; exact q6.output, by rw [z7]; exact q6.size, fun k hk => (o7 k (by omega)).trans (q6.block k hk)⟩
 have od7 : y7.ownsRow w.heap.size 23 1 (.slice pd nd cd1) nd (S.en S.eU v.D) := S.own_mono (S.own_kept (own_nw H4.out.2.2.2 b6) fun k e _ => o7 k (by have := (World.ownsRow.lt H4.out.2.2.2 k e).1; have := H1.out.2.2; omega)) (by have := H1.out.2.2; omega)
 have or7 : y7.ownsRow w.heap.size 101 2 (.slice pr nr cr1) nr (S.en S.eK v.R) := S.own_mono (S.own_kept orr fun k e _ => o7 k (by have := (World.ownsRow.lt orr k e).1; have := H4.out.2.2.1; omega)) (by have := H4.out.2.2.1; omega)
 have s7 : w.heap.size < y7.heap.size := S.lt_of n7
 have HY7 : Hid _ := hy7
 have H7 : Hid _ := And.intro b7 (And.intro od7 or7)
 have hS : ∀ X : World, Below y7.heap.size y7 X -> (fun wz : World => wz.cell? ⟨g, 0, none⟩ = some kv /\ wz.cell? ⟨g, 6, none⟩ = some (.pointer (some ⟨b, 0, none⟩)) /\ wz.cell? ⟨w.heap.size, 0, none⟩ = some (.int .u16 v.pc) /\ wz.cell? ⟨w.heap.size, 1, none⟩ = some (.int .i64 v.st) /\ wz.cell? ⟨w.heap.size, 2, none⟩ = some (.int .i64 v.fa) /\ wz.cell? ⟨w.heap.size, 3, none⟩ = some (.slice pd nd cd1) /\ wz.cell? ⟨w.heap.size, 4, none⟩ = some (.slice pr nr cr1)) X := fun X hX => by
  have hg := HX.out.below (b7.trans (hX.mono b7.size)); have hn := (hX.block _ s7).trans n7; exact ⟨hg.c0, hg.c6, S.cell_of X _ 0 _ _ _ hn rfl, S.cell_of X _ 1 _ _ _ hn rfl, S.cell_of X _ 2 _ _ _ hn rfl, S.cell_of X _ 3 _ _ _ hn rfl, S.cell_of X _ 4 _ _ _ hn rfl⟩
 have HS : Hid _ := hS
 have HBd : Hid (Below y7.heap.size y7 y7.drew) := ⟨rfl, rfl, rfl, Nat.le_refl _, fun _ _ => rfl⟩
 have kM := M.rcopy_is b y7.drew (HX.out.below (b7.trans (HBd.out.mono b7.size))).mem ht
 clear n6 n6' n7 o7 z7 b7 od7 or7 s7 hy7 b6 orr gr own5 hS
 obtain ⟨kp, kc, hkv, _⟩ := HX.out.code.ex
 subst hkv
 go_upto_region 4 with fail
 rw [HY7.out]
 clear a4 f4 HY1 HY2 HY4 HY5 HY7 HB2 HB5 HN2 H4 H1
 refine V.wrh HS.out HBd.out (by kernel_rfl) (fun hHeld => ?_)
 generalize y7.drew = yd at *
 refine wtk0 (is := [0, 1, 2, 3, 4, 5, 6, 7, 8]) ?_
 iterate 9
  refine V.wt (v := ?_) rfl (by kernel_rfl) (fun c a w h => h) (by rfl) ?_ hHeld ?_
  rotate_left
  ·(intro w hSw; (try dsimp only at hSw); go_simp; try with_reducible rfl)
  simp only [V.pts]
 refine wtkE ?_
 refine V.wrd 9 (by kernel_rfl) rfl fun K hK => ?_
 go_simp
 refine kM.mono ?_
 rintro e y8 ⟨b', rfl, hR8, hb8⟩
 dsimp only
 have H8 : Hid _ := And.intro hR8 hb8
 clear hR8 hb8
 refine hK.out _ _ (HS.out y8 (HBd.out.trans (H8.out.2.mono HBd.out.size))) (fun hHeld => ?_)
 clear hK K
 try simp only [V.pts]
 refine V.wt1 10 (v := ?_) rfl (by kernel_rfl) (fun c a w h => h) (by rfl) ?_ hHeld ?_
 rotate_left
 ·(intro w hSw; (try dsimp only at hSw); go_simp; try with_reducible rfl)
 simp only [V.pts]
 refine V.wrd 11 (by kernel_rfl) rfl fun K hK => ?_
 go_simp
 refine hK.out _ _ (HS.out _ (HBd.out.trans ((H8.out.2.trans ((P.bel_alloc y8 _).mono H8.out.2.size)).mono HBd.out.size))) (fun hHeld => ?_)
 clear hK K
 try simp only [V.pts]
 refine V.wt1 12 (v := ?_) rfl (by kernel_rfl) (fun c a w h => h) (by rfl) ?_ hHeld ?_
 rotate_left
 ·(intro w hSw; (try dsimp only at hSw); go_simp; try with_reducible rfl)
 simp only [V.pts]
 refine wpAnyH_done (by kernel_rfl) ?_ _
 clear hHeld
 have hE := rcp_end (d1 := .slice pd nd cd1) (r1 := .slice pr nr cr1) HX.out (H7.out.1.trans (HBd.out.mono H7.out.1.size)) (by rw [HN.out.1]; exact own_nw H7.out.2.1 HBd.out) (by rw [HN.out.2]; exact own_nw H7.out.2.2 HBd.out) H8.out.2 H8.out.1
 have HE : Hid _ := hE
 clear hE
 go_wp2
 go_ret
 exact ⟨_, rfl, _, _, _, _, HE.out⟩
end Go.Proofs.YteldjmecomngeaaGreat.V
