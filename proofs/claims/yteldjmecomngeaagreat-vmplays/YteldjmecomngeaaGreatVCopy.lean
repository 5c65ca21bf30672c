import Derived.Test.YteldjmecomngeaaGreatVNew
import Derived.Test.YteldjmecomngeaaGreatMPCopyKit
import Derived.Test.YteldjmecomngeaaGreatVTks
namespace Go.Proofs.YteldjmecomngeaaGreat.V
open Go.RowKit
open Go.Proofs
set_option linter.unusedVariables false
set_option linter.unusedSimpArgs false
set_option maxHeartbeats 2000000
set_option maxRecDepth 100000
theorem size128 : (Tryz.prog.info? 128).map (·.size) = some 7 := by kernel_rfl
theorem copy_mv (w w3 W5 w6 : World) (g bd br bm bd' br' b' : Nat) (kp : Option Addr) (kc : Nat) (F : Nat -> Prop) (v : VS) (h : MV w g bd br bm (.slice kp v.code.length kc) F v) (hB5 : Below w.heap.size w W5) (o5 : ∀ k, k ≠ w.heap.size -> W5.heap[k]? = w3.heap[k]?) (z5 : W5.heap.size = w3.heap.size)
  (hN6 : w6.heap[w.heap.size]? = some (.cells [.int .u16 v.pc, .int .i64 v.st, .int .i64 v.fa, .pointer (some ⟨bd', 0, none⟩), .pointer (some ⟨br', 0, none⟩), .slice kp v.code.length kc, .pointer (some ⟨bm, 0, none⟩)].toArray 128 (0, 0))) (hD : S.HasD w3 bd' v.D) (hR : S.HasR w3 br' v.R) (l1 : w.heap.size < bd') (l2 : w.heap.size < br') (l3 : bd' ≠ br')
  (hm : M.HasM w6 (fun k => W5.heap.size <= k) b' v.m) (b6 : Below W5.heap.size W5 w6) :
  MV (w6.setCell ⟨w.heap.size, 6, none⟩ (.pointer (some ⟨b', 0, none⟩))) w.heap.size bd' br' b' (.slice kp v.code.length kc) (fun k => W5.heap.size <= k /\ k < w6.heap.size) v /\ (w.heap.size <= w.heap.size /\ w.heap.size <= bd' /\ w.heap.size <= br' /\ ∀ k, (W5.heap.size <= k /\ k < w6.heap.size) -> w.heap.size <= k) /\ Below w.heap.size w (w6.setCell ⟨w.heap.size, 6, none⟩ (.pointer (some ⟨b', 0, none⟩))) := by
 have o7 : ∀ k, k ≠ w.heap.size -> (w6.setCell ⟨w.heap.size, 6, none⟩ (.pointer (some ⟨b', 0, none⟩))).heap[k]? = w6.heap[k]? := fun k hk => S.setCell_other w6 _ _ _ _ hk
 have s5 := hB5.size
 have s6 := b6.size
 have d3 := S.lt_of hD.1
 have r3 := S.lt_of hR.1
 have hB7 : Below w.heap.size w (w6.setCell ⟨w.heap.size, 6, none⟩ (.pointer (some ⟨b', 0, none⟩))) := by
  have q := trB hB5 b6 hB5.size; exact ⟨q.os, q.tape, q.output, by rw [S.setCell_size]; exact q.size, fun k hk => (o7 k (by omega)).trans (q.block k hk)⟩
 have hN : w.heap.size < w6.heap.size := S.lt_of hN6
 have hN5 : w.heap.size < W5.heap.size := by
  have := d3; omega
 refine ⟨⟨S.setCell_heap w6 w.heap.size 6 _ 128 _ hN6, ⟨hD.kept ((o7 _ (by omega)).trans ((b6.block _ (by omega)).trans (o5 _ (by omega)))), hR.kept ((o7 _ (by omega)).trans ((b6.block _ (by omega)).trans (o5 _ (by omega)))), (hm.mono fun i hi e => ⟨e, hi⟩).kept fun k hk f => o7 k (by omega), l3, by rintro ⟨e, _⟩; omega, by rintro ⟨e, _⟩; omega⟩, h.code.below hB7, h.clen, ?_, ?_, ?_, by omega, by omega, by rintro ⟨e, _⟩; omega, h.wf⟩, ⟨Nat.le_refl _, by omega, by omega, by rintro k ⟨e, _⟩; omega⟩, hB7⟩
 ·intro k e; have := h.ck k e; have := hB7.size; omega
 ·intro k e; have := h.ck k e; exact ⟨by omega, by omega, by omega, by rintro ⟨e, _⟩; omega⟩
 ·rintro k ⟨_, e⟩; rw [S.setCell_size]; exact e
theorem copy_any (g bd br bm : Nat) (kv : Value) (F : Nat -> Prop) (v : VS) (hm : S.mayS v.D v.R = true) (ht : v.m.tones.length <= 1000000) (w : World) (h : MV w g bd br bm kv F v) :
  Calls Tryz.prog 19 #[.pointer (some ⟨g, 0, none⟩)] w fun e w' => ∃ g' bd' br' bm' F', e = .returned (.pointer (some ⟨g', 0, none⟩)) /\ MV w' g' bd' br' bm' kv F' v /\ (w.heap.size <= g' /\ w.heap.size <= bd' /\ w.heap.size <= br' /\ ∀ k, F' k -> w.heap.size <= k) /\ Below w.heap.size w w' := by
 obtain ⟨kp, kc, rfl, _⟩ := h.code.ex
 have r1 := heap_alloc_new w (.cells #[.int .u16 v.pc, .int .i64 v.st, .int .i64 v.fa, .pointer (some ⟨bd, 0, none⟩), .pointer (some ⟨br, 0, none⟩), .slice kp v.code.length kc, .pointer (some ⟨bm, 0, none⟩)] 128)
 have b1 := P.bel_alloc w (.cells #[.int .u16 v.pc, .int .i64 v.st, .int .i64 v.fa, .pointer (some ⟨bd, 0, none⟩), .pointer (some ⟨br, 0, none⟩), .slice kp v.code.length kc, .pointer (some ⟨bm, 0, none⟩)] 128)
 have hblk : w.heap[g]? = some (.cells #[.int .u16 v.pc, .int .i64 v.st, .int .i64 v.fa, .pointer (some ⟨bd, 0, none⟩), .pointer (some ⟨br, 0, none⟩), .slice kp v.code.length kc, .pointer (some ⟨bm, 0, none⟩)] 128 (0, 0)) := h.blk
 have hM := h.below b1
 generalize hW : w.alloc (.cells #[.int .u16 v.pc, .int .i64 v.st, .int .i64 v.fa, .pointer (some ⟨bd, 0, none⟩), .pointer (some ⟨br, 0, none⟩), .slice kp v.code.length kc, .pointer (some ⟨bm, 0, none⟩)] 128) = W at *
 have hB1 : Below W.heap.size W W.drew := ⟨rfl, rfl, rfl, Nat.le_refl _, fun _ _ => rfl⟩
 have hM1 := hM.below hB1
 have s0 := And.intro hM1.c3 hM1.c4
 have k1 := S.dcells bd v.D W.drew hM1.ps.d
 have hs : w.heap.size < W.heap.size := S.lt_of r1
 have hsd : w.heap.size < W.drew.heap.size := hs
 have HRd := S.hid (show W.drew.heap[w.heap.size]? = some (.cells [.int .u16 v.pc, .int .i64 v.st, .int .i64 v.fa, .pointer (some ⟨bd, 0, none⟩), .pointer (some ⟨br, 0, none⟩), .slice kp v.code.length kc, .pointer (some ⟨bm, 0, none⟩)].toArray 128 (0, 0)) from r1)
 have HM := S.hid hM1
 have hBd := S.hid hB1
 have HB := S.hid b1
 have HR := S.hid r1
 have H0 := S.hid h
 have HMS := S.hid hm
 clear h hM hM1 b1 r1 hm
 go_enter Tryz.func19, Tryz.ntmps19
 go_wp2_with (refine wpList_load_row rfl 128 _ rfl g rfl 128 _ (0, 0) _ hblk Tryz.underlying128 rfl (by exact size128) ?_)
 try rw [hW]
 clear hblk
 refine wp_region_held_drew (S := (fun w' => w'.cell? ⟨g, 3, none⟩ = some (.pointer (some ⟨bd, 0, none⟩)) /\ w'.cell? ⟨g, 4, none⟩ = some (.pointer (some ⟨br, 0, none⟩)))) (by kernel_rfl) s0 (fun hHeld => ?_)
 generalize hWd : W.drew = Wd at *
 refine V.wtk0 (is := [0, 1, 2, 3, 4, 6, 7, 8, 9, 10]) ?_
 iterate 10
  refine V.wt (v := ?_) rfl (by kernel_rfl) (fun c a w h => h) (by rfl) ?_ hHeld ?_
  rotate_left
  ·(intro w hSw; (try dsimp only at hSw); go_simp; try with_reducible rfl)
  simp only [Act.put, List.setIfInBounds_toArray, List.set_cons_zero, List.set_cons_succ]
 refine V.wtkE ?_
 refine V.wrd 5 (by kernel_rfl) rfl fun K hK => ?_
 go_simp
 refine k1.mono ?_
 rintro e w1 ⟨u1, rfl, r1, b1⟩
 obtain ⟨p1, c1, rfl⟩ := own_form r1
 have hM1 := HM.out.below b1
 have s1 := And.intro hM1.c3 hM1.c4
 have k2 := S.rcells br v.R w1 hM1.ps.r
 have HM1 := S.hid hM1
 have HU1 := S.hid (show S.RowU w1 Wd.heap.size (.slice p1 v.D.length c1) v.D from r1)
 have Hb1 := S.hid (show Below Wd.heap.size Wd w1 from b1)
 clear k1 r1 b1 hM1 s0
 refine hK.out _ _ s1 (fun hHeld => ?_)
 clear hK K
 try simp only [Act.put, List.setIfInBounds_toArray, List.set_cons_zero, List.set_cons_succ]
 refine V.wrd 11 (by kernel_rfl) rfl fun K hK => ?_
 go_simp
 refine k2.mono ?_
 rintro e w2 ⟨u2, rfl, r2, b2⟩
 obtain ⟨p2, c2, rfl⟩ := own_form r2
 have hM2 := HM1.out.below b2
 have s2 := And.intro hM2.c3 hM2.c4
 obtain ⟨p1', c1', e1', _, sl1⟩ := (S.RowU.ls (show S.RowU w2 Wd.heap.size (.slice p1 v.D.length c1) v.D from S.own_kept HU1.out fun k _ hk => b2.block k hk)).ex
 obtain ⟨p2', c2', e2', _, sl2⟩ := (S.RowK.ls (show S.RowK w2 w1.heap.size (.slice p2 v.R.length c2) v.R from r2)).ex
 cases e1'
 cases e2'
 have hd := hM2.ps.d.2
 have hr := hM2.ps.r.2
 have k3 := S.stacks_any p1 p2 c1 c2 v.D v.R (Nat.le_trans hd (by unfold S.room; omega)) (Nat.le_trans hr (by unfold S.room; omega)) w2 sl1 sl2
 have HM2 := S.hid hM2
 have Hb2 := S.hid (show Below Wd.heap.size Wd w2 from trB Hb1.out b2 Hb1.out.size)
 clear k2 r2 b2 hM2 s1 sl1 sl2 hd hr
 refine hK.out _ _ s2 (fun hHeld => ?_)
 clear hK K
 try simp only [Act.put, List.setIfInBounds_toArray, List.set_cons_zero, List.set_cons_succ]
 refine V.wrd 12 (by kernel_rfl) rfl fun K hK => ?_
 go_simp
 refine k3.mono ?_
 rintro e w3 ⟨b3, h3⟩
 rcases h3 with ⟨_, bd', br', rfl, hD3, hR3, l1, l2, l3⟩ | ⟨q, _⟩
 case inr => rw [HMS.out] at q; cases q
 have hM3 := HM2.out.below b3
 have s3 := And.intro hM3.c3 hM3.c4
 have hN3 : w3.heap[w.heap.size]? = some (.cells [.int .u16 v.pc, .int .i64 v.st, .int .i64 v.fa, .pointer (some ⟨bd, 0, none⟩), .pointer (some ⟨br, 0, none⟩), .slice kp v.code.length kc, .pointer (some ⟨bm, 0, none⟩)].toArray 128 (0, 0)) := (b3.block _ (Nat.lt_of_lt_of_le hsd Hb2.out.size)).trans ((Hb2.out.block _ hsd).trans HRd.out)
 have x3 := S.cell_of w3 _ 3 _ _ _ hN3 rfl
 have f3 := S.frozen_of w3 _ 3 _ _ hN3
 have hN4 := S.setCell_heap w3 w.heap.size 3 _ 128 (.pointer (some ⟨bd', 0, none⟩)) hN3
 have x4 := S.cell_of _ _ 4 _ _ _ hN4 rfl
 have f4 := S.frozen_of _ _ 4 _ _ hN4
 have hN5 := S.setCell_heap _ w.heap.size 4 _ 128 (.pointer (some ⟨br', 0, none⟩)) hN4
 have hgN : g ≠ w.heap.size := Nat.ne_of_lt H0.out.lt
 have s4 : (fun w' => w'.cell? ⟨g, 3, none⟩ = some (.pointer (some ⟨bd, 0, none⟩)) /\ w'.cell? ⟨g, 4, none⟩ = some (.pointer (some ⟨br, 0, none⟩))) (w3.setCell ⟨w.heap.size, 3, none⟩ (.pointer (some ⟨bd', 0, none⟩))) := ⟨(World.cell?_of_block (a := ⟨g, 3, none⟩) (S.setCell_other w3 _ _ _ _ hgN)).trans s3.1, (World.cell?_of_block (a := ⟨g, 4, none⟩) (S.setCell_other w3 _ _ _ _ hgN)).trans s3.2⟩
 have s5 : (fun w' => w'.cell? ⟨g, 3, none⟩ = some (.pointer (some ⟨bd, 0, none⟩)) /\ w'.cell? ⟨g, 4, none⟩ = some (.pointer (some ⟨br, 0, none⟩))) ((w3.setCell ⟨w.heap.size, 3, none⟩ (.pointer (some ⟨bd', 0, none⟩))).setCell ⟨w.heap.size, 4, none⟩ (.pointer (some ⟨br', 0, none⟩))) := ⟨(World.cell?_of_block (a := ⟨g, 3, none⟩) (S.setCell_other _ _ _ _ _ hgN)).trans s4.1, (World.cell?_of_block (a := ⟨g, 4, none⟩) (S.setCell_other _ _ _ _ _ hgN)).trans s4.2⟩
 have HM3 := S.hid hM3
 have HN5 := S.hid hN5
 have HX := S.hid (And.intro hD3 (And.intro hR3 (And.intro l1 (And.intro l2 l3))))
 have Hb3 := S.hid (show Below w2.heap.size w2 w3 from b3)
 clear k3 b3 hM3 s2 hN3 hN4 hN5 hD3 hR3 l1 l2 l3
 refine hK.out _ _ s3 (fun hHeld => ?_)
 clear hK K
 try simp only [Act.put, List.setIfInBounds_toArray, List.set_cons_zero, List.set_cons_succ]
 refine V.wtk0 (is := [13, 14, 15, 16, 17, 18]) ?_
 iterate 6
  refine V.wt (v := ?_) rfl (by kernel_rfl) (fun c a w h => h) (by rfl) ?_ hHeld ?_
  rotate_left
  ·(intro w hSw; (try dsimp only at hSw); go_simp; try with_reducible rfl)
  simp only [Act.put, List.setIfInBounds_toArray, List.set_cons_zero, List.set_cons_succ]
 refine V.wtkE ?_
 refine V.wrd 19 (by kernel_rfl) rfl fun K hK => ?_
 go_simp
 refine hK.out _ _ s4 (fun hHeld => ?_)
 clear hK K
 refine V.wt1 20 (v := ?_) rfl (by kernel_rfl) (fun c a w h => h) (by rfl) ?_ hHeld ?_
 rotate_left
 ·(intro w hSw; (try dsimp only at hSw); go_simp; try with_reducible rfl)
 simp only [Act.put, List.setIfInBounds_toArray, List.set_cons_zero, List.set_cons_succ]
 refine V.wt1 21 (v := ?_) rfl (by kernel_rfl) (fun c a w h => h) (by rfl) ?_ hHeld ?_
 rotate_left
 ·(intro w hSw; (try dsimp only at hSw); go_simp; try with_reducible rfl)
 simp only [Act.put, List.setIfInBounds_toArray, List.set_cons_zero, List.set_cons_succ]
 refine V.wrd 22 (by kernel_rfl) rfl fun K hK => ?_
 go_simp
 refine hK.out _ _ s5 (fun hHeld => ?_)
 clear hK K
 refine wpAnyH_done (by kernel_rfl) ?_ _
 clear hHeld s3 s4 s5 x3 x4 f3 f4
 have hB3 : Below w.heap.size w w3 := trB (trB (trB HB.out hBd.out HB.out.size) Hb2.out (Nat.le_of_lt hsd)) Hb3.out (Nat.le_trans (Nat.le_of_lt hsd) Hb2.out.size)
 obtain ⟨W5, hW5⟩ : ∃ W5, W5 = (w3.setCell ⟨w.heap.size, 3, none⟩ (.pointer (some ⟨bd', 0, none⟩))).setCell ⟨w.heap.size, 4, none⟩ (.pointer (some ⟨br', 0, none⟩)) := ⟨_, rfl⟩
 have o5 : ∀ k, k ≠ w.heap.size -> W5.heap[k]? = w3.heap[k]? := fun k hk => by rw [hW5, S.setCell_other _ _ _ _ _ hk, S.setCell_other _ _ _ _ _ hk]
 have z5 : W5.heap.size = w3.heap.size := by rw [hW5, S.setCell_size, S.setCell_size]
 have hB5 : Below w.heap.size w W5 := ⟨by rw [hW5]; exact hB3.os, by rw [hW5]; exact hB3.tape, by rw [hW5]; exact hB3.output, by rw [z5]; exact hB3.size, fun k hk => (o5 k (by omega)).trans (hB3.block k hk)⟩
 have hM5 := H0.out.below hB5
 have c6 := hM5.c6
 have k5 := M.copy_any bm W5 hM5.ps.m ht
 have hN5 := HN5.out
 rw [<- hW5] at hN5
 rw [<- hW5]
 have HF := S.hid (And.intro hB5 (And.intro o5 (And.intro z5 hN5)))
 clear hB3 hW5 o5 z5 hB5 hM5 hN5 HN5
 go_wp2_with fail
 refine k5.mono ?_
 rintro e w6 ⟨b', rfl, hm6, b6⟩
 have hN6 : w6.heap[w.heap.size]? = some (.cells [.int .u16 v.pc, .int .i64 v.st, .int .i64 v.fa, .pointer (some ⟨bd', 0, none⟩), .pointer (some ⟨br', 0, none⟩), .slice kp v.code.length kc, .pointer (some ⟨bm, 0, none⟩)].toArray 128 (0, 0)) := (b6.block _ (S.lt_of HF.out.2.2.2)).trans HF.out.2.2.2
 have x6 := S.cell_of w6 _ 6 _ _ _ hN6 rfl
 have f6 := S.frozen_of w6 _ 6 _ _ hN6
 have hfin := copy_mv w w3 W5 w6 g bd br bm bd' br' b' kp kc F v H0.out HF.out.1 HF.out.2.1 HF.out.2.2.1 hN6 HX.out.1 HX.out.2.1 (Nat.lt_of_lt_of_le hsd (Nat.le_trans Hb2.out.size HX.out.2.2.1)) (Nat.lt_of_lt_of_le hsd (Nat.le_trans Hb2.out.size HX.out.2.2.2.1)) HX.out.2.2.2.2 hm6 b6
 have HG := S.hid hfin
 clear hfin hm6 b6 k5 c6 hN6
 go_wp2
 go_ret
 exact ⟨w.heap.size, bd', br', b', _, rfl, HG.out⟩
set_option maxHeartbeats 2000000
set_option maxRecDepth 100000
theorem memory_any (g bd br bm : Nat) (kv : Value) (F : Nat -> Prop) (v : VS) (w : World) (h : MV w g bd br bm kv F v) : Calls Tryz.prog 18 #[.pointer (some ⟨g, 0, none⟩)] w fun e w' => e = .returned (.pointer (some ⟨bm, 0, none⟩)) /\ w' = w := by
 have c6 := h.c6
 clear h
 go_enter Tryz.func18, Tryz.ntmps18
 go_wp2
 go_ret
 exact ⟨rfl, rfl⟩
theorem neq_cell (W : World) (k x : Int) : (binOp .neq 101 (.agg #[.int .i64 k, .int .u16 x]) (.agg #[.int .i64 k, .int .u16 x])).run Tryz.prog W = .ok (.bool false) W := by
 have hs : Tryz.prog.underlying 101 = some (.struct (Tryz.prog.fieldsOf 101)) := by kernel_rfl
 have hf : Tryz.prog.fieldsOf 101 = #[⟨ "Kind", 3, 0, false, "", "", 0⟩, ⟨ "Value", 23, 1, false, "", "", 8⟩] := by kernel_rfl
 have hp : Tryz.prog.stoodInHeld 101 = false := by kernel_rfl
 have k1 : Tryz.prog.cellsOf 23 = 1 := by kernel_rfl
 have k2 : Tryz.prog.cellsOf 3 = 1 := by kernel_rfl
 rw [run_neq_struct, run_equalIn_agg W 9999 _ _ _ hs hp, hf]
 simp [go_sem, Tryz.underlying23, Tryz.underlying3, k1, k2, Result.andThen]
set_option maxHeartbeats 2000000
set_option maxRecDepth 100000
def it : Nat -> VS -> Int -> VS × Int
 | 0, u, s => (u, s)
 | i + 1, u, s => it i (doo (look u).op (look u).x (cyc s u)).2 (s + P.rc (look u).op)
set_option maxHeartbeats 2000000
set_option maxRecDepth 100000
theorem MV.kept {W W' : World} {g bd br bm : Nat} {kv : Value} {F : Nat -> Prop} {v : VS} (h : MV W g bd br bm kv F v) (hs : W.heap.size <= W'.heap.size) (k : ∀ i, i < W.heap.size -> (TV g bd br F i \/ kv.ownBlock = some i) -> W'.heap[i]? = W.heap[i]?) : MV W' g bd br bm kv F v :=
 { h with
  blk := (k _ h.lt (.inl (.inl rfl))).trans h.blk
  ps := ⟨h.ps.d.kept (k _ h.lt_d (.inl (.inr (.inl rfl)))), h.ps.r.kept (k _ h.lt_r (.inl (.inr (.inr (.inl rfl))))), h.ps.m.kept fun i hi f => k i hi (.inl (.inr (.inr (.inr f)))), h.ps.dr, h.ps.fd, h.ps.fr⟩
  code := sl_kept h.code fun i e hi => k i hi (.inr e)
  ck := fun i e => Nat.lt_of_lt_of_le (h.ck i e) hs
  fb := fun i e => Nat.lt_of_lt_of_le (h.fb i e) hs }
theorem MV.tv_lt {W : World} {g bd br bm : Nat} {kv : Value} {F : Nat -> Prop} {v : VS} (h : MV W g bd br bm kv F v) (k : Nat) (e : TV g bd br F k) : k < W.heap.size := by
 rcases e with rfl | rfl | rfl | e
 ·exact h.lt
 ·exact h.lt_d
 ·exact h.lt_r
 ·exact h.fb k e
theorem MV.code_no {W : World} {g bd br bm : Nat} {kv : Value} {F : Nat -> Prop} {v : VS} (h : MV W g bd br bm kv F v) (k : Nat) (e : kv.ownBlock = some k) : ¬ TV g bd br F k := by
 obtain ⟨a, b, c, d⟩ := h.cb k e
 rintro (q | q | q | q)
 ·exact a q
 ·exact b q
 ·exact c q
 ·exact d q
section
variable {n : Nat} {W W' : World} {g bd br bm g' bd' br' bm' : Nat} {kv : Value} {F F' : Nat -> Prop} {u u' v : VS}
end
section
variable {w wo wc w2 : World} {lo g bd br bm g' bd' br' bm' : Nat} {kv : Value} {F G : Nat -> Prop} {u x y : VS}
end
set_option maxHeartbeats 2000000
set_option maxRecDepth 100000
def okS (st fa : Int) : Prop := (st = 1 /\ fa = 0) \/ (st = 2 /\ fa = 0) \/ (st = 3 /\ 1 <= fa /\ fa <= 7)
theorem statusMayBe_yes (st fa : Int) (h : okS st fa) (w : World) : Calls Tryz.prog 92 #[.int .i64 st, .int .i64 fa] w fun e w' => e = .returned (.bool true) /\ w' = w := by
 rcases h with ⟨rfl, rfl⟩ | ⟨rfl, rfl⟩ | ⟨rfl, h1, h2⟩
 ·go_enter Tryz.func92, Tryz.ntmps92
  go_wp2; go_ret; exact ⟨rfl, rfl⟩
 ·go_enter Tryz.func92, Tryz.ntmps92
  go_wp2; go_ret; exact ⟨rfl, rfl⟩
 ·have d1 : decide (1 <= fa) = true := decide_eq_true h1
  have d2 : decide (fa <= 7) = true := decide_eq_true h2
  go_enter Tryz.func92, Tryz.ntmps92; go_wp2; go_ret; exact ⟨rfl, rfl⟩
theorem sameNumbers_yes (p q : Option Addr) (cp cq : Nat) (xs bs : List (Int × List UInt8)) (hl : xs.length <= 1000) (h : xs.map Prod.fst = bs.map Prod.fst) (w : World) (h1 : M.BnS w p xs) (h2 : M.BnS w q bs) :
  Calls Tryz.prog 56 #[.slice p xs.length cp, .slice q bs.length cq] w fun e w' => e = .returned (.bool true) /\ ∃ n, w' = w.drewN n := by
 have hlen : bs.length = xs.length := by have := congrArg List.length h; simpa using this.symm
 rw [hlen]
 go_enter Tryz.func56, Tryz.ntmps56
 go_wp2
 go_loopw [13] (fun i wr => ∃ k n : Nat, k <= xs.length /\ i = .int .i64 (k : Int) /\ wr = w.drewN n) (fun i _ => xs.length - (intOf i).toNat)
 case atStart => exact ⟨0, 0, by omega, rfl, rfl⟩
 case round =>
  obtain ⟨k, n, hk, rfl, rfl⟩ := hrel
  by_cases hlt : k < xs.length
  ·have i1 : (k : Int) < xs.length := by omega
   have hlt2 : k < bs.length := by omega
   have he : (xs[k]).1 = (bs[k]).1 := by
    have := congrArg (fun l => l[k]?) h
    simpa [List.getElem?_map, List.getElem?_eq_getElem hlt, List.getElem?_eq_getElem hlt2] using this
   obtain ⟨b, o, dv, rfl, e1, _, _, _⟩ := h1 k xs[k] (List.getElem?_eq_getElem hlt); obtain ⟨b', o', dv', rfl, f1, _, _, _⟩ := h2 k bs[k] (List.getElem?_eq_getElem hlt2); rw [<- he] at f1; generalize (xs[k]).1 = t at *
   have g1 : ∀ q, (w.drewN q).cell? ⟨b, o + k * 2, none⟩ = some (.int .i64 t) := fun q => e1
   have g4 : ∀ q, (w.drewN q).cell? ⟨b', o' + k * 2, none⟩ = some (.int .i64 t) := fun q => f1
   have w1' : wrap64 ((k : Int) + 1) = ((k + 1 : Nat) : Int) := by simp [wrap64]; omega
   clear h1 h2 h he; go_wp2_with fail
   go_quiet (fail)
   go_wp2; go_roundw
   case rel =>
    first
     | exact ⟨k + 1, _, hlt, (by first | rfl | rw [w1']), rfl⟩
     | ((repeat apply Exists.intro); refine ⟨⟨k + 1, _, hlt, ?_, rfl⟩, rfl⟩; first | rfl | rw [w1'])
   case measure => exact msr2 _ _ _ k (by first | rfl | rw [w1']) rfl hlt
  ·obtain rfl : k = xs.length := by omega
   go_wp2; go_ret; exact ⟨rfl, _, rfl⟩
end Go.Proofs.YteldjmecomngeaaGreat.V
