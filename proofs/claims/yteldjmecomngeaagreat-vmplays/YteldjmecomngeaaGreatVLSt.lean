import Derived.Test.YteldjmecomngeaaGreatVTks
import Derived.Test.YteldjmecomngeaaGreatVRCp8
import Derived.Test.YteldjmecomngeaaGreatVState
namespace Go.Proofs.YteldjmecomngeaaGreat.V
open Go.RowKit
open Go.Proofs
set_option linter.unusedVariables false
set_option linter.unusedSimpArgs false
set_option maxHeartbeats 8000000
set_option maxRecDepth 100000
theorem limage_any (p rp sp : Option Addr) (n c rn rc sn sc' : Nat) (m : M.MS) (w : World) :
  Calls Tryz.prog 37 #[.agg #[.slice p n c, .slice rp rn rc, .slice sp sn sc', .int .u8 m.ch, .int .u8 m.pad, .int .u16 m.pitch, .int .u8 m.vol, .int .u16 m.time]] w fun e w' => e = .returned (.agg #[.slice p n c, .slice rp rn rc, .slice sp sn sc', .int .u8 m.ch, .int .u8 m.pad, .int .u16 m.pitch, .int .u8 m.vol, .int .u16 m.time]) /\ Below w.heap.size w w' := by
 go_enter Tryz.func37, Tryz.ntmps37
 go_wp2
 exact bodyPost_ret (v := .agg #[.slice p n c, .slice rp rn rc, .slice sp sn sc', .int .u8 m.ch, .int .u8 m.pad, .int .u16 m.pitch, .int .u8 m.vol, .int .u16 m.time]) (by simp [results, Tryz.results37, go_sem]) rfl ⟨rfl, ((Below.refl _ w).alloc (Nat.le_refl _) _).alloc (by simp) _⟩
theorem lstate_any (pc st fa : Int) (p q : Option Addr) (cd cr : Nat) (D : List Int) (R : List (Int × Int)) (dl : D.length <= 256) (rl : R.length <= 128) (w : World) (h1 : S.Ls S.eU 1 w (.slice p D.length cd) D) (h2 : S.Ls S.eK 2 w (.slice q R.length cr) R) :
  Calls Tryz.prog 36 #[.agg #[.int .u16 pc, .int .i64 st, .int .i64 fa, .slice p D.length cd, .slice q R.length cr]] w fun e w' => ∃ p1 c1 p2 c2, e = .returned (.agg #[.int .u16 pc, .int .i64 st, .int .i64 fa, .slice p1 D.length c1, .slice p2 R.length c2]) /\ w'.ownsRow w.heap.size 23 1 (.slice p1 D.length c1) D.length (S.en S.eU D) /\ w'.ownsRow w.heap.size 101 2 (.slice p2 R.length c2) R.length (S.en S.eK R) /\ Below w.heap.size w w' := by
 obtain ⟨nd, hnd⟩ : ∃ n, D.length = n := ⟨_, rfl⟩
 obtain ⟨nr, hnr⟩ : ∃ n, R.length = n := ⟨_, rfl⟩
 have l1 := S.Ls.cs S.hU (by decide) S.oneU h1
 have l2 := S.Ls.cs S.hK (by decide) S.oneK h2
 rw [hnd] at l1 dl ⊢
 rw [hnr] at l2 rl ⊢
 obtain ⟨W, hW⟩ : ∃ W, (w.alloc (.cells #[.int .u16 pc, .int .i64 st, .int .i64 fa, .slice p nd cd, .slice q nr cr] 55)).alloc (.cells z5 46) = W := ⟨_, rfl⟩
 have hB : Below w.heap.size w W := by rw [<- hW]; exact ((Below.refl _ w).alloc (Nat.le_refl _) _).alloc (by simp) _
 have n1 : W.heap[w.heap.size]? = some (.cells #[.int .u16 pc, .int .i64 st, .int .i64 fa, .slice p nd cd, .slice q nr cr] 55 (0, 0)) := by rw [<- hW]; exact heap_alloc2_old w _ _
 have n2 : W.heap[w.heap.size + 1]? = some (.cells z5 46 (0, 0)) := by rw [<- hW]; exact heap_alloc2_new w _ _
 have hs2 : w.heap.size + 1 < W.heap.size := S.lt_of n2
 have HBd : Hid (Below W.heap.size W W.drew) := ⟨rfl, rfl, rfl, Nat.le_refl _, fun _ _ => rfl⟩
 have hS : ∀ X : World, X.heap[w.heap.size]? = some (.cells #[.int .u16 pc, .int .i64 st, .int .i64 fa, .slice p nd cd, .slice q nr cr] 55 (0, 0)) -> (fun wz : World => wz.cell? ⟨w.heap.size, 0, none⟩ = some (.int .u16 pc) /\ wz.cell? ⟨w.heap.size, 1, none⟩ = some (.int .i64 st) /\ wz.cell? ⟨w.heap.size, 2, none⟩ = some (.int .i64 fa) /\ wz.cell? ⟨w.heap.size, 3, none⟩ = some (.slice p nd cd) /\ wz.cell? ⟨w.heap.size, 4, none⟩ = some (.slice q nr cr)) X := fun X hX =>
  ⟨S.cell_of X _ 0 [.int .u16 pc, .int .i64 st, .int .i64 fa, .slice p nd cd, .slice q nr cr] _ _ hX rfl, S.cell_of X _ 1 [.int .u16 pc, .int .i64 st, .int .i64 fa, .slice p nd cd, .slice q nr cr] _ _ hX rfl, S.cell_of X _ 2 [.int .u16 pc, .int .i64 st, .int .i64 fa, .slice p nd cd, .slice q nr cr] _ _ hX rfl, S.cell_of X _ 3 [.int .u16 pc, .int .i64 st, .int .i64 fa, .slice p nd cd, .slice q nr cr] _ _ hX rfl, S.cell_of X _ 4 [.int .u16 pc, .int .i64 st, .int .i64 fa, .slice p nd cd, .slice q nr cr] _ _ hX rfl⟩
 have HS : Hid (∀ X : World, Below W.heap.size W X -> (fun wz : World => wz.cell? ⟨w.heap.size, 0, none⟩ = some (.int .u16 pc) /\ wz.cell? ⟨w.heap.size, 1, none⟩ = some (.int .i64 st) /\ wz.cell? ⟨w.heap.size, 2, none⟩ = some (.int .i64 fa) /\ wz.cell? ⟨w.heap.size, 3, none⟩ = some (.slice p nd cd) /\ wz.cell? ⟨w.heap.size, 4, none⟩ = some (.slice q nr cr)) X) := fun X hX => hS X ((hX.block _ (by omega)).trans n1)
 have HSr : Hid (∀ (X : World) (cs : Array Value), Below W.heap.size W X -> (fun wz : World => wz.cell? ⟨w.heap.size, 0, none⟩ = some (.int .u16 pc) /\ wz.cell? ⟨w.heap.size, 1, none⟩ = some (.int .i64 st) /\ wz.cell? ⟨w.heap.size, 2, none⟩ = some (.int .i64 fa) /\ wz.cell? ⟨w.heap.size, 3, none⟩ = some (.slice p nd cd) /\ wz.cell? ⟨w.heap.size, 4, none⟩ = some (.slice q nr cr)) (X.setRow (w.heap.size + 1) cs)) := fun X cs hX => hS _ ((setRow_other X (w.heap.size + 1) w.heap.size cs (by omega)).trans ((hX.block _ (by omega)).trans n1))
 have HZ : Hid (∀ X : World, Below W.heap.size W X -> X.heap[w.heap.size + 1]? = some (.cells z5 46 (0, 0))) := fun X hX => (hX.block _ hs2).trans n2
 have HC1 : Hid (∀ X : World, Below W.heap.size W X -> S.Cs X (.slice p nd cd) 1 nd (S.en S.eU D)) := fun X hX => l1.below (hB.trans (hX.mono hB.size))
 have HC2 : Hid (∀ X : World, Below W.heap.size W X -> S.Cs X (.slice q nr cr) 2 nr (S.en S.eK R)) := fun X hX => l2.below (hB.trans (hX.mono hB.size))
 have HB : Hid _ := hB
 have HW : Hid _ := hW
 have HN : Hid _ := And.intro hnd hnr
 have bd1 : (0 + nd) * 2 <= S.room := by unfold S.room; omega
 have bd2 : 0 + nd <= maxLen := by unfold maxLen; omega
 have br1 : (0 + nr) * 16 <= S.room := by unfold S.room; omega
 have br2 : 0 + nr <= maxLen := by unfold maxLen; omega
 have HV : Hid (.cells #[.int .u16 0, .int .i64 0, .int .i64 0, .slice none 0 0, .slice none 0 0] 46 = Obj.cells z5 46) := rfl
 clear hB n1 n2 l1 l2 hS h1 h2 hnd hnr dl rl hW
 go_enter Tryz.func36, Tryz.ntmps36
 go_upto_region 1 with fail
 try rw [HV.out]
 rw [HW.out]
 refine V.wrh HS.out HBd.out (by kernel_rfl) (fun hHeld => ?_)
 generalize W.drew = yd at *
 refine wtk0 (is := [0, 1, 2, 3, 4, 5, 7, 8, 11, 12]) ?_
 iterate 10
  refine V.wt (v := ?_) rfl (by kernel_rfl) (fun c a w h => h) (by rfl) ?_ hHeld ?_
  rotate_left
  ·(intro w hSw; (try dsimp only at hSw); go_simp; try with_reducible rfl)
  simp only [V.pts]
 refine wtkE ?_
 have byd : Below W.heap.size W yd := HBd.out
 refine wpAnyH_ready (rs := [6, 10]) (by kernel_rfl) (by simp) ?_
 refine AllReadyH.cons rfl (fun K hK => ?_) (AllReadyH.cons rfl (fun K hK => ?_) AllReadyH.nil)
 ·obtain ⟨y1, hy1⟩ : ∃ x, yd.alloc (.cells #[] 23) = x := ⟨_, rfl⟩
  have ey1 : Below yd.heap.size yd y1 := by rw [<- hy1]; exact P.bel_alloc yd _
  have by1 : Below W.heap.size W y1 := byd.trans (ey1.mono byd.size); have ody1 : y1.ownsRow W.heap.size 23 1 (.slice (some ⟨yd.heap.size, 0, none⟩) 0 0) 0 [] := by have := S.own_empty yd 23 1; rw [hy1] at this; exact S.own_mono this byd.size
  have Hy1 : Hid _ := hy1; clear hy1 ey1; go_simp; refine hK.out _ _ (by first | exact HS.out y1 by1 | (rw [Hy1.out]; exact HS.out y1 by1)) (fun hHeld => ?_); clear hK K; try rw [Hy1.out]
  try simp only [V.pts]
  refine wpAnyH_ready (rs := [9, 10]) (by kernel_rfl) (by simp) ?_; refine AllReadyH.cons rfl (fun K hK => ?_) (AllReadyH.cons rfl (fun K hK => ?_) AllReadyH.nil)
  ·rw [if_pos (by rfl)]
   refine S.wp_append_row _ _ _ 43 23 _ 1 2 Tryz.underlying43 S.info32 rfl (by decide) rfl W.heap.size _ 0 [] rfl ody1 _ nd _ rfl (HC1.out y1 by1) bd1 bd2 by1.size (fun vy2 y2 oy2 gy2 => ?_); have by2 : Below W.heap.size W y2 := gy2.belowAll (fun gg ee => (World.ownsRow.lt ody1 gg ee).1) by1 (Nat.le_refl _); try simp only [Nat.zero_add, List.nil_append] at oy2
   have ody2 : y2.ownsRow W.heap.size 23 1 vy2 nd (S.en S.eU D) := oy2; obtain ⟨p1, c1, e1⟩ := own_fm ody2; subst e1; clear oy2 gy2; refine hK.out _ _ (HS.out y2 by2) (fun hHeld => ?_); clear hK K; try simp only [V.pts]
   refine V.wrd 10 (by kernel_rfl) rfl fun K hK => ?_
   obtain ⟨y3, hy3⟩ : ∃ x, y2.alloc (.cells #[] 101) = x := ⟨_, rfl⟩
   have ey3 : Below y2.heap.size y2 y3 := by rw [<- hy3]; exact P.bel_alloc y2 _
   have by3 : Below W.heap.size W y3 := by2.trans (ey3.mono by2.size); have ory3 : y3.ownsRow W.heap.size 101 2 (.slice (some ⟨y2.heap.size, 0, none⟩) 0 0) 0 [] := by have := S.own_empty y2 101 2; rw [hy3] at this; exact S.own_mono this by2.size
   have ody3 := own_nw ody2 ey3; have Hy3 : Hid _ := hy3; clear hy3 ey3; go_simp; refine hK.out _ _ (by first | exact HS.out y3 by3 | (rw [Hy3.out]; exact HS.out y3 by3)) (fun hHeld => ?_); clear hK K; try rw [Hy3.out]
   try simp only [V.pts]
   refine V.wrd 13 (by kernel_rfl) rfl fun K hK => ?_
   rw [if_pos (by rfl)]; refine S.wp_append_row _ _ _ 44 101 _ 2 16 Tryz.underlying44 S.info43 rfl (by decide) rfl W.heap.size _ 0 [] rfl ory3 _ nr _ rfl (HC2.out y3 by3) br1 br2 by3.size (fun vy4 y4 oy4 gy4 => ?_); have by4 : Below W.heap.size W y4 := gy4.belowAll (fun gg ee => (World.ownsRow.lt ory3 gg ee).1) by3 (Nat.le_refl _); try simp only [Nat.zero_add, List.nil_append] at oy4
   have ory4 : y4.ownsRow W.heap.size 101 2 vy4 nr (S.en S.eK R) := oy4; have ody4 := own_ty ody3 ory3 gy4 (by decide); obtain ⟨p2, c2, e2⟩ := own_fm ory4; subst e2; clear oy4 gy4; refine hK.out _ _ (HS.out y4 by4) (fun hHeld => ?_); clear hK K; try simp only [V.pts]
   refine V.wt1 14 (v := ?_) rfl (by kernel_rfl) (fun c a w h => h) (by rfl) ?_ hHeld ?_
   rotate_left
   ·(intro w hSw; (try dsimp only at hSw); go_simp; try with_reducible rfl)
   simp only [V.pts]; refine V.wrd 15 (by kernel_rfl) rfl fun K hK => ?_
   refine step_store_row rfl 46 (.tmp 2) (.tmp 17) rfl (w.heap.size + 1) #[.int .u16 pc, .int .i64 st, .int .i64 fa, .slice p1 nd c1, .slice p2 nr c2] (by simp [Act.eval]) (by simp [Act.eval]) 46 z5 (HZ.out y4 by4) (by exact size46) (by rfl) (by simp [Value.oneCell']) ?_; refine hK.out _ _ (HSr.out y4 _ by4) (fun hHeld => ?_); clear hK K; refine wpAnyH_done (by kernel_rfl) ?_ _; have hfin := setRow_heap y4 (w.heap.size + 1) _ #[.int .u16 pc, .int .i64 st, .int .i64 fa, .slice p1 nd c1, .slice p2 nr c2] _ _ (HZ.out y4 by4); clear hHeld; simp only [Act.put, List.setIfInBounds_toArray, List.set_cons_zero, List.set_cons_succ]; have zB := HB.out.size; have HF : Hid _ := And.intro ody4 (And.intro ory4 by4); clear ody4 ory4 by4; go_wp2; refine bodyPost_ret (results_cell_row rfl _ _ (w.heap.size + 1) 46 _ (0, 0) _ rfl hfin Tryz.underlying46 rfl size46) rfl ⟨p1, c1, p2, c2, rfl, ?_, ?_, P.Below.setRow (HB.out.trans (HF.out.2.2.mono HB.out.size)) (w.heap.size + 1) (by omega) _⟩
   ·exact S.own_mono (S.own_kept HF.out.1 fun k e _ => setRow_other y4 (w.heap.size + 1) k _ (by have := World.ownsRow.lt HF.out.1 k e; omega)) zB
   ·exact S.own_mono (S.own_kept HF.out.2.1 fun k e _ => setRow_other y4 (w.heap.size + 1) k _ (by have := World.ownsRow.lt HF.out.2.1 k e; omega)) zB
  ·obtain ⟨y2, hy2⟩ : ∃ x, y1.alloc (.cells #[] 101) = x := ⟨_, rfl⟩
   have ey2 : Below y1.heap.size y1 y2 := by rw [<- hy2]; exact P.bel_alloc y1 _
   have by2 : Below W.heap.size W y2 := by1.trans (ey2.mono by1.size); have ory2 : y2.ownsRow W.heap.size 101 2 (.slice (some ⟨y1.heap.size, 0, none⟩) 0 0) 0 [] := by have := S.own_empty y1 101 2; rw [hy2] at this; exact S.own_mono this by1.size
   have ody2 := own_nw ody1 ey2; have Hy2 : Hid _ := hy2; clear hy2 ey2; go_simp; refine hK.out _ _ (by first | exact HS.out y2 by2 | (rw [Hy2.out]; exact HS.out y2 by2)) (fun hHeld => ?_); clear hK K; try rw [Hy2.out]
   try simp only [V.pts]
   refine V.wrd 9 (by kernel_rfl) rfl fun K hK => ?_
   rw [if_pos (by rfl)]; refine S.wp_append_row _ _ _ 43 23 _ 1 2 Tryz.underlying43 S.info32 rfl (by decide) rfl W.heap.size _ 0 [] rfl ody2 _ nd _ rfl (HC1.out y2 by2) bd1 bd2 by2.size (fun vy3 y3 oy3 gy3 => ?_); have by3 : Below W.heap.size W y3 := gy3.belowAll (fun gg ee => (World.ownsRow.lt ody2 gg ee).1) by2 (Nat.le_refl _); try simp only [Nat.zero_add, List.nil_append] at oy3
   have ody3 : y3.ownsRow W.heap.size 23 1 vy3 nd (S.en S.eU D) := oy3; have ory3 := own_ty ory2 ody2 gy3 (by decide); obtain ⟨p1, c1, e1⟩ := own_fm ody3; subst e1; clear oy3 gy3; refine hK.out _ _ (HS.out y3 by3) (fun hHeld => ?_); clear hK K; try simp only [V.pts]
   refine V.wrd 13 (by kernel_rfl) rfl fun K hK => ?_
   rw [if_pos (by rfl)]; refine S.wp_append_row _ _ _ 44 101 _ 2 16 Tryz.underlying44 S.info43 rfl (by decide) rfl W.heap.size _ 0 [] rfl ory3 _ nr _ rfl (HC2.out y3 by3) br1 br2 by3.size (fun vy4 y4 oy4 gy4 => ?_); have by4 : Below W.heap.size W y4 := gy4.belowAll (fun gg ee => (World.ownsRow.lt ory3 gg ee).1) by3 (Nat.le_refl _); try simp only [Nat.zero_add, List.nil_append] at oy4
   have ory4 : y4.ownsRow W.heap.size 101 2 vy4 nr (S.en S.eK R) := oy4; have ody4 := own_ty ody3 ory3 gy4 (by decide); obtain ⟨p2, c2, e2⟩ := own_fm ory4; subst e2; clear oy4 gy4; refine hK.out _ _ (HS.out y4 by4) (fun hHeld => ?_); clear hK K; try simp only [V.pts]
   refine V.wt1 14 (v := ?_) rfl (by kernel_rfl) (fun c a w h => h) (by rfl) ?_ hHeld ?_
   rotate_left
   ·(intro w hSw; (try dsimp only at hSw); go_simp; try with_reducible rfl)
   simp only [V.pts]; refine V.wrd 15 (by kernel_rfl) rfl fun K hK => ?_
   refine step_store_row rfl 46 (.tmp 2) (.tmp 17) rfl (w.heap.size + 1) #[.int .u16 pc, .int .i64 st, .int .i64 fa, .slice p1 nd c1, .slice p2 nr c2] (by simp [Act.eval]) (by simp [Act.eval]) 46 z5 (HZ.out y4 by4) (by exact size46) (by rfl) (by simp [Value.oneCell']) ?_; refine hK.out _ _ (HSr.out y4 _ by4) (fun hHeld => ?_); clear hK K; refine wpAnyH_done (by kernel_rfl) ?_ _; have hfin := setRow_heap y4 (w.heap.size + 1) _ #[.int .u16 pc, .int .i64 st, .int .i64 fa, .slice p1 nd c1, .slice p2 nr c2] _ _ (HZ.out y4 by4); clear hHeld; simp only [Act.put, List.setIfInBounds_toArray, List.set_cons_zero, List.set_cons_succ]; have zB := HB.out.size; have HF : Hid _ := And.intro ody4 (And.intro ory4 by4); clear ody4 ory4 by4; go_wp2; refine bodyPost_ret (results_cell_row rfl _ _ (w.heap.size + 1) 46 _ (0, 0) _ rfl hfin Tryz.underlying46 rfl size46) rfl ⟨p1, c1, p2, c2, rfl, ?_, ?_, P.Below.setRow (HB.out.trans (HF.out.2.2.mono HB.out.size)) (w.heap.size + 1) (by omega) _⟩
   ·exact S.own_mono (S.own_kept HF.out.1 fun k e _ => setRow_other y4 (w.heap.size + 1) k _ (by have := World.ownsRow.lt HF.out.1 k e; omega)) zB
   ·exact S.own_mono (S.own_kept HF.out.2.1 fun k e _ => setRow_other y4 (w.heap.size + 1) k _ (by have := World.ownsRow.lt HF.out.2.1 k e; omega)) zB
 ·obtain ⟨y1, hy1⟩ : ∃ x, yd.alloc (.cells #[] 101) = x := ⟨_, rfl⟩
  have ey1 : Below yd.heap.size yd y1 := by rw [<- hy1]; exact P.bel_alloc yd _
  have by1 : Below W.heap.size W y1 := byd.trans (ey1.mono byd.size); have ory1 : y1.ownsRow W.heap.size 101 2 (.slice (some ⟨yd.heap.size, 0, none⟩) 0 0) 0 [] := by have := S.own_empty yd 101 2; rw [hy1] at this; exact S.own_mono this byd.size
  have Hy1 : Hid _ := hy1; clear hy1 ey1; go_simp; refine hK.out _ _ (by first | exact HS.out y1 by1 | (rw [Hy1.out]; exact HS.out y1 by1)) (fun hHeld => ?_); clear hK K; try rw [Hy1.out]
  try simp only [V.pts]
  refine V.wrd 6 (by kernel_rfl) rfl fun K hK => ?_
  obtain ⟨y2, hy2⟩ : ∃ x, y1.alloc (.cells #[] 23) = x := ⟨_, rfl⟩
  have ey2 : Below y1.heap.size y1 y2 := by rw [<- hy2]; exact P.bel_alloc y1 _
  have by2 : Below W.heap.size W y2 := by1.trans (ey2.mono by1.size); have ody2 : y2.ownsRow W.heap.size 23 1 (.slice (some ⟨y1.heap.size, 0, none⟩) 0 0) 0 [] := by have := S.own_empty y1 23 1; rw [hy2] at this; exact S.own_mono this by1.size
  have ory2 := own_nw ory1 ey2; have Hy2 : Hid _ := hy2; clear hy2 ey2; go_simp; refine hK.out _ _ (by first | exact HS.out y2 by2 | (rw [Hy2.out]; exact HS.out y2 by2)) (fun hHeld => ?_); clear hK K; try rw [Hy2.out]
  try simp only [V.pts]
  refine V.wrd 9 (by kernel_rfl) rfl fun K hK => ?_
  rw [if_pos (by rfl)]; refine S.wp_append_row _ _ _ 43 23 _ 1 2 Tryz.underlying43 S.info32 rfl (by decide) rfl W.heap.size _ 0 [] rfl ody2 _ nd _ rfl (HC1.out y2 by2) bd1 bd2 by2.size (fun vy3 y3 oy3 gy3 => ?_); have by3 : Below W.heap.size W y3 := gy3.belowAll (fun gg ee => (World.ownsRow.lt ody2 gg ee).1) by2 (Nat.le_refl _); try simp only [Nat.zero_add, List.nil_append] at oy3
  have ody3 : y3.ownsRow W.heap.size 23 1 vy3 nd (S.en S.eU D) := oy3; have ory3 := own_ty ory2 ody2 gy3 (by decide); obtain ⟨p1, c1, e1⟩ := own_fm ody3; subst e1; clear oy3 gy3; refine hK.out _ _ (HS.out y3 by3) (fun hHeld => ?_); clear hK K; try simp only [V.pts]
  refine V.wrd 13 (by kernel_rfl) rfl fun K hK => ?_
  rw [if_pos (by rfl)]; refine S.wp_append_row _ _ _ 44 101 _ 2 16 Tryz.underlying44 S.info43 rfl (by decide) rfl W.heap.size _ 0 [] rfl ory3 _ nr _ rfl (HC2.out y3 by3) br1 br2 by3.size (fun vy4 y4 oy4 gy4 => ?_); have by4 : Below W.heap.size W y4 := gy4.belowAll (fun gg ee => (World.ownsRow.lt ory3 gg ee).1) by3 (Nat.le_refl _); try simp only [Nat.zero_add, List.nil_append] at oy4
  have ory4 : y4.ownsRow W.heap.size 101 2 vy4 nr (S.en S.eK R) := oy4; have ody4 := own_ty ody3 ory3 gy4 (by decide); obtain ⟨p2, c2, e2⟩ := own_fm ory4; subst e2; clear oy4 gy4; refine hK.out _ _ (HS.out y4 by4) (fun hHeld => ?_); clear hK K; try simp only [V.pts]
  refine V.wt1 14 (v := ?_) rfl (by kernel_rfl) (fun c a w h => h) (by rfl) ?_ hHeld ?_
  rotate_left
  ·(intro w hSw; (try dsimp only at hSw); go_simp; try with_reducible rfl)
  simp only [V.pts]; refine V.wrd 15 (by kernel_rfl) rfl fun K hK => ?_
  refine step_store_row rfl 46 (.tmp 2) (.tmp 17) rfl (w.heap.size + 1) #[.int .u16 pc, .int .i64 st, .int .i64 fa, .slice p1 nd c1, .slice p2 nr c2] (by simp [Act.eval]) (by simp [Act.eval]) 46 z5 (HZ.out y4 by4) (by exact size46) (by rfl) (by simp [Value.oneCell']) ?_; refine hK.out _ _ (HSr.out y4 _ by4) (fun hHeld => ?_); clear hK K; refine wpAnyH_done (by kernel_rfl) ?_ _; have hfin := setRow_heap y4 (w.heap.size + 1) _ #[.int .u16 pc, .int .i64 st, .int .i64 fa, .slice p1 nd c1, .slice p2 nr c2] _ _ (HZ.out y4 by4); clear hHeld; simp only [Act.put, List.setIfInBounds_toArray, List.set_cons_zero, List.set_cons_succ]; have zB := HB.out.size; have HF : Hid _ := And.intro ody4 (And.intro ory4 by4); clear ody4 ory4 by4; go_wp2; refine bodyPost_ret (results_cell_row rfl _ _ (w.heap.size + 1) 46 _ (0, 0) _ rfl hfin Tryz.underlying46 rfl size46) rfl ⟨p1, c1, p2, c2, rfl, ?_, ?_, P.Below.setRow (HB.out.trans (HF.out.2.2.mono HB.out.size)) (w.heap.size + 1) (by omega) _⟩
  ·exact S.own_mono (S.own_kept HF.out.1 fun k e _ => setRow_other y4 (w.heap.size + 1) k _ (by have := World.ownsRow.lt HF.out.1 k e; omega)) zB
  ·exact S.own_mono (S.own_kept HF.out.2.1 fun k e _ => setRow_other y4 (w.heap.size + 1) k _ (by have := World.ownsRow.lt HF.out.2.1 k e; omega)) zB
end Go.Proofs.YteldjmecomngeaaGreat.V
