import Derived.Test.YtlilefhmohkfkaaGreatDoorELeaf
namespace Go.Proofs.YtlilefhmohkfkaaGreatDoor.E
open Go.RowKit
open Go.Proofs
open Go.Proofs.YtlilefhmohkfkaaGreatDoor.Y (Nd Df Ps ndc dfc hid)
set_option linter.unusedVariables false
set_option linter.unusedSimpArgs false
set_option maxHeartbeats 2000000
set_option maxRecDepth 100000
theorem box_sp (s : St) (p : Ps) (W : World) : ∃ W0 W1, W.alloc (.cells #[.bool s.dead, .int .i64 s.h, .string ⟨s.own.toArray⟩] 129) = W0 /\ W0.alloc (.cells #[.int .i64 p.1, .int .i64 p.2] 25) = W1 /\ Below W.heap.size W W1 /\ W0.heap.size = W.heap.size + 1 /\ W1.heap.size = W.heap.size + 2 /\ SB W1 W.heap.size s /\ PB W1 W0.heap.size p := by
 refine ⟨_, _, rfl, rfl, ((Below.refl _ _).alloc (Nat.le_refl _) _).alloc (by simp) _, by simp, by simp, ?_, ?_⟩
 ·exact (Below.heap_alloc _ _ _ (by simp)).trans (heap_alloc_new W _)
 ·exact heap_alloc_new _ _
theorem SB.below {W W' : World} {b : Nat} {s : St} (h : SB W b s) (k : Below W.heap.size W W') : SB W' b s := (k.block b (S.lt_of h)).trans h
theorem PB.below {W W' : World} {b : Nat} {p : Ps} (h : PB W b p) (k : Below W.heap.size W W') : PB W' b p := (k.block b (S.lt_of h)).trans h
theorem EW.below {W W' : World} {g : Nat} {mv av : Value} {w : Wk} (h : EW W g mv av w) (k : Below W.heap.size W W') : EW W' g mv av w := (k.block g (S.lt_of h)).trans h
theorem lv_own (s : St) (p : Ps) (w : Wk) (g : Nat) (mv av : Value) (W : World) (h : EW W g mv av w) (ho : s.own.isEmpty = false) :
  Calls Tryz.prog 68 #[.pointer (some ⟨g, 0, none⟩), .agg (stc s).toArray, .agg #[.int .i64 p.1, .int .i64 p.2]] W (EU W g mv av (leave s p w)) := by
 obtain ⟨W0, W1, hW0, hW1, hB, hs0, hs1, k1, k2⟩ := box_sp s p W
 have hE : EW W1 g mv av w := (hB.block g h.lt).trans h
 have hgl := h.lt
 have n1 : W.heap.size ≠ g := by omega
 have n2 : W0.heap.size ≠ g := by omega
 obtain ⟨x0, x1, x2⟩ := k1.cells
 obtain ⟨y0, y1⟩ := k2.cells
 have H1 := hid (And.intro k1 (And.intro k2 (And.intro hE hB)))
 have HN := hid (And.intro n1 n2)
 clear k1 k2 hE hB n1 n2 hs0 hs1 h hgl
 unfold stc
 have HR : Y.Hd (leave s p w = .error (152, p)) := ⟨by unfold leave; rw [if_neg (by intro c; rw [c] at ho; cases ho)]⟩
 generalize leave s p w = R at *
 have hc := must_false 152 p W1
 go_enter Tryz.func68, Tryz.ntmps68
 go_wp2_with fail
 refine hc.mono ?_
 rintro e w1 ⟨rfl, hb⟩
 refine ⟨rfl, ?_⟩
 rw [HR.out]
 exact ⟨rfl, (Gw.of H1.out.2.2.2).trans (Gw.of hb)⟩
theorem lv_never (s : St) (p : Ps) (w : Wk) (g : Nat) (mv av : Value) (W : World) (h : EW W g mv av w) (ho : s.own.isEmpty = true) (hnv : w.nv = true) :
  Calls Tryz.prog 68 #[.pointer (some ⟨g, 0, none⟩), .agg (stc s).toArray, .agg #[.int .i64 p.1, .int .i64 p.2]] W (EU W g mv av (leave s p w)) := by
 obtain ⟨W0, W1, hW0, hW1, hB, hs0, hs1, k1, k2⟩ := box_sp s p W
 have hE : EW W1 g mv av w := (hB.block g h.lt).trans h
 have hgl := h.lt
 have n1 : W.heap.size ≠ g := by omega
 have n2 : W0.heap.size ≠ g := by omega
 obtain ⟨x0, x1, x2⟩ := k1.cells
 obtain ⟨y0, y1⟩ := k2.cells
 have H1 := hid (And.intro k1 (And.intro k2 (And.intro hE hB)))
 have HN := hid (And.intro n1 n2)
 clear k1 k2 hE hB n1 n2 hs0 hs1 h hgl
 unfold stc
 have HR : Y.Hd (leave s p w = .ok { w with nv := false, lf := s.h }) := ⟨by unfold leave; rw [if_pos (by simpa using ho), if_pos (Or.inl hnv)]⟩
 generalize leave s p w = R at *
 have hc := must_true 152 p W1
 go_enter Tryz.func68, Tryz.ntmps68
 go_wp2_with fail
 refine hc.mono ?_
 rintro e w1 ⟨rfl, hb⟩
 clear hc x0 x1 x2 y0 y1 hW0 hW1 ho
 have H2 := hid (And.intro (H1.out.1.below hb) (And.intro (H1.out.2.1.below hb) (And.intro (H1.out.2.2.1.below hb) (H1.out.2.2.2.trans (hb.mono H1.out.2.2.2.size)))))
 clear hb H1
 have HK : Y.Hd (∀ wz, Below w1.heap.size w1 wz -> (fun wz : World => wz.cell? ⟨g, 6, none⟩ = some (.bool true) /\ wz.cell? ⟨g, 7, none⟩ = some (.int .i64 w.lf) /\ wz.cell? ⟨W.heap.size, 1, none⟩ = some (.int .i64 s.h) /\ wz.cell? ⟨W0.heap.size, 0, none⟩ = some (.int .i64 p.1) /\ wz.cell? ⟨W0.heap.size, 1, none⟩ = some (.int .i64 p.2)) wz) := ⟨fun wz hz => by
  obtain ⟨_, a1, _⟩ := (H2.out.1.below hz).cells
  obtain ⟨b0, b1⟩ := (H2.out.2.1.below hz).cells
  obtain ⟨_, _, _, _, _, _, c6, c7⟩ := (H2.out.2.2.1.below hz).cells
  try rw [hnv] at c6
  exact ⟨c6, c7, a1, b0, b1⟩⟩
 go_upto_region 2 with fail
 refine wp_region_drop [] (S := fun wz : World => wz.cell? ⟨g, 6, none⟩ = some (.bool true) /\ wz.cell? ⟨g, 7, none⟩ = some (.int .i64 w.lf) /\ wz.cell? ⟨W.heap.size, 1, none⟩ = some (.int .i64 s.h) /\ wz.cell? ⟨W0.heap.size, 0, none⟩ = some (.int .i64 p.1) /\ wz.cell? ⟨W0.heap.size, 1, none⟩ = some (.int .i64 p.2)) (by kernel_rfl) (HK.out w1.drew (Below.refl _ _).drew) (fun hHeld => ?_)
 have HB0 := hid (Below.refl w1.heap.size w1).drew
 generalize w1.drew = y0 at *
 refine wpD_takeP (i := 0) (v := ?_) rfl (by kernel_rfl) (by kernel_rfl) (by kernel_rfl) (by kernel_rfl) (fun c a w h => h) (Or.inl ⟨by rfl, ?_⟩) (fun _ => hHeld) ?_
 rotate_left
 ·(intro w hSw; clear hSw; go_simp; try with_reducible rfl)
 simp only [Act.put, List.getElem_toArray, List.getElem_cons_zero, List.getElem_cons_succ, List.setIfInBounds_toArray, List.set_cons_zero, List.set_cons_succ]
 refine wpD_takeP (i := 1) (v := ?_) rfl (by kernel_rfl) (by kernel_rfl) (by kernel_rfl) (by kernel_rfl) (fun c a w h => h) (Or.inl ⟨by rfl, ?_⟩) (fun _ => hHeld) ?_
 rotate_left
 ·(intro w hSw; clear hSw; go_simp; try with_reducible rfl)
 simp only [Act.put, List.getElem_toArray, List.getElem_cons_zero, List.getElem_cons_succ, List.setIfInBounds_toArray, List.set_cons_zero, List.set_cons_succ]
 refine wpD_takeP (i := 2) (v := ?_) rfl (by kernel_rfl) (by kernel_rfl) (by kernel_rfl) (by kernel_rfl) (fun c a w h => h) (Or.inl ⟨by rfl, ?_⟩) (fun _ => hHeld) ?_
 rotate_left
 ·(intro w hSw; clear hSw; go_simp; try with_reducible rfl)
 simp only [Act.put, List.getElem_toArray, List.getElem_cons_zero, List.getElem_cons_succ, List.setIfInBounds_toArray, List.set_cons_zero, List.set_cons_succ]
 refine wpD_takeP (i := 3) (v := ?_) rfl (by kernel_rfl) (by kernel_rfl) (by kernel_rfl) (by kernel_rfl) (fun c a w h => h) (Or.inl ⟨by rfl, ?_⟩) (fun _ => hHeld) ?_
 rotate_left
 ·(intro w hSw; clear hSw; go_simp; try with_reducible rfl)
 simp only [Act.put, List.getElem_toArray, List.getElem_cons_zero, List.getElem_cons_succ, List.setIfInBounds_toArray, List.set_cons_zero, List.set_cons_succ]
 refine wpD_takeT (i := 4) (v := ?_) rfl (by kernel_rfl) (by kernel_rfl) (by kernel_rfl) (by kernel_rfl) (by kernel_rfl) (by kernel_rfl) (fun c a w h => h) (Or.inl ⟨by rfl, ?_⟩) hHeld ?_
 rotate_left
 ·(intro w hSw; (try dsimp only at hSw); go_simp; try with_reducible rfl)
 simp only [Act.put, List.getElem_toArray, List.getElem_cons_zero, List.getElem_cons_succ, List.setIfInBounds_toArray, List.set_cons_zero, List.set_cons_succ]
 refine wpD_takeP (i := 5) (v := ?_) rfl (by kernel_rfl) (by kernel_rfl) (by kernel_rfl) (by kernel_rfl) (fun c a w h => h) (Or.inl ⟨by rfl, ?_⟩) (fun _ => hHeld) ?_
 rotate_left
 ·(intro w hSw; clear hSw; go_simp; try with_reducible rfl)
 simp only [Act.put, List.getElem_toArray, List.getElem_cons_zero, List.getElem_cons_succ, List.setIfInBounds_toArray, List.set_cons_zero, List.set_cons_succ]
 refine wpD_takeP (i := 6) (v := undef) rfl (by kernel_rfl) (by kernel_rfl) (by kernel_rfl) (by kernel_rfl) (fun c a w h => h) (Or.inr ⟨by rfl, rfl⟩) (fun _ => hHeld) ?_
 simp only [Act.put, List.getElem_toArray, List.getElem_cons_zero, List.getElem_cons_succ, List.setIfInBounds_toArray, List.set_cons_zero, List.set_cons_succ]
 refine wpD_takeP (i := 7) (v := undef) rfl (by kernel_rfl) (by kernel_rfl) (by kernel_rfl) (by kernel_rfl) (fun c a w h => h) (Or.inr ⟨by rfl, rfl⟩) (fun _ => hHeld) ?_
 simp only [Act.put, List.getElem_toArray, List.getElem_cons_zero, List.getElem_cons_succ, List.setIfInBounds_toArray, List.set_cons_zero, List.set_cons_succ]
 refine wpD_takeP (i := 8) (v := undef) rfl (by kernel_rfl) (by kernel_rfl) (by kernel_rfl) (by kernel_rfl) (fun c a w h => h) (Or.inr ⟨by rfl, rfl⟩) (fun _ => hHeld) ?_
 simp only [Act.put, List.getElem_toArray, List.getElem_cons_zero, List.getElem_cons_succ, List.setIfInBounds_toArray, List.set_cons_zero, List.set_cons_succ]
 refine wpD_takeP (i := 9) (v := undef) rfl (by kernel_rfl) (by kernel_rfl) (by kernel_rfl) (by kernel_rfl) (fun c a w h => h) (Or.inr ⟨by rfl, rfl⟩) (fun _ => hHeld) ?_
 simp only [Act.put, List.getElem_toArray, List.getElem_cons_zero, List.getElem_cons_succ, List.setIfInBounds_toArray, List.set_cons_zero, List.set_cons_succ]
 refine wpD_takeP (i := 10) (v := undef) rfl (by kernel_rfl) (by kernel_rfl) (by kernel_rfl) (by kernel_rfl) (fun c a w h => h) (Or.inr ⟨by rfl, rfl⟩) (fun _ => hHeld) ?_
 simp only [Act.put, List.getElem_toArray, List.getElem_cons_zero, List.getElem_cons_succ, List.setIfInBounds_toArray, List.set_cons_zero, List.set_cons_succ]
 refine wpD_takeP (i := 11) (v := undef) rfl (by kernel_rfl) (by kernel_rfl) (by kernel_rfl) (by kernel_rfl) (fun c a w h => h) (Or.inr ⟨by rfl, rfl⟩) (fun _ => hHeld) ?_
 simp only [Act.put, List.getElem_toArray, List.getElem_cons_zero, List.getElem_cons_succ, List.setIfInBounds_toArray, List.set_cons_zero, List.set_cons_succ]
 refine wpD_takeP (i := 12) (v := undef) rfl (by kernel_rfl) (by kernel_rfl) (by kernel_rfl) (by kernel_rfl) (fun c a w h => h) (Or.inr ⟨by rfl, rfl⟩) (fun _ => hHeld) ?_
 simp only [Act.put, List.getElem_toArray, List.getElem_cons_zero, List.getElem_cons_succ, List.setIfInBounds_toArray, List.set_cons_zero, List.set_cons_succ]
 refine wpD_takeP (i := 13) (v := ?_) rfl (by kernel_rfl) (by kernel_rfl) (by kernel_rfl) (by kernel_rfl) (fun c a w h => h) (Or.inl ⟨by rfl, ?_⟩) (fun _ => hHeld) ?_
 rotate_left
 ·(intro w hSw; clear hSw; go_simp; try with_reducible rfl)
 simp only [Act.put, List.getElem_toArray, List.getElem_cons_zero, List.getElem_cons_succ, List.setIfInBounds_toArray, List.set_cons_zero, List.set_cons_succ]
 refine wpD_takeT (i := 14) (v := ?_) rfl (by kernel_rfl) (by kernel_rfl) (by kernel_rfl) (by kernel_rfl) (by kernel_rfl) (by kernel_rfl) (fun c a w h => h) (Or.inl ⟨by rfl, ?_⟩) hHeld ?_
 rotate_left
 ·(intro w hSw; (try dsimp only at hSw); go_simp; try with_reducible rfl)
 simp only [Act.put, List.getElem_toArray, List.getElem_cons_zero, List.getElem_cons_succ, List.setIfInBounds_toArray, List.set_cons_zero, List.set_cons_succ]
 refine wpD_ready (rs := [15]) (by kernel_rfl) (by simp) ?_
 refine AllD.cons rfl (fun K hK => ?_) AllD.nil
 go_simp
 refine (must_true 150 p y0).mono ?_
 rintro e y1 ⟨rfl, hb⟩
 have HB1 := hid (HB0.out.trans (hb.mono HB0.out.size))
 clear hb
 refine hK.out _ _ (HK.out _ HB1.out) (fun hHeld => ?_)
 clear hK K
 try simp only [Act.put, List.getElem_toArray, List.getElem_cons_zero, List.getElem_cons_succ, List.setIfInBounds_toArray, List.set_cons_zero, List.set_cons_succ]
 refine wpD_done (by kernel_rfl) ?_ _
 have H3 := hid (And.intro (H2.out.1.below HB1.out) (And.intro (H2.out.2.2.1.below HB1.out) (H2.out.2.2.2.trans (HB1.out.mono H2.out.2.2.2.size))))
 clear H2 HB0 HB1 HK hHeld
 go_upto_region 3 with fail
 have t1 : (fun wz : World => wz.cell? ⟨W.heap.size, 1, none⟩ = some (.int .i64 s.h)) y1.drew := H3.out.1.cells.2.1
 refine wp_region_drop [] (S := fun wz : World => wz.cell? ⟨W.heap.size, 1, none⟩ = some (.int .i64 s.h)) (by kernel_rfl) t1 (fun hHeld => ?_)
 have H4 : Y.Hd (EW y1.drew g mv av w /\ SB y1.drew W.heap.size s /\ Below W.heap.size W y1.drew) := ⟨H3.out.2.1, H3.out.1, H3.out.2.2.drew⟩
 generalize y1.drew = y2 at *
 clear t1
 refine wpD_takeP (i := 0) (v := ?_) rfl (by kernel_rfl) (by kernel_rfl) (by kernel_rfl) (by kernel_rfl) (fun c a w h => h) (Or.inl ⟨by rfl, ?_⟩) (fun _ => hHeld) ?_
 rotate_left
 ·(intro w hSw; clear hSw; go_simp; try with_reducible rfl)
 simp only [Act.put, List.getElem_toArray, List.getElem_cons_zero, List.getElem_cons_succ, List.setIfInBounds_toArray, List.set_cons_zero, List.set_cons_succ]
 refine wpD_takeP (i := 1) (v := ?_) rfl (by kernel_rfl) (by kernel_rfl) (by kernel_rfl) (by kernel_rfl) (fun c a w h => h) (Or.inl ⟨by rfl, ?_⟩) (fun _ => hHeld) ?_
 rotate_left
 ·(intro w hSw; clear hSw; go_simp; try with_reducible rfl)
 simp only [Act.put, List.getElem_toArray, List.getElem_cons_zero, List.getElem_cons_succ, List.setIfInBounds_toArray, List.set_cons_zero, List.set_cons_succ]
 refine wpD_takeP (i := 2) (v := ?_) rfl (by kernel_rfl) (by kernel_rfl) (by kernel_rfl) (by kernel_rfl) (fun c a w h => h) (Or.inl ⟨by rfl, ?_⟩) (fun _ => hHeld) ?_
 rotate_left
 ·(intro w hSw; clear hSw; go_simp; try with_reducible rfl)
 simp only [Act.put, List.getElem_toArray, List.getElem_cons_zero, List.getElem_cons_succ, List.setIfInBounds_toArray, List.set_cons_zero, List.set_cons_succ]
 refine wpD_takeT (i := 3) (v := ?_) rfl (by kernel_rfl) (by kernel_rfl) (by kernel_rfl) (by kernel_rfl) (by kernel_rfl) (by kernel_rfl) (fun c a w h => h) (Or.inl ⟨by rfl, ?_⟩) hHeld ?_
 rotate_left
 ·(intro w hSw; (try dsimp only at hSw); go_simp; try with_reducible rfl)
 simp only [Act.put, List.getElem_toArray, List.getElem_cons_zero, List.getElem_cons_succ, List.setIfInBounds_toArray, List.set_cons_zero, List.set_cons_succ]
 refine wpD_takeP (i := 4) (v := ?_) rfl (by kernel_rfl) (by kernel_rfl) (by kernel_rfl) (by kernel_rfl) (fun c a w h => h) (Or.inl ⟨by rfl, ?_⟩) (fun _ => hHeld) ?_
 rotate_left
 ·(intro w hSw; clear hSw; go_simp; try with_reducible rfl)
 simp only [Act.put, List.getElem_toArray, List.getElem_cons_zero, List.getElem_cons_succ, List.setIfInBounds_toArray, List.set_cons_zero, List.set_cons_succ]
 refine wpD_takeP (i := 5) (v := ?_) rfl (by kernel_rfl) (by kernel_rfl) (by kernel_rfl) (by kernel_rfl) (fun c a w h => h) (Or.inl ⟨by rfl, ?_⟩) (fun _ => hHeld) ?_
 rotate_left
 ·(intro w hSw; clear hSw; go_simp; try with_reducible rfl)
 simp only [Act.put, List.getElem_toArray, List.getElem_cons_zero, List.getElem_cons_succ, List.setIfInBounds_toArray, List.set_cons_zero, List.set_cons_succ]
 refine wpD_takeP (i := 6) (v := ?_) rfl (by kernel_rfl) (by kernel_rfl) (by kernel_rfl) (by kernel_rfl) (fun c a w h => h) (Or.inl ⟨by rfl, ?_⟩) (fun _ => hHeld) ?_
 rotate_left
 ·(intro w hSw; clear hSw; go_simp; try with_reducible rfl)
 simp only [Act.put, List.getElem_toArray, List.getElem_cons_zero, List.getElem_cons_succ, List.setIfInBounds_toArray, List.set_cons_zero, List.set_cons_succ]
 have x6 := H4.out.1.cells.2.2.2.2.2.2.1
 have z6 := H4.out.1.fro 6
 refine wpD_ready (rs := [7]) (by kernel_rfl) (by simp) ?_
 refine AllD.cons rfl (fun K hK => ?_) AllD.nil
 go_simp
 refine hK.out _ _ (show (y2.setCell ⟨g, 6, none⟩ (.bool false)).cell? ⟨W.heap.size, 1, none⟩ = some (.int .i64 s.h) from (show SB (y2.setCell ⟨g, 6, none⟩ (.bool false)) W.heap.size s from (S.setCell_other y2 g 6 W.heap.size (.bool false) HN.out.1).trans H4.out.2.1).cells.2.1) (fun hHeld => ?_)
 clear hK K
 try simp only [Act.put, List.getElem_toArray, List.getElem_cons_zero, List.getElem_cons_succ, List.setIfInBounds_toArray, List.set_cons_zero, List.set_cons_succ]
 have e1 := S.setCell_heap y2 g 6 _ 112 (.bool false) H4.out.1
 have x7 := S.cell_of _ g 7 _ 112 _ e1 rfl
 have z7 := S.frozen_of _ g 7 _ 112 e1
 have HE := hid e1
 clear e1 x6 z6
 refine wpD_takeP (i := 8) (v := ?_) rfl (by kernel_rfl) (by kernel_rfl) (by kernel_rfl) (by kernel_rfl) (fun c a w h => h) (Or.inl ⟨by rfl, ?_⟩) (fun _ => hHeld) ?_
 rotate_left
 ·(intro w hSw; clear hSw; go_simp; try with_reducible rfl)
 simp only [Act.put, List.getElem_toArray, List.getElem_cons_zero, List.getElem_cons_succ, List.setIfInBounds_toArray, List.set_cons_zero, List.set_cons_succ]
 refine wpD_takeP (i := 9) (v := ?_) rfl (by kernel_rfl) (by kernel_rfl) (by kernel_rfl) (by kernel_rfl) (fun c a w h => h) (Or.inl ⟨by rfl, ?_⟩) (fun _ => hHeld) ?_
 rotate_left
 ·(intro w hSw; clear hSw; go_simp; try with_reducible rfl)
 simp only [Act.put, List.getElem_toArray, List.getElem_cons_zero, List.getElem_cons_succ, List.setIfInBounds_toArray, List.set_cons_zero, List.set_cons_succ]
 refine wpD_ready (rs := [10]) (by kernel_rfl) (by simp) ?_
 refine AllD.cons rfl (fun K hK => ?_) AllD.nil
 go_simp
 have hSB : SB ((y2.setCell ⟨g, 6, none⟩ (.bool false)).setCell ⟨g, 7, none⟩ (.int .i64 s.h)) W.heap.size s := (S.setCell_other _ g 7 W.heap.size _ HN.out.1).trans ((S.setCell_other y2 g 6 W.heap.size (.bool false) HN.out.1).trans H4.out.2.1)
 refine hK.out _ _ hSB.cells.2.1 (fun hHeld => ?_)
 clear hK K
 try simp only [Act.put, List.getElem_toArray, List.getElem_cons_zero, List.getElem_cons_succ, List.setIfInBounds_toArray, List.set_cons_zero, List.set_cons_succ]
 refine wpD_done (by kernel_rfl) ?_ _
 go_end0
 rw [HR.out]
 have hE : EW ((y2.setCell ⟨g, 6, none⟩ (.bool false)).setCell ⟨g, 7, none⟩ (.int .i64 s.h)) g mv av { w with nv := false, lf := s.h } := S.setCell_heap _ g 7 _ 112 (.int .i64 s.h) HE.out
 exact ⟨rfl, hE, (((Gw.of H4.out.2.2).setG 6 _).setG 7 _)⟩
theorem lv_same (s : St) (p : Ps) (w : Wk) (g : Nat) (mv av : Value) (W : World) (h : EW W g mv av w) (ho : s.own.isEmpty = true) (hnv : w.nv = false) (hl : (w.lf == s.h) = true) :
  Calls Tryz.prog 68 #[.pointer (some ⟨g, 0, none⟩), .agg (stc s).toArray, .agg #[.int .i64 p.1, .int .i64 p.2]] W (EU W g mv av (leave s p w)) := by
 obtain ⟨W0, W1, hW0, hW1, hB, hs0, hs1, k1, k2⟩ := box_sp s p W
 have hE : EW W1 g mv av w := (hB.block g h.lt).trans h
 have hgl := h.lt
 have n1 : W.heap.size ≠ g := by omega
 have n2 : W0.heap.size ≠ g := by omega
 obtain ⟨x0, x1, x2⟩ := k1.cells
 obtain ⟨y0, y1⟩ := k2.cells
 have H1 := hid (And.intro k1 (And.intro k2 (And.intro hE hB)))
 have HN := hid (And.intro n1 n2)
 clear k1 k2 hE hB n1 n2 hs0 hs1 h hgl
 unfold stc
 have HR : Y.Hd (leave s p w = .ok { w with nv := false, lf := s.h }) := ⟨by unfold leave; rw [if_pos (by simpa using ho), if_pos (Or.inr (by simpa using hl))]⟩
 generalize leave s p w = R at *
 have hc := must_true 152 p W1
 go_enter Tryz.func68, Tryz.ntmps68
 go_wp2_with fail
 refine hc.mono ?_
 rintro e w1 ⟨rfl, hb⟩
 clear hc x0 x1 x2 y0 y1 hW0 hW1 ho
 have H2 := hid (And.intro (H1.out.1.below hb) (And.intro (H1.out.2.1.below hb) (And.intro (H1.out.2.2.1.below hb) (H1.out.2.2.2.trans (hb.mono H1.out.2.2.2.size)))))
 clear hb H1
 have HK : Y.Hd (∀ wz, Below w1.heap.size w1 wz -> (fun wz : World => wz.cell? ⟨g, 6, none⟩ = some (.bool false) /\ wz.cell? ⟨g, 7, none⟩ = some (.int .i64 w.lf) /\ wz.cell? ⟨W.heap.size, 1, none⟩ = some (.int .i64 s.h) /\ wz.cell? ⟨W0.heap.size, 0, none⟩ = some (.int .i64 p.1) /\ wz.cell? ⟨W0.heap.size, 1, none⟩ = some (.int .i64 p.2)) wz) := ⟨fun wz hz => by
  obtain ⟨_, a1, _⟩ := (H2.out.1.below hz).cells
  obtain ⟨b0, b1⟩ := (H2.out.2.1.below hz).cells
  obtain ⟨_, _, _, _, _, _, c6, c7⟩ := (H2.out.2.2.1.below hz).cells
  try rw [hnv] at c6
  exact ⟨c6, c7, a1, b0, b1⟩⟩
 go_upto_region 2 with fail
 refine wp_region_drop [] (S := fun wz : World => wz.cell? ⟨g, 6, none⟩ = some (.bool false) /\ wz.cell? ⟨g, 7, none⟩ = some (.int .i64 w.lf) /\ wz.cell? ⟨W.heap.size, 1, none⟩ = some (.int .i64 s.h) /\ wz.cell? ⟨W0.heap.size, 0, none⟩ = some (.int .i64 p.1) /\ wz.cell? ⟨W0.heap.size, 1, none⟩ = some (.int .i64 p.2)) (by kernel_rfl) (HK.out w1.drew (Below.refl _ _).drew) (fun hHeld => ?_)
 have HB0 := hid (Below.refl w1.heap.size w1).drew
 generalize w1.drew = y0 at *
 refine wpD_takeP (i := 0) (v := ?_) rfl (by kernel_rfl) (by kernel_rfl) (by kernel_rfl) (by kernel_rfl) (fun c a w h => h) (Or.inl ⟨by rfl, ?_⟩) (fun _ => hHeld) ?_
 rotate_left
 ·(intro w hSw; clear hSw; go_simp; try with_reducible rfl)
 simp only [Act.put, List.getElem_toArray, List.getElem_cons_zero, List.getElem_cons_succ, List.setIfInBounds_toArray, List.set_cons_zero, List.set_cons_succ]
 refine wpD_takeP (i := 1) (v := ?_) rfl (by kernel_rfl) (by kernel_rfl) (by kernel_rfl) (by kernel_rfl) (fun c a w h => h) (Or.inl ⟨by rfl, ?_⟩) (fun _ => hHeld) ?_
 rotate_left
 ·(intro w hSw; clear hSw; go_simp; try with_reducible rfl)
 simp only [Act.put, List.getElem_toArray, List.getElem_cons_zero, List.getElem_cons_succ, List.setIfInBounds_toArray, List.set_cons_zero, List.set_cons_succ]
 refine wpD_takeP (i := 2) (v := ?_) rfl (by kernel_rfl) (by kernel_rfl) (by kernel_rfl) (by kernel_rfl) (fun c a w h => h) (Or.inl ⟨by rfl, ?_⟩) (fun _ => hHeld) ?_
 rotate_left
 ·(intro w hSw; clear hSw; go_simp; try with_reducible rfl)
 simp only [Act.put, List.getElem_toArray, List.getElem_cons_zero, List.getElem_cons_succ, List.setIfInBounds_toArray, List.set_cons_zero, List.set_cons_succ]
 refine wpD_takeP (i := 3) (v := ?_) rfl (by kernel_rfl) (by kernel_rfl) (by kernel_rfl) (by kernel_rfl) (fun c a w h => h) (Or.inl ⟨by rfl, ?_⟩) (fun _ => hHeld) ?_
 rotate_left
 ·(intro w hSw; clear hSw; go_simp; try with_reducible rfl)
 simp only [Act.put, List.getElem_toArray, List.getElem_cons_zero, List.getElem_cons_succ, List.setIfInBounds_toArray, List.set_cons_zero, List.set_cons_succ]
 refine wpD_takeT (i := 4) (v := ?_) rfl (by kernel_rfl) (by kernel_rfl) (by kernel_rfl) (by kernel_rfl) (by kernel_rfl) (by kernel_rfl) (fun c a w h => h) (Or.inl ⟨by rfl, ?_⟩) hHeld ?_
 rotate_left
 ·(intro w hSw; (try dsimp only at hSw); go_simp; try with_reducible rfl)
 simp only [Act.put, List.getElem_toArray, List.getElem_cons_zero, List.getElem_cons_succ, List.setIfInBounds_toArray, List.set_cons_zero, List.set_cons_succ]
 refine wpD_takeP (i := 5) (v := ?_) rfl (by kernel_rfl) (by kernel_rfl) (by kernel_rfl) (by kernel_rfl) (fun c a w h => h) (Or.inl ⟨by rfl, ?_⟩) (fun _ => hHeld) ?_
 rotate_left
 ·(intro w hSw; clear hSw; go_simp; try with_reducible rfl)
 simp only [Act.put, List.getElem_toArray, List.getElem_cons_zero, List.getElem_cons_succ, List.setIfInBounds_toArray, List.set_cons_zero, List.set_cons_succ]
 refine wpD_takeP (i := 6) (v := ?_) rfl (by kernel_rfl) (by kernel_rfl) (by kernel_rfl) (by kernel_rfl) (fun c a w h => h) (Or.inl ⟨by rfl, ?_⟩) (fun _ => hHeld) ?_
 rotate_left
 ·(intro w hSw; clear hSw; go_simp; try with_reducible rfl)
 simp only [Act.put, List.getElem_toArray, List.getElem_cons_zero, List.getElem_cons_succ, List.setIfInBounds_toArray, List.set_cons_zero, List.set_cons_succ]
 refine wpD_takeP (i := 7) (v := ?_) rfl (by kernel_rfl) (by kernel_rfl) (by kernel_rfl) (by kernel_rfl) (fun c a w h => h) (Or.inl ⟨by rfl, ?_⟩) (fun _ => hHeld) ?_
 rotate_left
 ·(intro w hSw; clear hSw; go_simp; try with_reducible rfl)
 simp only [Act.put, List.getElem_toArray, List.getElem_cons_zero, List.getElem_cons_succ, List.setIfInBounds_toArray, List.set_cons_zero, List.set_cons_succ]
 refine wpD_takeP (i := 8) (v := ?_) rfl (by kernel_rfl) (by kernel_rfl) (by kernel_rfl) (by kernel_rfl) (fun c a w h => h) (Or.inl ⟨by rfl, ?_⟩) (fun _ => hHeld) ?_
 rotate_left
 ·(intro w hSw; clear hSw; go_simp; try with_reducible rfl)
 simp only [Act.put, List.getElem_toArray, List.getElem_cons_zero, List.getElem_cons_succ, List.setIfInBounds_toArray, List.set_cons_zero, List.set_cons_succ]
 refine wpD_takeT (i := 9) (v := ?_) rfl (by kernel_rfl) (by kernel_rfl) (by kernel_rfl) (by kernel_rfl) (by kernel_rfl) (by kernel_rfl) (fun c a w h => h) (Or.inl ⟨by rfl, ?_⟩) hHeld ?_
 rotate_left
 ·(intro w hSw; (try dsimp only at hSw); go_simp; try with_reducible rfl)
 simp only [Act.put, List.getElem_toArray, List.getElem_cons_zero, List.getElem_cons_succ, List.setIfInBounds_toArray, List.set_cons_zero, List.set_cons_succ]
 refine wpD_takeP (i := 10) (v := ?_) rfl (by kernel_rfl) (by kernel_rfl) (by kernel_rfl) (by kernel_rfl) (fun c a w h => h) (Or.inl ⟨by rfl, ?_⟩) (fun _ => hHeld) ?_
 rotate_left
 ·(intro w hSw; clear hSw; go_simp; try with_reducible rfl)
 simp only [Act.put, List.getElem_toArray, List.getElem_cons_zero, List.getElem_cons_succ, List.setIfInBounds_toArray, List.set_cons_zero, List.set_cons_succ]
 refine wpD_takeT (i := 11) (v := ?_) rfl (by kernel_rfl) (by kernel_rfl) (by kernel_rfl) (by kernel_rfl) (by kernel_rfl) (by kernel_rfl) (fun c a w h => h) (Or.inl ⟨by rfl, ?_⟩) hHeld ?_
 rotate_left
 ·(intro w hSw; (try dsimp only at hSw); go_simp; try with_reducible rfl)
 simp only [Act.put, List.getElem_toArray, List.getElem_cons_zero, List.getElem_cons_succ, List.setIfInBounds_toArray, List.set_cons_zero, List.set_cons_succ]
 refine wpD_takeP (i := 12) (v := ?_) rfl (by kernel_rfl) (by kernel_rfl) (by kernel_rfl) (by kernel_rfl) (fun c a w h => h) (Or.inl ⟨by rfl, ?_⟩) (fun _ => hHeld) ?_
 rotate_left
 ·(intro w hSw; clear hSw; go_simp; try with_reducible rfl)
 simp only [Act.put, List.getElem_toArray, List.getElem_cons_zero, List.getElem_cons_succ, List.setIfInBounds_toArray, List.set_cons_zero, List.set_cons_succ]
 refine wpD_takeP (i := 13) (v := ?_) rfl (by kernel_rfl) (by kernel_rfl) (by kernel_rfl) (by kernel_rfl) (fun c a w h => h) (Or.inl ⟨by rfl, ?_⟩) (fun _ => hHeld) ?_
 rotate_left
 ·(intro w hSw; clear hSw; go_simp; try with_reducible rfl)
 simp only [Act.put, List.getElem_toArray, List.getElem_cons_zero, List.getElem_cons_succ, List.setIfInBounds_toArray, List.set_cons_zero, List.set_cons_succ]
 refine wpD_takeT (i := 14) (v := ?_) rfl (by kernel_rfl) (by kernel_rfl) (by kernel_rfl) (by kernel_rfl) (by kernel_rfl) (by kernel_rfl) (fun c a w h => h) (Or.inl ⟨by rfl, ?_⟩) hHeld ?_
 rotate_left
 ·(intro w hSw; (try dsimp only at hSw); go_simp; try with_reducible rfl)
 simp only [Act.put, List.getElem_toArray, List.getElem_cons_zero, List.getElem_cons_succ, List.setIfInBounds_toArray, List.set_cons_zero, List.set_cons_succ]
 refine wpD_ready (rs := [15]) (by kernel_rfl) (by simp) ?_
 refine AllD.cons rfl (fun K hK => ?_) AllD.nil
 go_simp
 refine (must_true 150 p y0).mono ?_
 rintro e y1 ⟨rfl, hb⟩
 have HB1 := hid (HB0.out.trans (hb.mono HB0.out.size))
 clear hb
 refine hK.out _ _ (HK.out _ HB1.out) (fun hHeld => ?_)
 clear hK K
 try simp only [Act.put, List.getElem_toArray, List.getElem_cons_zero, List.getElem_cons_succ, List.setIfInBounds_toArray, List.set_cons_zero, List.set_cons_succ]
 refine wpD_done (by kernel_rfl) ?_ _
 clear hl
 have H3 := hid (And.intro (H2.out.1.below HB1.out) (And.intro (H2.out.2.2.1.below HB1.out) (H2.out.2.2.2.trans (HB1.out.mono H2.out.2.2.2.size))))
 clear H2 HB0 HB1 HK hHeld
 go_upto_region 3 with fail
 have t1 : (fun wz : World => wz.cell? ⟨W.heap.size, 1, none⟩ = some (.int .i64 s.h)) y1.drew := H3.out.1.cells.2.1
 refine wp_region_drop [] (S := fun wz : World => wz.cell? ⟨W.heap.size, 1, none⟩ = some (.int .i64 s.h)) (by kernel_rfl) t1 (fun hHeld => ?_)
 have H4 : Y.Hd (EW y1.drew g mv av w /\ SB y1.drew W.heap.size s /\ Below W.heap.size W y1.drew) := ⟨H3.out.2.1, H3.out.1, H3.out.2.2.drew⟩
 generalize y1.drew = y2 at *
 clear t1
 refine wpD_takeP (i := 0) (v := ?_) rfl (by kernel_rfl) (by kernel_rfl) (by kernel_rfl) (by kernel_rfl) (fun c a w h => h) (Or.inl ⟨by rfl, ?_⟩) (fun _ => hHeld) ?_
 rotate_left
 ·(intro w hSw; clear hSw; go_simp; try with_reducible rfl)
 simp only [Act.put, List.getElem_toArray, List.getElem_cons_zero, List.getElem_cons_succ, List.setIfInBounds_toArray, List.set_cons_zero, List.set_cons_succ]
 refine wpD_takeP (i := 1) (v := ?_) rfl (by kernel_rfl) (by kernel_rfl) (by kernel_rfl) (by kernel_rfl) (fun c a w h => h) (Or.inl ⟨by rfl, ?_⟩) (fun _ => hHeld) ?_
 rotate_left
 ·(intro w hSw; clear hSw; go_simp; try with_reducible rfl)
 simp only [Act.put, List.getElem_toArray, List.getElem_cons_zero, List.getElem_cons_succ, List.setIfInBounds_toArray, List.set_cons_zero, List.set_cons_succ]
 refine wpD_takeP (i := 2) (v := ?_) rfl (by kernel_rfl) (by kernel_rfl) (by kernel_rfl) (by kernel_rfl) (fun c a w h => h) (Or.inl ⟨by rfl, ?_⟩) (fun _ => hHeld) ?_
 rotate_left
 ·(intro w hSw; clear hSw; go_simp; try with_reducible rfl)
 simp only [Act.put, List.getElem_toArray, List.getElem_cons_zero, List.getElem_cons_succ, List.setIfInBounds_toArray, List.set_cons_zero, List.set_cons_succ]
 refine wpD_takeT (i := 3) (v := ?_) rfl (by kernel_rfl) (by kernel_rfl) (by kernel_rfl) (by kernel_rfl) (by kernel_rfl) (by kernel_rfl) (fun c a w h => h) (Or.inl ⟨by rfl, ?_⟩) hHeld ?_
 rotate_left
 ·(intro w hSw; (try dsimp only at hSw); go_simp; try with_reducible rfl)
 simp only [Act.put, List.getElem_toArray, List.getElem_cons_zero, List.getElem_cons_succ, List.setIfInBounds_toArray, List.set_cons_zero, List.set_cons_succ]
 refine wpD_takeP (i := 4) (v := ?_) rfl (by kernel_rfl) (by kernel_rfl) (by kernel_rfl) (by kernel_rfl) (fun c a w h => h) (Or.inl ⟨by rfl, ?_⟩) (fun _ => hHeld) ?_
 rotate_left
 ·(intro w hSw; clear hSw; go_simp; try with_reducible rfl)
 simp only [Act.put, List.getElem_toArray, List.getElem_cons_zero, List.getElem_cons_succ, List.setIfInBounds_toArray, List.set_cons_zero, List.set_cons_succ]
 refine wpD_takeP (i := 5) (v := ?_) rfl (by kernel_rfl) (by kernel_rfl) (by kernel_rfl) (by kernel_rfl) (fun c a w h => h) (Or.inl ⟨by rfl, ?_⟩) (fun _ => hHeld) ?_
 rotate_left
 ·(intro w hSw; clear hSw; go_simp; try with_reducible rfl)
 simp only [Act.put, List.getElem_toArray, List.getElem_cons_zero, List.getElem_cons_succ, List.setIfInBounds_toArray, List.set_cons_zero, List.set_cons_succ]
 refine wpD_takeP (i := 6) (v := ?_) rfl (by kernel_rfl) (by kernel_rfl) (by kernel_rfl) (by kernel_rfl) (fun c a w h => h) (Or.inl ⟨by rfl, ?_⟩) (fun _ => hHeld) ?_
 rotate_left
 ·(intro w hSw; clear hSw; go_simp; try with_reducible rfl)
 simp only [Act.put, List.getElem_toArray, List.getElem_cons_zero, List.getElem_cons_succ, List.setIfInBounds_toArray, List.set_cons_zero, List.set_cons_succ]
 have x6 := H4.out.1.cells.2.2.2.2.2.2.1
 have z6 := H4.out.1.fro 6
 refine wpD_ready (rs := [7]) (by kernel_rfl) (by simp) ?_
 refine AllD.cons rfl (fun K hK => ?_) AllD.nil
 go_simp
 refine hK.out _ _ (show (y2.setCell ⟨g, 6, none⟩ (.bool false)).cell? ⟨W.heap.size, 1, none⟩ = some (.int .i64 s.h) from (show SB (y2.setCell ⟨g, 6, none⟩ (.bool false)) W.heap.size s from (S.setCell_other y2 g 6 W.heap.size (.bool false) HN.out.1).trans H4.out.2.1).cells.2.1) (fun hHeld => ?_)
 clear hK K
 try simp only [Act.put, List.getElem_toArray, List.getElem_cons_zero, List.getElem_cons_succ, List.setIfInBounds_toArray, List.set_cons_zero, List.set_cons_succ]
 have e1 := S.setCell_heap y2 g 6 _ 112 (.bool false) H4.out.1
 have x7 := S.cell_of _ g 7 _ 112 _ e1 rfl
 have z7 := S.frozen_of _ g 7 _ 112 e1
 have HE := hid e1
 clear e1 x6 z6
 refine wpD_takeP (i := 8) (v := ?_) rfl (by kernel_rfl) (by kernel_rfl) (by kernel_rfl) (by kernel_rfl) (fun c a w h => h) (Or.inl ⟨by rfl, ?_⟩) (fun _ => hHeld) ?_
 rotate_left
 ·(intro w hSw; clear hSw; go_simp; try with_reducible rfl)
 simp only [Act.put, List.getElem_toArray, List.getElem_cons_zero, List.getElem_cons_succ, List.setIfInBounds_toArray, List.set_cons_zero, List.set_cons_succ]
 refine wpD_takeP (i := 9) (v := ?_) rfl (by kernel_rfl) (by kernel_rfl) (by kernel_rfl) (by kernel_rfl) (fun c a w h => h) (Or.inl ⟨by rfl, ?_⟩) (fun _ => hHeld) ?_
 rotate_left
 ·(intro w hSw; clear hSw; go_simp; try with_reducible rfl)
 simp only [Act.put, List.getElem_toArray, List.getElem_cons_zero, List.getElem_cons_succ, List.setIfInBounds_toArray, List.set_cons_zero, List.set_cons_succ]
 refine wpD_ready (rs := [10]) (by kernel_rfl) (by simp) ?_
 refine AllD.cons rfl (fun K hK => ?_) AllD.nil
 go_simp
 have hSB : SB ((y2.setCell ⟨g, 6, none⟩ (.bool false)).setCell ⟨g, 7, none⟩ (.int .i64 s.h)) W.heap.size s := (S.setCell_other _ g 7 W.heap.size _ HN.out.1).trans ((S.setCell_other y2 g 6 W.heap.size (.bool false) HN.out.1).trans H4.out.2.1)
 refine hK.out _ _ hSB.cells.2.1 (fun hHeld => ?_)
 clear hK K
 try simp only [Act.put, List.getElem_toArray, List.getElem_cons_zero, List.getElem_cons_succ, List.setIfInBounds_toArray, List.set_cons_zero, List.set_cons_succ]
 refine wpD_done (by kernel_rfl) ?_ _
 go_end0
 rw [HR.out]
 have hE : EW ((y2.setCell ⟨g, 6, none⟩ (.bool false)).setCell ⟨g, 7, none⟩ (.int .i64 s.h)) g mv av { w with nv := false, lf := s.h } := S.setCell_heap _ g 7 _ 112 (.int .i64 s.h) HE.out
 exact ⟨rfl, hE, (((Gw.of H4.out.2.2).setG 6 _).setG 7 _)⟩
theorem lv_join (s : St) (p : Ps) (w : Wk) (g : Nat) (mv av : Value) (W : World) (h : EW W g mv av w) (ho : s.own.isEmpty = true) (hnv : w.nv = false) (hl : (w.lf == s.h) = false) :
  Calls Tryz.prog 68 #[.pointer (some ⟨g, 0, none⟩), .agg (stc s).toArray, .agg #[.int .i64 p.1, .int .i64 p.2]] W (EU W g mv av (leave s p w)) := by
 obtain ⟨W0, W1, hW0, hW1, hB, hs0, hs1, k1, k2⟩ := box_sp s p W
 have hE : EW W1 g mv av w := (hB.block g h.lt).trans h
 have hgl := h.lt
 have n1 : W.heap.size ≠ g := by omega
 have n2 : W0.heap.size ≠ g := by omega
 obtain ⟨x0, x1, x2⟩ := k1.cells
 obtain ⟨y0, y1⟩ := k2.cells
 have H1 := hid (And.intro k1 (And.intro k2 (And.intro hE hB)))
 have HN := hid (And.intro n1 n2)
 clear k1 k2 hE hB n1 n2 hs0 hs1 h hgl
 unfold stc
 have HR : Y.Hd (leave s p w = .error (150, p)) := ⟨by unfold leave; rw [if_pos (by simpa using ho), if_neg (fun c => by rcases c with c | c <;> simp_all)]⟩
 generalize leave s p w = R at *
 have hc := must_true 152 p W1
 go_enter Tryz.func68, Tryz.ntmps68
 go_wp2_with fail
 refine hc.mono ?_
 rintro e w1 ⟨rfl, hb⟩
 clear hc x0 x1 x2 y0 y1 hW0 hW1 ho
 have H2 := hid (And.intro (H1.out.1.below hb) (And.intro (H1.out.2.1.below hb) (And.intro (H1.out.2.2.1.below hb) (H1.out.2.2.2.trans (hb.mono H1.out.2.2.2.size)))))
 clear hb H1
 have HK : Y.Hd (∀ wz, Below w1.heap.size w1 wz -> (fun wz : World => wz.cell? ⟨g, 6, none⟩ = some (.bool false) /\ wz.cell? ⟨g, 7, none⟩ = some (.int .i64 w.lf) /\ wz.cell? ⟨W.heap.size, 1, none⟩ = some (.int .i64 s.h) /\ wz.cell? ⟨W0.heap.size, 0, none⟩ = some (.int .i64 p.1) /\ wz.cell? ⟨W0.heap.size, 1, none⟩ = some (.int .i64 p.2)) wz) := ⟨fun wz hz => by
  obtain ⟨_, a1, _⟩ := (H2.out.1.below hz).cells
  obtain ⟨b0, b1⟩ := (H2.out.2.1.below hz).cells
  obtain ⟨_, _, _, _, _, _, c6, c7⟩ := (H2.out.2.2.1.below hz).cells
  try rw [hnv] at c6
  exact ⟨c6, c7, a1, b0, b1⟩⟩
 go_upto_region 2 with fail
 refine wp_region_drop [] (S := fun wz : World => wz.cell? ⟨g, 6, none⟩ = some (.bool false) /\ wz.cell? ⟨g, 7, none⟩ = some (.int .i64 w.lf) /\ wz.cell? ⟨W.heap.size, 1, none⟩ = some (.int .i64 s.h) /\ wz.cell? ⟨W0.heap.size, 0, none⟩ = some (.int .i64 p.1) /\ wz.cell? ⟨W0.heap.size, 1, none⟩ = some (.int .i64 p.2)) (by kernel_rfl) (HK.out w1.drew (Below.refl _ _).drew) (fun hHeld => ?_)
 have HB0 := hid (Below.refl w1.heap.size w1).drew
 generalize w1.drew = y0 at *
 refine wpD_takeP (i := 0) (v := ?_) rfl (by kernel_rfl) (by kernel_rfl) (by kernel_rfl) (by kernel_rfl) (fun c a w h => h) (Or.inl ⟨by rfl, ?_⟩) (fun _ => hHeld) ?_
 rotate_left
 ·(intro w hSw; clear hSw; go_simp; try with_reducible rfl)
 simp only [Act.put, List.getElem_toArray, List.getElem_cons_zero, List.getElem_cons_succ, List.setIfInBounds_toArray, List.set_cons_zero, List.set_cons_succ]
 refine wpD_takeP (i := 1) (v := ?_) rfl (by kernel_rfl) (by kernel_rfl) (by kernel_rfl) (by kernel_rfl) (fun c a w h => h) (Or.inl ⟨by rfl, ?_⟩) (fun _ => hHeld) ?_
 rotate_left
 ·(intro w hSw; clear hSw; go_simp; try with_reducible rfl)
 simp only [Act.put, List.getElem_toArray, List.getElem_cons_zero, List.getElem_cons_succ, List.setIfInBounds_toArray, List.set_cons_zero, List.set_cons_succ]
 refine wpD_takeP (i := 2) (v := ?_) rfl (by kernel_rfl) (by kernel_rfl) (by kernel_rfl) (by kernel_rfl) (fun c a w h => h) (Or.inl ⟨by rfl, ?_⟩) (fun _ => hHeld) ?_
 rotate_left
 ·(intro w hSw; clear hSw; go_simp; try with_reducible rfl)
 simp only [Act.put, List.getElem_toArray, List.getElem_cons_zero, List.getElem_cons_succ, List.setIfInBounds_toArray, List.set_cons_zero, List.set_cons_succ]
 refine wpD_takeP (i := 3) (v := ?_) rfl (by kernel_rfl) (by kernel_rfl) (by kernel_rfl) (by kernel_rfl) (fun c a w h => h) (Or.inl ⟨by rfl, ?_⟩) (fun _ => hHeld) ?_
 rotate_left
 ·(intro w hSw; clear hSw; go_simp; try with_reducible rfl)
 simp only [Act.put, List.getElem_toArray, List.getElem_cons_zero, List.getElem_cons_succ, List.setIfInBounds_toArray, List.set_cons_zero, List.set_cons_succ]
 refine wpD_takeT (i := 4) (v := ?_) rfl (by kernel_rfl) (by kernel_rfl) (by kernel_rfl) (by kernel_rfl) (by kernel_rfl) (by kernel_rfl) (fun c a w h => h) (Or.inl ⟨by rfl, ?_⟩) hHeld ?_
 rotate_left
 ·(intro w hSw; (try dsimp only at hSw); go_simp; try with_reducible rfl)
 simp only [Act.put, List.getElem_toArray, List.getElem_cons_zero, List.getElem_cons_succ, List.setIfInBounds_toArray, List.set_cons_zero, List.set_cons_succ]
 refine wpD_takeP (i := 5) (v := ?_) rfl (by kernel_rfl) (by kernel_rfl) (by kernel_rfl) (by kernel_rfl) (fun c a w h => h) (Or.inl ⟨by rfl, ?_⟩) (fun _ => hHeld) ?_
 rotate_left
 ·(intro w hSw; clear hSw; go_simp; try with_reducible rfl)
 simp only [Act.put, List.getElem_toArray, List.getElem_cons_zero, List.getElem_cons_succ, List.setIfInBounds_toArray, List.set_cons_zero, List.set_cons_succ]
 refine wpD_takeP (i := 6) (v := ?_) rfl (by kernel_rfl) (by kernel_rfl) (by kernel_rfl) (by kernel_rfl) (fun c a w h => h) (Or.inl ⟨by rfl, ?_⟩) (fun _ => hHeld) ?_
 rotate_left
 ·(intro w hSw; clear hSw; go_simp; try with_reducible rfl)
 simp only [Act.put, List.getElem_toArray, List.getElem_cons_zero, List.getElem_cons_succ, List.setIfInBounds_toArray, List.set_cons_zero, List.set_cons_succ]
 refine wpD_takeP (i := 7) (v := ?_) rfl (by kernel_rfl) (by kernel_rfl) (by kernel_rfl) (by kernel_rfl) (fun c a w h => h) (Or.inl ⟨by rfl, ?_⟩) (fun _ => hHeld) ?_
 rotate_left
 ·(intro w hSw; clear hSw; go_simp; try with_reducible rfl)
 simp only [Act.put, List.getElem_toArray, List.getElem_cons_zero, List.getElem_cons_succ, List.setIfInBounds_toArray, List.set_cons_zero, List.set_cons_succ]
 refine wpD_takeP (i := 8) (v := ?_) rfl (by kernel_rfl) (by kernel_rfl) (by kernel_rfl) (by kernel_rfl) (fun c a w h => h) (Or.inl ⟨by rfl, ?_⟩) (fun _ => hHeld) ?_
 rotate_left
 ·(intro w hSw; clear hSw; go_simp; try with_reducible rfl)
 simp only [Act.put, List.getElem_toArray, List.getElem_cons_zero, List.getElem_cons_succ, List.setIfInBounds_toArray, List.set_cons_zero, List.set_cons_succ]
 refine wpD_takeT (i := 9) (v := ?_) rfl (by kernel_rfl) (by kernel_rfl) (by kernel_rfl) (by kernel_rfl) (by kernel_rfl) (by kernel_rfl) (fun c a w h => h) (Or.inl ⟨by rfl, ?_⟩) hHeld ?_
 rotate_left
 ·(intro w hSw; (try dsimp only at hSw); go_simp; try with_reducible rfl)
 simp only [Act.put, List.getElem_toArray, List.getElem_cons_zero, List.getElem_cons_succ, List.setIfInBounds_toArray, List.set_cons_zero, List.set_cons_succ]
 refine wpD_takeP (i := 10) (v := ?_) rfl (by kernel_rfl) (by kernel_rfl) (by kernel_rfl) (by kernel_rfl) (fun c a w h => h) (Or.inl ⟨by rfl, ?_⟩) (fun _ => hHeld) ?_
 rotate_left
 ·(intro w hSw; clear hSw; go_simp; try with_reducible rfl)
 simp only [Act.put, List.getElem_toArray, List.getElem_cons_zero, List.getElem_cons_succ, List.setIfInBounds_toArray, List.set_cons_zero, List.set_cons_succ]
 refine wpD_takeT (i := 11) (v := ?_) rfl (by kernel_rfl) (by kernel_rfl) (by kernel_rfl) (by kernel_rfl) (by kernel_rfl) (by kernel_rfl) (fun c a w h => h) (Or.inl ⟨by rfl, ?_⟩) hHeld ?_
 rotate_left
 ·(intro w hSw; (try dsimp only at hSw); go_simp; try with_reducible rfl)
 simp only [Act.put, List.getElem_toArray, List.getElem_cons_zero, List.getElem_cons_succ, List.setIfInBounds_toArray, List.set_cons_zero, List.set_cons_succ]
 refine wpD_takeP (i := 12) (v := ?_) rfl (by kernel_rfl) (by kernel_rfl) (by kernel_rfl) (by kernel_rfl) (fun c a w h => h) (Or.inl ⟨by rfl, ?_⟩) (fun _ => hHeld) ?_
 rotate_left
 ·(intro w hSw; clear hSw; go_simp; try with_reducible rfl)
 simp only [Act.put, List.getElem_toArray, List.getElem_cons_zero, List.getElem_cons_succ, List.setIfInBounds_toArray, List.set_cons_zero, List.set_cons_succ]
 refine wpD_takeP (i := 13) (v := ?_) rfl (by kernel_rfl) (by kernel_rfl) (by kernel_rfl) (by kernel_rfl) (fun c a w h => h) (Or.inl ⟨by rfl, ?_⟩) (fun _ => hHeld) ?_
 rotate_left
 ·(intro w hSw; clear hSw; go_simp; try with_reducible rfl)
 simp only [Act.put, List.getElem_toArray, List.getElem_cons_zero, List.getElem_cons_succ, List.setIfInBounds_toArray, List.set_cons_zero, List.set_cons_succ]
 refine wpD_takeT (i := 14) (v := ?_) rfl (by kernel_rfl) (by kernel_rfl) (by kernel_rfl) (by kernel_rfl) (by kernel_rfl) (by kernel_rfl) (fun c a w h => h) (Or.inl ⟨by rfl, ?_⟩) hHeld ?_
 rotate_left
 ·(intro w hSw; (try dsimp only at hSw); go_simp; try with_reducible rfl)
 simp only [Act.put, List.getElem_toArray, List.getElem_cons_zero, List.getElem_cons_succ, List.setIfInBounds_toArray, List.set_cons_zero, List.set_cons_succ]
 refine wpD_ready (rs := [15]) (by kernel_rfl) (by simp) ?_
 refine AllD.cons rfl (fun K hK => ?_) AllD.nil
 go_simp
 refine (must_false 150 p y0).mono ?_
 rintro e y1 ⟨rfl, hb⟩
 refine ⟨rfl, ?_⟩
 rw [HR.out]
 exact ⟨rfl, (Gw.of H2.out.2.2.2).trans ((Gw.of HB0.out).trans (Gw.of hb))⟩
theorem leave_any (s : St) (p : Ps) (w : Wk) (g : Nat) (mv av : Value) (W : World) (h : EW W g mv av w) :
  Calls Tryz.prog 68 #[.pointer (some ⟨g, 0, none⟩), .agg (stc s).toArray, .agg #[.int .i64 p.1, .int .i64 p.2]] W (EU W g mv av (leave s p w)) := by
 cases ho : s.own.isEmpty with
 | true =>
  cases hnv : w.nv with
  | true => exact lv_never s p w g mv av W h ho hnv
  | false =>
   cases hl : (w.lf == s.h) with
   | true => exact lv_same s p w g mv av W h ho hnv hl
   | false => exact lv_join s p w g mv av W h ho hnv hl
 | false => exact lv_own s p w g mv av W h ho
end Go.Proofs.YtlilefhmohkfkaaGreatDoor.E
