import Derived.Test.YtoemoiehjdmheaaGreatZOnC
namespace Go.Proofs.YtoemoiehjdmheaaGreat.Z
open Go.RowKit
open Go.Proofs
open Go.Proofs.YtoemoiehjdmheaaGreat.Y (Nd Df Ps Pl hid ZV)
set_option linter.unusedVariables false
set_option linter.unusedSimpArgs false
set_option maxHeartbeats 4000000
set_option maxRecDepth 100000
section
variable {W W1 W' : World} {g bd br bm bs c : Nat} {F O : Nat -> Prop} {v v' : VS}
theorem trB {n : Nat} {w w1 w2 : World} (h : Below n w w1) (k : Below w1.heap.size w1 w2) (hs : n <= w1.heap.size) : Below n w w2 := h.trans (k.mono hs)
theorem MV.last (h : MV W g bd br bm bs c F O v) : ∃ x, W.cell? ⟨bs, v.o.length, none⟩ = some x /\ PV W O v.c.fr v.c.e x := by
 obtain ⟨xs, hr, hps⟩ := h.row
 obtain ⟨ys, zs, rfl, h1, h2⟩ := hps.parts
 obtain ⟨z, rfl, hz⟩ := h2.one
 refine ⟨z, ?_, hz⟩
 rw [hr.cellAt v.o.length (by omega), <- h1.len, List.getElem?_append_right (Nat.le_refl _), Nat.sub_self]
 rfl
theorem here_any (h : MV W g bd br bm bs c F O v) (hl : v.o.length <= 128) :
  Calls Tryz.prog 27 #[.pointer (some ⟨g, 0, none⟩)] W fun e w' => ∃ x, e = .returned x /\ PV W O v.c.fr v.c.e x /\ Below W.heap.size W w' := by
 obtain ⟨x, hx, hP⟩ := h.last
 obtain ⟨tt, xx, rfl⟩ := PV.isI _ _ _ hP
 have c5 := h.c5
 have hgs : g < W.heap.size := h.lt
 have hbs : bs < W.heap.size := h.lt_s
 have w1 : wrap64 (((v.o.length + 1 : Nat) : Int) - 1) = (v.o.length : Int) := by unfold wrap64; omega
 have i1 : (v.o.length : Int) < ((v.o.length + 1 : Nat) : Int) := by omega
 have HC := hid (fun (w : World) (k : Below W.heap.size W w) => And.intro ((k.cell hgs).trans c5) ((k.cell hbs).trans hx))
 have HP := hid hP
 clear hx hP h c5 hgs hbs
 generalize v.o.length = N at *
 have hwN : IntKind.i64.wrap (N : Int) = (N : Int) := S.i64_id _ (by omega) (by omega)
 have hN1 : (0 : Int) <= (N : Int) /\ (N : Int) < (N : Int) + 1 := ⟨by omega, by omega⟩
 go_enter Tryz.func27, Tryz.ntmps27
 go_upto_region 1 with fail
 refine wp_region_held_drew (S := fun w' : World => Below W.heap.size W w') (by kernel_rfl) (drewB W) (fun hHeld => ?_)
 generalize W.drew = y0 at *
 refine wpAnyH_take (i := 0) (v := ?_) rfl (by kernel_rfl) (by kernel_rfl) (by kernel_rfl) (fun c a w h => h) (Or.inl ⟨by rfl, ?_⟩) hHeld ?_
 rotate_left
 ·(intro w hSw; obtain ⟨c5, hx⟩ := HC.out w hSw; go_simp; try with_reducible rfl)
 simp only [Act.put, List.getElem_toArray, List.getElem_cons_zero, List.getElem_cons_succ, List.setIfInBounds_toArray, List.set_cons_zero, List.set_cons_succ]
 refine wpAnyH_take (i := 1) (v := ?_) rfl (by kernel_rfl) (by kernel_rfl) (by kernel_rfl) (fun c a w h => h) (Or.inl ⟨by rfl, ?_⟩) hHeld ?_
 rotate_left
 ·(intro w hSw; obtain ⟨c5, hx⟩ := HC.out w hSw; go_simp; try with_reducible rfl)
 simp only [Act.put, List.getElem_toArray, List.getElem_cons_zero, List.getElem_cons_succ, List.setIfInBounds_toArray, List.set_cons_zero, List.set_cons_succ]
 refine wpAnyH_take (i := 2) (v := ?_) rfl (by kernel_rfl) (by kernel_rfl) (by kernel_rfl) (fun c a w h => h) (Or.inl ⟨by rfl, ?_⟩) hHeld ?_
 rotate_left
 ·(intro w hSw; obtain ⟨c5, hx⟩ := HC.out w hSw; go_simp; try with_reducible rfl)
 simp only [Act.put, List.getElem_toArray, List.getElem_cons_zero, List.getElem_cons_succ, List.setIfInBounds_toArray, List.set_cons_zero, List.set_cons_succ]
 refine wpAnyH_take (i := 3) (v := ?_) rfl (by kernel_rfl) (by kernel_rfl) (by kernel_rfl) (fun c a w h => h) (Or.inl ⟨by rfl, ?_⟩) hHeld ?_
 rotate_left
 ·(intro w hSw; obtain ⟨c5, hx⟩ := HC.out w hSw; go_simp; try with_reducible rfl)
 simp only [Act.put, List.getElem_toArray, List.getElem_cons_zero, List.getElem_cons_succ, List.setIfInBounds_toArray, List.set_cons_zero, List.set_cons_succ]
 refine wpAnyH_take (i := 4) (v := ?_) rfl (by kernel_rfl) (by kernel_rfl) (by kernel_rfl) (fun c a w h => h) (Or.inl ⟨by rfl, ?_⟩) hHeld ?_
 rotate_left
 ·(intro w hSw; obtain ⟨c5, hx⟩ := HC.out w hSw; go_simp; try with_reducible rfl)
 simp only [Act.put, List.getElem_toArray, List.getElem_cons_zero, List.getElem_cons_succ, List.setIfInBounds_toArray, List.set_cons_zero, List.set_cons_succ]
 refine wpAnyH_take (i := 5) (v := ?_) rfl (by kernel_rfl) (by kernel_rfl) (by kernel_rfl) (fun c a w h => h) (Or.inl ⟨by rfl, ?_⟩) hHeld ?_
 rotate_left
 ·(intro w hSw; obtain ⟨c5, hx⟩ := HC.out w hSw; go_simp; try with_reducible rfl)
 simp only [Act.put, List.getElem_toArray, List.getElem_cons_zero, List.getElem_cons_succ, List.setIfInBounds_toArray, List.set_cons_zero, List.set_cons_succ]
 refine wpAnyH_take (i := 6) (v := ?_) rfl (by kernel_rfl) (by kernel_rfl) (by kernel_rfl) (fun c a w h => h) (Or.inl ⟨by rfl, ?_⟩) hHeld ?_
 rotate_left
 ·(intro w hSw; obtain ⟨c5, hx⟩ := HC.out w hSw; go_simp; try with_reducible rfl)
 simp only [Act.put, List.getElem_toArray, List.getElem_cons_zero, List.getElem_cons_succ, List.setIfInBounds_toArray, List.set_cons_zero, List.set_cons_succ]
 refine wpAnyH_take (i := 7) (v := ?_) rfl (by kernel_rfl) (by kernel_rfl) (by kernel_rfl) (fun c a w h => h) (Or.inl ⟨by rfl, ?_⟩) hHeld ?_
 rotate_left
 ·(intro w hSw; obtain ⟨c5, hx⟩ := HC.out w hSw; go_simp; try with_reducible rfl)
 simp only [Act.put, List.getElem_toArray, List.getElem_cons_zero, List.getElem_cons_succ, List.setIfInBounds_toArray, List.set_cons_zero, List.set_cons_succ]
 refine wpAnyH_take (i := 8) (v := ?_) rfl (by kernel_rfl) (by kernel_rfl) (by kernel_rfl) (fun c a w h => h) (Or.inl ⟨by rfl, ?_⟩) hHeld ?_
 rotate_left
 ·(intro w hSw; obtain ⟨c5, hx⟩ := HC.out w hSw; go_simp; try with_reducible rfl)
 simp only [Act.put, List.getElem_toArray, List.getElem_cons_zero, List.getElem_cons_succ, List.setIfInBounds_toArray, List.set_cons_zero, List.set_cons_succ]
 refine wpAnyH_take (i := 9) (v := ?_) rfl (by kernel_rfl) (by kernel_rfl) (by kernel_rfl) (fun c a w h => h) (Or.inl ⟨by rfl, ?_⟩) hHeld ?_
 rotate_left
 ·(intro w hSw; obtain ⟨c5, hx⟩ := HC.out w hSw; go_simp; try with_reducible rfl)
 simp only [Act.put, List.getElem_toArray, List.getElem_cons_zero, List.getElem_cons_succ, List.setIfInBounds_toArray, List.set_cons_zero, List.set_cons_succ]
 refine wpAnyH_take (i := 10) (v := ?_) rfl (by kernel_rfl) (by kernel_rfl) (by kernel_rfl) (fun c a w h => h) (Or.inl ⟨by rfl, ?_⟩) hHeld ?_
 rotate_left
 ·(intro w hSw; obtain ⟨c5, hx⟩ := HC.out w hSw; go_simp; try with_reducible rfl)
 simp only [Act.put, List.getElem_toArray, List.getElem_cons_zero, List.getElem_cons_succ, List.setIfInBounds_toArray, List.set_cons_zero, List.set_cons_succ]
 refine wpAnyH_take (i := 11) (v := ?_) rfl (by kernel_rfl) (by kernel_rfl) (by kernel_rfl) (fun c a w h => h) (Or.inl ⟨by rfl, ?_⟩) hHeld ?_
 rotate_left
 ·(intro w hSw; obtain ⟨c5, hx⟩ := HC.out w hSw; go_simp; try with_reducible rfl)
 simp only [Act.put, List.getElem_toArray, List.getElem_cons_zero, List.getElem_cons_succ, List.setIfInBounds_toArray, List.set_cons_zero, List.set_cons_succ]
 refine wpAnyH_take (i := 12) (v := ?_) rfl (by kernel_rfl) (by kernel_rfl) (by kernel_rfl) (fun c a w h => h) (Or.inl ⟨by rfl, ?_⟩) hHeld ?_
 rotate_left
 ·(intro w hSw; obtain ⟨c5, hx⟩ := HC.out w hSw; go_simp; try with_reducible rfl)
 simp only [Act.put, List.getElem_toArray, List.getElem_cons_zero, List.getElem_cons_succ, List.setIfInBounds_toArray, List.set_cons_zero, List.set_cons_succ]
 refine wpAnyH_done (by kernel_rfl) ?_ _
 go_wp2
 go_ret
 exact ⟨_, rfl, HP.out, hHeld⟩
theorem cost_any (op : Nat) (h1 : 1 <= op) (h2 : op < 64) (x : Int) (wq : Option Addr) (p : Ps) (W : World) :
  Calls Tryz.prog 28 #[.agg #[.int .i64 (op : Int), .int .u16 x, .pointer wq, .int .i64 p.1, .int .i64 p.2]] W fun e w' => e = .returned (.int .i64 (P.rc op)) /\ Below W.heap.size W w' := by
 obtain ⟨W1, hW1⟩ : ∃ W1, W.alloc (.cells #[.int .i64 (op : Int), .int .u16 x, .pointer wq, .int .i64 p.1, .int .i64 p.2] 84) = W1 := ⟨_, rfl⟩
 have hb : Below W.heap.size W W1 := by rw [<- hW1]; exact (Below.refl _ _).alloc (Nat.le_refl _) _
 have u1 : W1.heap[W.heap.size]? = some (.cells [.int .i64 (op : Int), .int .u16 x, .pointer wq, .int .i64 p.1, .int .i64 p.2].toArray 84 (0, 0)) := by rw [<- hW1]; exact heap_alloc_new W _
 have x0 := S.cell_of W1 _ 0 _ _ _ u1 rfl
 have kc := P.of_at op h1 h2 W1
 unfold P.rowN P.rowV at kc
 have HW1 := hid hW1
 have HB := hid hb
 clear hW1 hb u1
 go_enter Tryz.func28, Tryz.ntmps28
 go_upto_region 1 with fail
 rw [HW1.out]
 go_wp2_with fail
 refine kc.mono ?_
 rintro e w2 ⟨rfl, hb2⟩
 have HB2 := hid (HB.out.trans (hb2.mono HB.out.size))
 clear hb2 kc x0
 go_wp2
 go_ret
 exact ⟨rfl, HB2.out.alloc HB2.out.size _⟩
theorem goon_any (h : MV W g bd br bm bs c F O v) (hl : v.o.length <= 128) (ld : Bool) :
  Calls Tryz.prog 57 #[.pointer (some ⟨g, 0, none⟩), .bool ld] W fun e w' => e = .returned (.tuple #[]) /\ VD W w' g bd br bm bs F O { v with c := onc v.c ld } := by
 obtain ⟨x, hx, hP⟩ := h.last
 obtain ⟨tt, xx, rfl⟩ := PV.isI _ _ _ hP
 have c5 := h.c5
 have hgs : g < W.heap.size := h.lt
 have hbs : bs < W.heap.size := h.lt_s
 have hgb : g ≠ bs := h.ne.2.2.1
 have w1 : wrap64 (((v.o.length + 1 : Nat) : Int) - 1) = (v.o.length : Int) := by unfold wrap64; omega
 have i1 : (v.o.length : Int) < ((v.o.length + 1 : Nat) : Int) := by omega
 have hz : ∀ w, Below W.heap.size W w -> w.frozen? ⟨bs, v.o.length, none⟩ = false := fun w k => by
  obtain ⟨xs, hr, _⟩ := (h.below k).row
  exact hr.frozenAt _
 have HC := hid (fun (w : World) (k : Below W.heap.size W w) => And.intro ((k.cell hgs).trans c5) (And.intro ((k.cell hbs).trans hx) (hz w k)))
 have hput : ∀ w2 v2, Below W.heap.size W w2 -> PV W O (on v.c.fr ld) v.c.e v2 -> VD W (w2.setCell ⟨bs, v.o.length, none⟩ v2) g bd br bm bs F O { v with c := onc v.c ld } := fun w2 v2 k hv =>
  VD.pre k (((h.below k).put (onc v.c ld) v2 (hv.below k h.ol) (on_ok _ _ h.wf.c)).vd (tc_set bs _ _ (.inr (.inr (.inr (.inl rfl))))))
 have HH := hid h
 have HPUT := hid hput
 clear hx h c5 hgs hbs hz hput hP
 have hl' := hl
 generalize hN : v.o.length = N at *
 have HN := hid hN
 have hwN : IntKind.i64.wrap (N : Int) = (N : Int) := S.i64_id _ (by omega) (by omega)
 have hN1 : (0 : Int) <= (N : Int) /\ (N : Int) < (N : Int) + 1 := ⟨by omega, by omega⟩
 clear hN
 have hb0 : Below W.heap.size W W.drew := drewB W
 go_enter Tryz.func57, Tryz.ntmps57
 go_upto_region 0 with fail
 refine wp_region_held_drew (S := fun w' : World => w'.cell? ⟨g, 5, none⟩ = some (.slice (some ⟨bs, 0, none⟩) (N + 1) c)) (by kernel_rfl) (HC.out _ hb0).1 (fun hHeld => ?_)
 generalize W.drew = y0 at *
 refine wpAnyH_take (i := 0) (v := ?_) rfl (by kernel_rfl) (by kernel_rfl) (by kernel_rfl) (fun c a w h => h) (Or.inl ⟨by rfl, ?_⟩) hHeld ?_
 rotate_left
 ·(intro w hSw; have c5 := hSw; go_simp; try with_reducible rfl)
 simp only [Act.put, List.getElem_toArray, List.getElem_cons_zero, List.getElem_cons_succ, List.setIfInBounds_toArray, List.set_cons_zero, List.set_cons_succ]
 refine wpAnyH_take (i := 1) (v := ?_) rfl (by kernel_rfl) (by kernel_rfl) (by kernel_rfl) (fun c a w h => h) (Or.inl ⟨by rfl, ?_⟩) hHeld ?_
 rotate_left
 ·(intro w hSw; have c5 := hSw; go_simp; try with_reducible rfl)
 simp only [Act.put, List.getElem_toArray, List.getElem_cons_zero, List.getElem_cons_succ, List.setIfInBounds_toArray, List.set_cons_zero, List.set_cons_succ]
 refine wpAnyH_take (i := 2) (v := ?_) rfl (by kernel_rfl) (by kernel_rfl) (by kernel_rfl) (fun c a w h => h) (Or.inl ⟨by rfl, ?_⟩) hHeld ?_
 rotate_left
 ·(intro w hSw; have c5 := hSw; go_simp; try with_reducible rfl)
 simp only [Act.put, List.getElem_toArray, List.getElem_cons_zero, List.getElem_cons_succ, List.setIfInBounds_toArray, List.set_cons_zero, List.set_cons_succ]
 refine wpAnyH_take (i := 3) (v := ?_) rfl (by kernel_rfl) (by kernel_rfl) (by kernel_rfl) (fun c a w h => h) (Or.inl ⟨by rfl, ?_⟩) hHeld ?_
 rotate_left
 ·(intro w hSw; have c5 := hSw; go_simp; try with_reducible rfl)
 simp only [Act.put, List.getElem_toArray, List.getElem_cons_zero, List.getElem_cons_succ, List.setIfInBounds_toArray, List.set_cons_zero, List.set_cons_succ]
 refine wpAnyH_take (i := 4) (v := ?_) rfl (by kernel_rfl) (by kernel_rfl) (by kernel_rfl) (fun c a w h => h) (Or.inl ⟨by rfl, ?_⟩) hHeld ?_
 rotate_left
 ·(intro w hSw; have c5 := hSw; go_simp; try with_reducible rfl)
 simp only [Act.put, List.getElem_toArray, List.getElem_cons_zero, List.getElem_cons_succ, List.setIfInBounds_toArray, List.set_cons_zero, List.set_cons_succ]
 refine wpAnyH_take (i := 5) (v := ?_) rfl (by kernel_rfl) (by kernel_rfl) (by kernel_rfl) (fun c a w h => h) (Or.inl ⟨by rfl, ?_⟩) hHeld ?_
 rotate_left
 ·(intro w hSw; have c5 := hSw; go_simp; try with_reducible rfl)
 simp only [Act.put, List.getElem_toArray, List.getElem_cons_zero, List.getElem_cons_succ, List.setIfInBounds_toArray, List.set_cons_zero, List.set_cons_succ]
 refine wpAnyH_take (i := 6) (v := ?_) rfl (by kernel_rfl) (by kernel_rfl) (by kernel_rfl) (fun c a w h => h) (Or.inl ⟨by rfl, ?_⟩) hHeld ?_
 rotate_left
 ·(intro w hSw; have c5 := hSw; go_simp; try with_reducible rfl)
 simp only [Act.put, List.getElem_toArray, List.getElem_cons_zero, List.getElem_cons_succ, List.setIfInBounds_toArray, List.set_cons_zero, List.set_cons_succ]
 refine wpAnyH_take (i := 7) (v := ?_) rfl (by kernel_rfl) (by kernel_rfl) (by kernel_rfl) (fun c a w h => h) (Or.inl ⟨by rfl, ?_⟩) hHeld ?_
 rotate_left
 ·(intro w hSw; have c5 := hSw; go_simp; try with_reducible rfl)
 simp only [Act.put, List.getElem_toArray, List.getElem_cons_zero, List.getElem_cons_succ, List.setIfInBounds_toArray, List.set_cons_zero, List.set_cons_succ]
 refine wpAnyH_take (i := 8) (v := ?_) rfl (by kernel_rfl) (by kernel_rfl) (by kernel_rfl) (fun c a w h => h) (Or.inl ⟨by rfl, ?_⟩) hHeld ?_
 rotate_left
 ·(intro w hSw; have c5 := hSw; go_simp; try with_reducible rfl)
 simp only [Act.put, List.getElem_toArray, List.getElem_cons_zero, List.getElem_cons_succ, List.setIfInBounds_toArray, List.set_cons_zero, List.set_cons_succ]
 refine wpAnyH_take (i := 9) (v := ?_) rfl (by kernel_rfl) (by kernel_rfl) (by kernel_rfl) (fun c a w h => h) (Or.inl ⟨by rfl, ?_⟩) hHeld ?_
 rotate_left
 ·(intro w hSw; have c5 := hSw; go_simp; try with_reducible rfl)
 simp only [Act.put, List.getElem_toArray, List.getElem_cons_zero, List.getElem_cons_succ, List.setIfInBounds_toArray, List.set_cons_zero, List.set_cons_succ]
 refine wpAnyH_take (i := 10) (v := ?_) rfl (by kernel_rfl) (by kernel_rfl) (by kernel_rfl) (fun c a w h => h) (Or.inl ⟨by rfl, ?_⟩) hHeld ?_
 rotate_left
 ·(intro w hSw; have c5 := hSw; go_simp; try with_reducible rfl)
 simp only [Act.put, List.getElem_toArray, List.getElem_cons_zero, List.getElem_cons_succ, List.setIfInBounds_toArray, List.set_cons_zero, List.set_cons_succ]
 refine wpAnyH_take (i := 12) (v := ?_) rfl (by kernel_rfl) (by kernel_rfl) (by kernel_rfl) (fun c a w h => h) (Or.inl ⟨by rfl, ?_⟩) hHeld ?_
 rotate_left
 ·(intro w hSw; have c5 := hSw; go_simp; try with_reducible rfl)
 simp only [Act.put, List.getElem_toArray, List.getElem_cons_zero, List.getElem_cons_succ, List.setIfInBounds_toArray, List.set_cons_zero, List.set_cons_succ]
 refine wpAnyH_ready (rs := [11]) (by kernel_rfl) (by simp) ?_
 refine AllReadyH.cons rfl (fun K hK => ?_) AllReadyH.nil
 go_simp
 refine (here_any (HH.out.below hb0) (by rw [HN.out]; exact hl')).mono ?_
 rintro e y1 ⟨x1, rfl, hP1, hb1⟩
 have hP1 := PV.up hb0 HH.out.ol hP1
 have hb1 := hb0.trans (hb1.mono hb0.size)
 refine hK.out _ _ (HC.out _ hb1).1 (fun hHeld => ?_)
 clear hK K
 try simp only [Act.put, List.getElem_toArray, List.getElem_cons_zero, List.getElem_cons_succ, List.setIfInBounds_toArray, List.set_cons_zero, List.set_cons_succ]
 refine wpAnyH_ready (rs := [13]) (by kernel_rfl) (by simp) ?_
 refine AllReadyH.cons rfl (fun K hK => ?_) AllReadyH.nil
 rw [if_pos (by rfl)]
 refine wp_on (W := W) (O := O) rfl (by refine ⟨?_, ?_, ?_, ?_, ?_, ?_, ?_, ?_, ?_⟩ <;> intros <;> kernel_rfl) v.c.fr v.c.e x1 ld (by rfl) (by rfl) hP1 HH.out.ol hb1 ?_
 rintro v2 y2 ⟨hv2, hb2⟩
 have hb2 := hb1.trans (hb2.mono hb1.size)
 refine hK.out _ _ (HC.out _ hb2).1 (fun hHeld => ?_)
 clear hK K
 try simp only [Act.put, List.getElem_toArray, List.getElem_cons_zero, List.getElem_cons_succ, List.setIfInBounds_toArray, List.set_cons_zero, List.set_cons_succ]
 refine wpAnyH_take (i := 14) (v := ?_) rfl (by kernel_rfl) (by kernel_rfl) (by kernel_rfl) (fun c a w h => h) (Or.inl ⟨by rfl, ?_⟩) hHeld ?_
 rotate_left
 ·(intro w hSw; obtain ⟨c5, hx, hz⟩ := And.intro hSw (And.intro trivial trivial); go_simp; try with_reducible rfl)
 simp only [Act.put, List.getElem_toArray, List.getElem_cons_zero, List.getElem_cons_succ, List.setIfInBounds_toArray, List.set_cons_zero, List.set_cons_succ]
 obtain ⟨c5, hx, hz⟩ := HC.out _ hb2
 obtain ⟨t2, u2, rfl⟩ := PV.isI _ _ _ hv2
 have hs5 : (y2.setCell ⟨bs, N, none⟩ (.iface t2 u2)).cell? ⟨g, 5, none⟩ = some (.slice (some ⟨bs, 0, none⟩) (N + 1) c) := (World.cell?_of_block (w := y2) (S.setCell_other y2 bs N g _ hgb)).trans c5
 refine wpAnyH_ready (rs := [15]) (by kernel_rfl) (by simp) ?_
 refine AllReadyH.cons rfl (fun K hK => ?_) AllReadyH.nil
 go_simp
 refine hK.out _ _ hs5 (fun hHeld => ?_)
 clear hK K
 try simp only [Act.put, List.getElem_toArray, List.getElem_cons_zero, List.getElem_cons_succ, List.setIfInBounds_toArray, List.set_cons_zero, List.set_cons_succ]
 refine wpAnyH_done (by kernel_rfl) ?_ _
 have HF := hid (HPUT.out y2 (.iface t2 u2) hb2 hv2)
 clear hHeld hs5 c5 hx hz hv2 hP1
 go_wp2
 go_end0
 exact ⟨rfl, HF.out⟩
end
set_option maxHeartbeats 4000000
set_option maxRecDepth 100000
theorem last2 (R : List (Int × Int)) : R = [] \/ (∃ q, R = [q]) \/ ∃ l p q, R = l ++ [p] ++ [q] := by
 rcases List.eq_nil_or_concat R with h | ⟨l, q, rfl⟩
 ·exact .inl h
 ·rcases List.eq_nil_or_concat l with rfl | ⟨l, p, rfl⟩
  ·exact .inr (.inl ⟨q, by simp⟩)
  ·exact .inr (.inr ⟨l, p, q, by simp⟩)
theorem turns_any (g bd br bm bs c : Nat) (F O : Nat -> Prop) (v : VS) (W : World) (h : MV W g bd br bm bs c F O v) :
  Calls Tryz.prog 71 #[.pointer (some ⟨g, 0, none⟩)] W fun e W' => e = .returned (.tuple #[.bool (turn v).b, .int .i64 (turn v).f]) /\ VD W W' g bd br bm bs F O (turn v).v := by
 have c4 := h.c3
 have hR := h.ps.r
 have hsame : ∀ q, VD W (W.drewN q) g bd br bm bs F O v := fun q => h.same ⟨rfl, rfl, rfl, Nat.le_refl _, fun _ _ => rfl⟩
 have hwr := h.wf.r
 rcases last2 v.R with hr | ⟨⟨k, i⟩, hr⟩ | ⟨l, ⟨k2, b⟩, ⟨k, i⟩, hr⟩
 ·have ht : turn v = ⟨false, 3, v⟩ := by unfold turn; rw [hr]; rfl
  rw [ht]
  have k1 := S.rat_under br v.R 0 3 (.inr (by rw [hr]; simp)) W hR
  have hs := hsame 0
  clear hR hsame hwr hr ht h
  go_enter Tryz.func71, Tryz.ntmps71
  go_wp2_with fail
  refine k1.mono ?_
  rintro e w1 ⟨rfl, rfl⟩
  go_wp2
  go_ret2
  exact ⟨rfl, hs⟩
 ·by_cases q1 : k = 3
  ·subst q1
   have ht : turn v = ⟨false, 3, v⟩ := by unfold turn; rw [hr]; rfl
   rw [ht]
   have k1 := S.rat_ok br v.R 0 0 (by rw [hr]; rfl) 3 i (by rw [hr]; rfl) W hR
   have k2 := fun q => S.rat_under br v.R 1 2 (.inr (by rw [hr]; simp)) (W.drewN q) hR
   have c4' := fun q => (show (W.drewN q).cell? ⟨g, 3, none⟩ = _ from c4)
   clear hR hwr hr ht h
   go_enter Tryz.func71, Tryz.ntmps71
   go_wp2_with fail
   refine k1.mono ?_
   rintro e w1 ⟨rfl, q, rfl⟩
   have d4 := c4' q
   go_wp2_with fail
   refine (k2 q).mono ?_
   rintro e w2 ⟨rfl, rfl⟩
   go_wp2
   go_ret2
   exact ⟨rfl, hsame q⟩
  ·have ht : turn v = ⟨false, 5, v⟩ := by unfold turn; rw [hr]; simp [q1]
   rw [ht]
   have k1 := S.rat_kind br v.R 0 0 (by rw [hr]; rfl) k i (by rw [hr]; rfl) 3 q1 W hR
   clear hR hwr hr ht h
   go_enter Tryz.func71, Tryz.ntmps71
   go_wp2_with fail
   refine k1.mono ?_
   rintro e w1 ⟨rfl, q, rfl⟩
   go_wp2
   go_ret2
   exact ⟨rfl, hsame q⟩
 have gl : v.R.length = l.length + 2 := by rw [hr]; simp
 have gi : v.R[l.length + 1]? = some (k, i) := by rw [hr, List.getElem?_append_right (by simp)]; simp
 have gb : v.R[l.length]? = some (k2, b) := by rw [hr, List.append_assoc, List.getElem?_append_right (by simp)]; simp
 by_cases q1 : k = 3
 case neg =>
  have ht : turn v = ⟨false, 5, v⟩ := by unfold turn; rw [hr]; simp [q1]
  rw [ht]
  have k1 := S.rat_kind br v.R (l.length + 1) 0 (by omega) k i gi 3 q1 W hR
  clear hR hwr hr ht h gl gi gb
  go_enter Tryz.func71, Tryz.ntmps71
  go_wp2_with fail
  refine k1.mono ?_
  rintro e w1 ⟨rfl, q, rfl⟩
  go_wp2
  go_ret2
  exact ⟨rfl, hsame q⟩
 subst q1
 have k1 := S.rat_ok br v.R (l.length + 1) 0 (by omega) 3 i gi W hR
 have c4' := fun q => (show (W.drewN q).cell? ⟨g, 3, none⟩ = _ from c4)
 by_cases q2 : k2 = 2
 case neg =>
  have ht : turn v = ⟨false, 5, v⟩ := by unfold turn; rw [hr]; simp [q2]
  rw [ht]
  have k2 := fun q => S.rat_kind br v.R l.length 1 (by omega) k2 b gb 2 q2 (W.drewN q) hR
  clear hR hwr hr ht h gl gi gb
  go_enter Tryz.func71, Tryz.ntmps71
  go_wp2_with fail
  refine k1.mono ?_
  rintro e w1 ⟨rfl, q, rfl⟩
  have d4 := c4' q
  go_wp2_with fail
  refine (k2 q).mono ?_
  rintro e w2 ⟨rfl, q', rfl⟩
  go_wp2
  go_ret2
  exact ⟨rfl, hsame _⟩
 subst q2
 have k2 := fun q => S.rat_ok br v.R l.length 1 (by omega) 2 b gb (W.drewN q) hR
 have e1 : IntKind.u16.wrap (i + 1) = (i + 1) % 65536 := M.u16_wrap _
 by_cases q3 : (i + 1) % 65536 = b
 case neg =>
  have ht : turn v = ⟨true, 0, { v with R := l ++ [(2, b)] ++ [(3, (i + 1) % 65536)] }⟩ := by unfold turn; rw [hr]; simp [q3]
  rw [ht]
  have e2 : ((i + 1) % 65536 == b) = false := by simpa using q3
  have k3 := fun q => S.rset br (l ++ [(2, b)]) 3 i ((i + 1) % 65536) (W.drewN q) (by rw [hr] at hR; exact hR)
  have hfin : ∀ q w', S.HasR w' br (l ++ [(2, b)] ++ [(3, (i + 1) % 65536)]) -> S.At br (W.drewN q) w' -> VD W w' g bd br bm bs F O { v with R := l ++ [(2, b)] ++ [(3, (i + 1) % 65536)] } := by
   intro q w' a1 a2
   refine h.kv ⟨a2.os, a2.tape, a2.output, a2.size, a2.block⟩ a1 fun p hp => ?_
   rw [hr] at hwr
   rcases List.mem_append.1 hp with hp | hp
   ·exact hwr p (List.mem_append_left _ hp)
   ·simp at hp; subst hp; exact ⟨by omega, by omega⟩
  clear hR hwr hr ht h gl gi gb hsame
  go_enter Tryz.func71, Tryz.ntmps71
  go_wp2_with fail
  refine k1.mono ?_
  rintro e w1 ⟨rfl, q, rfl⟩
  have d4 := c4' q
  go_wp2_with fail
  refine (k2 q).mono ?_
  rintro e w2 ⟨rfl, q', rfl⟩
  obtain ⟨r, e⟩ := M.drewN_drewN W q q'
  rw [e]
  have d5 := c4' r
  have k3 := k3 r
  clear k1 k2 d4
  go_wp2_with fail
  refine k3.mono ?_
  rintro e w3 ⟨rfl, a1, a2⟩
  have hf := hfin r w3 a1 a2
  clear a1 a2 k3 d5 c4' hfin
  go_wp2
  go_ret2
  exact ⟨rfl, hf⟩
 have ht : turn v = ⟨false, 0, { v with R := l }⟩ := by unfold turn; rw [hr]; simp [q3]
 rw [ht]
 have e2 : ((i + 1) % 65536 == b) = true := by simpa using q3
 have k3 := fun q => S.rpop_ok br (l ++ [(2, b)]) 3 i (W.drewN q) (by rw [hr] at hR; exact hR)
 have hfin : ∀ q w' w'', S.At br (W.drewN q) w' -> S.HasR w'' br l -> S.At br w' w'' -> VD W w'' g bd br bm bs F O { v with R := l } := by
  intro q w' w'' a1 a2 a3
  have a4 : S.At br W w' := ⟨a1.os, a1.tape, a1.output, a1.size, a1.block⟩
  refine h.kv (S.Tc.trans a4 a3 (fun _ e => e) (fun _ _ e => e)) a2 fun p hp => ?_
  rw [hr] at hwr
  exact hwr p (List.mem_append_left _ (List.mem_append_left _ hp))
 have hg4 : ∀ q w', S.At br (W.drewN q) w' -> w'.cell? ⟨g, 3, none⟩ = some (.pointer (some ⟨br, 0, none⟩)) := by
  intro q w' a1
  rw [World.cell?_of_block (w := W) (w' := w') (a := ⟨g, 3, none⟩) (a1.block g h.lt h.ne.2.1)]
  exact c4
 clear hR hwr hr ht h gl gi gb hsame
 go_enter Tryz.func71, Tryz.ntmps71
 go_wp2_with fail
 refine k1.mono ?_
 rintro e w1 ⟨rfl, q, rfl⟩
 have d4 := c4' q
 go_wp2_with fail
 refine (k2 q).mono ?_
 rintro e w2 ⟨rfl, q', rfl⟩
 obtain ⟨r, e⟩ := M.drewN_drewN W q q'
 rw [e]
 have d5 := c4' r
 have k3 := k3 r
 clear k1 k2 d4
 go_wp2_with fail
 refine k3.mono ?_
 rintro e w3 ⟨rfl, a1, a2⟩
 have d6 := hg4 r w3 a2
 have k4 := S.rpop_ok br l 2 b w3 a1
 clear k3 d5 c4' hg4
 go_wp2_with fail
 refine k4.mono ?_
 rintro e w4 ⟨rfl, a3, a4⟩
 have hf := hfin r w3 w4 a2 a3 a4
 clear a1 a2 a3 a4 k4 d6 hfin
 go_wp2
 go_ret2
 exact ⟨rfl, hf⟩
end Go.Proofs.YtoemoiehjdmheaaGreat.Z
