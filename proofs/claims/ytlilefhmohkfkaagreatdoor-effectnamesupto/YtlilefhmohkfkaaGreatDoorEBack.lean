import Derived.Test.YtlilefhmohkfkaaGreatDoorELeave
namespace Go.Proofs.YtlilefhmohkfkaaGreatDoor.E
open Go.RowKit
open Go.Proofs
open Go.Proofs.YtlilefhmohkfkaaGreatDoor.Y (Nd Df Ps ndc dfc hid)
set_option linter.unusedVariables false
set_option linter.unusedSimpArgs false
set_option maxHeartbeats 2000000
set_option maxRecDepth 100000
theorem list_beq (a b : List UInt8) : ((⟨a.toArray⟩ : ByteArray).toList == (⟨b.toArray⟩ : ByteArray).toList) = decide (a = b) := by
 rw [ByteArray.toList_eq, ByteArray.toList_eq]
 by_cases h : a = b
 ·subst h; simp
 ·rw [decide_eq_false h, Bool.eq_false_iff]; intro c; exact h (by simpa using c)
theorem stF : ∃ pk : String, Tryz.prog.underlying 129 = some (.struct (Tryz.prog.fieldsOf 129)) /\ Tryz.prog.fieldsOf 129 = #[⟨ "dead", 4, 0, false, "", pk, 0⟩, ⟨ "height", 3, 1, false, "", pk, 8⟩, ⟨ "own", 9, 2, false, "", pk, 16⟩] /\ Tryz.prog.stoodInHeld 129 = false /\ Tryz.prog.cellsOf 3 = 1 /\ Tryz.prog.cellsOf 4 = 1 /\ Tryz.prog.cellsOf 9 = 1 :=
 ⟨((Tryz.prog.fieldsOf 129).getD 0 ⟨ "", 0, 0, false, "", "", 0⟩).pkgPath, by kernel_rfl, by kernel_rfl, by kernel_rfl, by kernel_rfl, by kernel_rfl, by kernel_rfl⟩
theorem eql_st (W : World) (a b : St) : (binOp .eql 129 (.agg #[.bool a.dead, .int .i64 a.h, .string ⟨a.own.toArray⟩]) (.agg #[.bool b.dead, .int .i64 b.h, .string ⟨b.own.toArray⟩])).run Tryz.prog W = .ok (.bool (same a b)) W := by
 obtain ⟨pk, hs, hf, hp, k3, k4, k9⟩ := stF
 rw [run_eql_struct, run_equalIn_agg W 9999 _ _ _ hs hp, hf]
 unfold same
 rw [<- list_beq]
 cases h1 : (a.dead == b.dead) <;> cases h2 : (a.h == b.h) <;> simp [go_sem, Tryz.underlying3, Tryz.underlying4, Tryz.underlying9, k3, k4, k9, Result.andThen, h1, h2]
 all_goals (by_cases h3 : a.own = b.own <;> simp [h3])
theorem box_ssp (a b : St) (p : Ps) (W : World) : ∃ W0 W1 W2, W.alloc (.cells #[.bool a.dead, .int .i64 a.h, .string ⟨a.own.toArray⟩] 129) = W0 /\ W0.alloc (.cells #[.bool b.dead, .int .i64 b.h, .string ⟨b.own.toArray⟩] 129) = W1 /\ W1.alloc (.cells #[.int .i64 p.1, .int .i64 p.2] 25) = W2 /\ Below W.heap.size W W2 /\ SB W2 W.heap.size a /\ SB W2 W0.heap.size b /\ PB W2 W1.heap.size p := by
 refine ⟨_, _, _, rfl, rfl, rfl, (((Below.refl _ _).alloc (Nat.le_refl _) _).alloc (by simp) _).alloc (by simp; omega) _, ?_, ?_, ?_⟩
 ·exact (Below.heap_alloc _ _ _ (by simp; omega)).trans ((Below.heap_alloc _ _ _ (by simp)).trans (heap_alloc_new W _))
 ·exact (Below.heap_alloc _ _ _ (by simp)).trans (heap_alloc_new _ _)
 ·exact heap_alloc_new _ _
theorem bk_dead (a b : St) (p : Ps) (W : World) (hd : a.dead = true) (z : Bool) (hsm : same a b = z) :
  Calls Tryz.prog 115 #[.agg (stc a).toArray, .agg (stc b).toArray, .agg #[.int .i64 p.1, .int .i64 p.2]] W fun e w' => e = .returned (.tuple #[]) /\ Below W.heap.size W w' := by
 obtain ⟨W0, W1, W2, hW0, hW1, hW2, hB, k1, k2, k3⟩ := box_ssp a b p W
 have HK : Y.Hd (∀ wz, Below W2.heap.size W2 wz -> (fun wz : World => wz.cell? ⟨W.heap.size, 0, none⟩ = some (.bool true) /\ wz.cell? ⟨W.heap.size, 1, none⟩ = some (.int .i64 a.h) /\ wz.cell? ⟨W.heap.size, 2, none⟩ = some (.string ⟨a.own.toArray⟩) /\ wz.cell? ⟨W0.heap.size, 0, none⟩ = some (.bool b.dead) /\ wz.cell? ⟨W0.heap.size, 1, none⟩ = some (.int .i64 b.h) /\ wz.cell? ⟨W0.heap.size, 2, none⟩ = some (.string ⟨b.own.toArray⟩) /\ wz.cell? ⟨W1.heap.size, 0, none⟩ = some (.int .i64 p.1) /\ wz.cell? ⟨W1.heap.size, 1, none⟩ = some (.int .i64 p.2)) wz) := ⟨fun wz hz => by
  obtain ⟨a0, a1, a2⟩ := (k1.below hz).cells
  obtain ⟨b0, b1, b2⟩ := (k2.below hz).cells
  obtain ⟨p0, p1⟩ := (k3.below hz).cells
  rw [hd] at a0
  exact ⟨a0, a1, a2, b0, b1, b2, p0, p1⟩⟩
 have HB := hid hB
 have heq := fun W => eql_st W a b
 simp only [hsm] at heq
 rw [hd] at heq
 unfold stc
 rw [hd]
 rw [hd] at hW0
 clear k1 k2 k3 hB
 go_enter Tryz.func115, Tryz.ntmps115
 go_upto_region 1 with fail
 refine wp_region_drop [] (S := fun wz : World => wz.cell? ⟨W.heap.size, 0, none⟩ = some (.bool true) /\ wz.cell? ⟨W.heap.size, 1, none⟩ = some (.int .i64 a.h) /\ wz.cell? ⟨W.heap.size, 2, none⟩ = some (.string ⟨a.own.toArray⟩) /\ wz.cell? ⟨W0.heap.size, 0, none⟩ = some (.bool b.dead) /\ wz.cell? ⟨W0.heap.size, 1, none⟩ = some (.int .i64 b.h) /\ wz.cell? ⟨W0.heap.size, 2, none⟩ = some (.string ⟨b.own.toArray⟩) /\ wz.cell? ⟨W1.heap.size, 0, none⟩ = some (.int .i64 p.1) /\ wz.cell? ⟨W1.heap.size, 1, none⟩ = some (.int .i64 p.2)) (by kernel_rfl) (HK.out W2.drew (Below.refl _ _).drew) (fun hHeld => ?_)
 have HB0 := hid (Below.refl W2.heap.size W2).drew
 generalize W2.drew = y0 at *
 clear hW0 hW1 hW2
 refine wpD_takeP (i := 0) (v := ?_) rfl (by kernel_rfl) (by kernel_rfl) (by kernel_rfl) (by kernel_rfl) (fun c a w h => h) (Or.inl ⟨by rfl, ?_⟩) (fun _ => hHeld) ?_
 rotate_left
 ·(intro w hSw; clear hSw; go_simp; try with_reducible rfl)
 simp only [Act.put, List.getElem_toArray, List.getElem_cons_zero, List.getElem_cons_succ, List.setIfInBounds_toArray, List.set_cons_zero, List.set_cons_succ]
 refine wpD_takeT (i := 1) (v := ?_) rfl (by kernel_rfl) (by kernel_rfl) (by kernel_rfl) (by kernel_rfl) (by kernel_rfl) (by kernel_rfl) (fun c a w h => h) (Or.inl ⟨by rfl, ?_⟩) hHeld ?_
 rotate_left
 ·(intro w hSw; (try dsimp only at hSw); go_simp; try with_reducible rfl)
 simp only [Act.put, List.getElem_toArray, List.getElem_cons_zero, List.getElem_cons_succ, List.setIfInBounds_toArray, List.set_cons_zero, List.set_cons_succ]
 refine wpD_takeP (i := 2) (v := ?_) rfl (by kernel_rfl) (by kernel_rfl) (by kernel_rfl) (by kernel_rfl) (fun c a w h => h) (Or.inl ⟨by rfl, ?_⟩) (fun _ => hHeld) ?_
 rotate_left
 ·(intro w hSw; clear hSw; go_simp; try with_reducible rfl)
 simp only [Act.put, List.getElem_toArray, List.getElem_cons_zero, List.getElem_cons_succ, List.setIfInBounds_toArray, List.set_cons_zero, List.set_cons_succ]
 refine wpD_takeP (i := 3) (v := undef) rfl (by kernel_rfl) (by kernel_rfl) (by kernel_rfl) (by kernel_rfl) (fun c a w h => h) (Or.inr ⟨by rfl, rfl⟩) (fun _ => hHeld) ?_
 simp only [Act.put, List.getElem_toArray, List.getElem_cons_zero, List.getElem_cons_succ, List.setIfInBounds_toArray, List.set_cons_zero, List.set_cons_succ]
 refine wpD_takeP (i := 4) (v := undef) rfl (by kernel_rfl) (by kernel_rfl) (by kernel_rfl) (by kernel_rfl) (fun c a w h => h) (Or.inr ⟨by rfl, rfl⟩) (fun _ => hHeld) ?_
 simp only [Act.put, List.getElem_toArray, List.getElem_cons_zero, List.getElem_cons_succ, List.setIfInBounds_toArray, List.set_cons_zero, List.set_cons_succ]
 refine wpD_takeP (i := 5) (v := undef) rfl (by kernel_rfl) (by kernel_rfl) (by kernel_rfl) (by kernel_rfl) (fun c a w h => h) (Or.inr ⟨by rfl, rfl⟩) (fun _ => hHeld) ?_
 simp only [Act.put, List.getElem_toArray, List.getElem_cons_zero, List.getElem_cons_succ, List.setIfInBounds_toArray, List.set_cons_zero, List.set_cons_succ]
 refine wpD_takeP (i := 6) (v := ?_) rfl (by kernel_rfl) (by kernel_rfl) (by kernel_rfl) (by kernel_rfl) (fun c a w h => h) (Or.inl ⟨by rfl, ?_⟩) (fun _ => hHeld) ?_
 rotate_left
 ·(intro w hSw; clear hSw; go_simp; try with_reducible rfl)
 simp only [Act.put, List.getElem_toArray, List.getElem_cons_zero, List.getElem_cons_succ, List.setIfInBounds_toArray, List.set_cons_zero, List.set_cons_succ]
 refine wpD_takeT (i := 7) (v := ?_) rfl (by kernel_rfl) (by kernel_rfl) (by kernel_rfl) (by kernel_rfl) (by kernel_rfl) (by kernel_rfl) (fun c a w h => h) (Or.inl ⟨by rfl, ?_⟩) hHeld ?_
 rotate_left
 ·(intro w hSw; (try dsimp only at hSw); go_simp; try with_reducible rfl)
 simp only [Act.put, List.getElem_toArray, List.getElem_cons_zero, List.getElem_cons_succ, List.setIfInBounds_toArray, List.set_cons_zero, List.set_cons_succ]
 refine wpD_ready (rs := [8]) (by kernel_rfl) (by simp) ?_
 refine AllD.cons rfl (fun K hK => ?_) AllD.nil
 go_simp
 refine (must_true 151 p y0).mono ?_
 rintro e y1 ⟨rfl, hb⟩
 have HB1 := hid (HB0.out.trans (hb.mono HB0.out.size))
 clear hb
 refine hK.out _ _ (HK.out _ HB1.out) (fun hHeld => ?_)
 clear hK K
 try simp only [Act.put, List.getElem_toArray, List.getElem_cons_zero, List.getElem_cons_succ, List.setIfInBounds_toArray, List.set_cons_zero, List.set_cons_succ]
 refine wpD_done (by kernel_rfl) ?_ _
 go_end0
 exact ⟨rfl, HB.out.trans (HB1.out.mono HB.out.size)⟩
theorem bk_same (a b : St) (p : Ps) (W : World) (hd : a.dead = false) (hsm : same a b = true) :
  Calls Tryz.prog 115 #[.agg (stc a).toArray, .agg (stc b).toArray, .agg #[.int .i64 p.1, .int .i64 p.2]] W fun e w' => e = .returned (.tuple #[]) /\ Below W.heap.size W w' := by
 obtain ⟨W0, W1, W2, hW0, hW1, hW2, hB, k1, k2, k3⟩ := box_ssp a b p W
 have HK : Y.Hd (∀ wz, Below W2.heap.size W2 wz -> (fun wz : World => wz.cell? ⟨W.heap.size, 0, none⟩ = some (.bool false) /\ wz.cell? ⟨W.heap.size, 1, none⟩ = some (.int .i64 a.h) /\ wz.cell? ⟨W.heap.size, 2, none⟩ = some (.string ⟨a.own.toArray⟩) /\ wz.cell? ⟨W0.heap.size, 0, none⟩ = some (.bool b.dead) /\ wz.cell? ⟨W0.heap.size, 1, none⟩ = some (.int .i64 b.h) /\ wz.cell? ⟨W0.heap.size, 2, none⟩ = some (.string ⟨b.own.toArray⟩) /\ wz.cell? ⟨W1.heap.size, 0, none⟩ = some (.int .i64 p.1) /\ wz.cell? ⟨W1.heap.size, 1, none⟩ = some (.int .i64 p.2)) wz) := ⟨fun wz hz => by
  obtain ⟨a0, a1, a2⟩ := (k1.below hz).cells
  obtain ⟨b0, b1, b2⟩ := (k2.below hz).cells
  obtain ⟨p0, p1⟩ := (k3.below hz).cells
  rw [hd] at a0
  exact ⟨a0, a1, a2, b0, b1, b2, p0, p1⟩⟩
 have HB := hid hB
 have heq := fun W => eql_st W a b
 simp only [hsm] at heq
 rw [hd] at heq
 unfold stc
 rw [hd]
 rw [hd] at hW0
 clear k1 k2 k3 hB
 go_enter Tryz.func115, Tryz.ntmps115
 go_upto_region 1 with fail
 refine wp_region_drop [] (S := fun wz : World => wz.cell? ⟨W.heap.size, 0, none⟩ = some (.bool false) /\ wz.cell? ⟨W.heap.size, 1, none⟩ = some (.int .i64 a.h) /\ wz.cell? ⟨W.heap.size, 2, none⟩ = some (.string ⟨a.own.toArray⟩) /\ wz.cell? ⟨W0.heap.size, 0, none⟩ = some (.bool b.dead) /\ wz.cell? ⟨W0.heap.size, 1, none⟩ = some (.int .i64 b.h) /\ wz.cell? ⟨W0.heap.size, 2, none⟩ = some (.string ⟨b.own.toArray⟩) /\ wz.cell? ⟨W1.heap.size, 0, none⟩ = some (.int .i64 p.1) /\ wz.cell? ⟨W1.heap.size, 1, none⟩ = some (.int .i64 p.2)) (by kernel_rfl) (HK.out W2.drew (Below.refl _ _).drew) (fun hHeld => ?_)
 have HB0 := hid (Below.refl W2.heap.size W2).drew
 generalize W2.drew = y0 at *
 clear hW0 hW1 hW2
 refine wpD_takeP (i := 0) (v := ?_) rfl (by kernel_rfl) (by kernel_rfl) (by kernel_rfl) (by kernel_rfl) (fun c a w h => h) (Or.inl ⟨by rfl, ?_⟩) (fun _ => hHeld) ?_
 rotate_left
 ·(intro w hSw; clear hSw; go_simp; try with_reducible rfl)
 simp only [Act.put, List.getElem_toArray, List.getElem_cons_zero, List.getElem_cons_succ, List.setIfInBounds_toArray, List.set_cons_zero, List.set_cons_succ]
 refine wpD_takeT (i := 1) (v := ?_) rfl (by kernel_rfl) (by kernel_rfl) (by kernel_rfl) (by kernel_rfl) (by kernel_rfl) (by kernel_rfl) (fun c a w h => h) (Or.inl ⟨by rfl, ?_⟩) hHeld ?_
 rotate_left
 ·(intro w hSw; (try dsimp only at hSw); go_simp; try with_reducible rfl)
 simp only [Act.put, List.getElem_toArray, List.getElem_cons_zero, List.getElem_cons_succ, List.setIfInBounds_toArray, List.set_cons_zero, List.set_cons_succ]
 refine wpD_takeP (i := 2) (v := ?_) rfl (by kernel_rfl) (by kernel_rfl) (by kernel_rfl) (by kernel_rfl) (fun c a w h => h) (Or.inl ⟨by rfl, ?_⟩) (fun _ => hHeld) ?_
 rotate_left
 ·(intro w hSw; clear hSw; go_simp; try with_reducible rfl)
 simp only [Act.put, List.getElem_toArray, List.getElem_cons_zero, List.getElem_cons_succ, List.setIfInBounds_toArray, List.set_cons_zero, List.set_cons_succ]
 refine wpD_takeT (i := 3) (v := ?_) rfl (by kernel_rfl) (by kernel_rfl) (by kernel_rfl) (by kernel_rfl) (by kernel_rfl) (by kernel_rfl) (fun c a w h => h) (Or.inl ⟨by rfl, ?_⟩) hHeld ?_
 rotate_left
 ·(intro w hSw; (try dsimp only at hSw); go_simp; try with_reducible rfl)
 simp only [Act.put, List.getElem_toArray, List.getElem_cons_zero, List.getElem_cons_succ, List.setIfInBounds_toArray, List.set_cons_zero, List.set_cons_succ]
 refine wpD_takeT (i := 4) (v := ?_) rfl (by kernel_rfl) (by kernel_rfl) (by kernel_rfl) (by kernel_rfl) (by kernel_rfl) (by kernel_rfl) (fun c a w h => h) (Or.inl ⟨by rfl, ?_⟩) hHeld ?_
 rotate_left
 ·(intro w hSw; (try dsimp only at hSw); go_simp; try with_reducible rfl)
 simp only [Act.put, List.getElem_toArray, List.getElem_cons_zero, List.getElem_cons_succ, List.setIfInBounds_toArray, List.set_cons_zero, List.set_cons_succ]
 refine wpD_takeP (i := 5) (v := ?_) rfl (by kernel_rfl) (by kernel_rfl) (by kernel_rfl) (by kernel_rfl) (fun c a w h => h) (Or.inl ⟨by rfl, ?_⟩) (fun _ => hHeld) ?_
 rotate_left
 ·(intro w hSw; clear hSw; go_simp; try with_reducible rfl)
 simp only [Act.put, List.getElem_toArray, List.getElem_cons_zero, List.getElem_cons_succ, List.setIfInBounds_toArray, List.set_cons_zero, List.set_cons_succ]
 refine wpD_takeP (i := 6) (v := ?_) rfl (by kernel_rfl) (by kernel_rfl) (by kernel_rfl) (by kernel_rfl) (fun c a w h => h) (Or.inl ⟨by rfl, ?_⟩) (fun _ => hHeld) ?_
 rotate_left
 ·(intro w hSw; clear hSw; go_simp; try with_reducible rfl)
 simp only [Act.put, List.getElem_toArray, List.getElem_cons_zero, List.getElem_cons_succ, List.setIfInBounds_toArray, List.set_cons_zero, List.set_cons_succ]
 refine wpD_takeT (i := 7) (v := ?_) rfl (by kernel_rfl) (by kernel_rfl) (by kernel_rfl) (by kernel_rfl) (by kernel_rfl) (by kernel_rfl) (fun c a w h => h) (Or.inl ⟨by rfl, ?_⟩) hHeld ?_
 rotate_left
 ·(intro w hSw; (try dsimp only at hSw); go_simp; try with_reducible rfl)
 simp only [Act.put, List.getElem_toArray, List.getElem_cons_zero, List.getElem_cons_succ, List.setIfInBounds_toArray, List.set_cons_zero, List.set_cons_succ]
 refine wpD_ready (rs := [8]) (by kernel_rfl) (by simp) ?_
 refine AllD.cons rfl (fun K hK => ?_) AllD.nil
 go_simp
 refine (must_true 151 p y0).mono ?_
 rintro e y1 ⟨rfl, hb⟩
 have HB1 := hid (HB0.out.trans (hb.mono HB0.out.size))
 clear hb
 refine hK.out _ _ (HK.out _ HB1.out) (fun hHeld => ?_)
 clear hK K
 try simp only [Act.put, List.getElem_toArray, List.getElem_cons_zero, List.getElem_cons_succ, List.setIfInBounds_toArray, List.set_cons_zero, List.set_cons_succ]
 refine wpD_done (by kernel_rfl) ?_ _
 go_end0
 exact ⟨rfl, HB.out.trans (HB1.out.mono HB.out.size)⟩
theorem bk_no (a b : St) (p : Ps) (W : World) (hd : a.dead = false) (hsm : same a b = false) :
  Calls Tryz.prog 115 #[.agg (stc a).toArray, .agg (stc b).toArray, .agg #[.int .i64 p.1, .int .i64 p.2]] W fun e w' => e = .panicked (flt (151, p)) /\ Below W.heap.size W w' := by
 obtain ⟨W0, W1, W2, hW0, hW1, hW2, hB, k1, k2, k3⟩ := box_ssp a b p W
 have HK : Y.Hd (∀ wz, Below W2.heap.size W2 wz -> (fun wz : World => wz.cell? ⟨W.heap.size, 0, none⟩ = some (.bool false) /\ wz.cell? ⟨W.heap.size, 1, none⟩ = some (.int .i64 a.h) /\ wz.cell? ⟨W.heap.size, 2, none⟩ = some (.string ⟨a.own.toArray⟩) /\ wz.cell? ⟨W0.heap.size, 0, none⟩ = some (.bool b.dead) /\ wz.cell? ⟨W0.heap.size, 1, none⟩ = some (.int .i64 b.h) /\ wz.cell? ⟨W0.heap.size, 2, none⟩ = some (.string ⟨b.own.toArray⟩) /\ wz.cell? ⟨W1.heap.size, 0, none⟩ = some (.int .i64 p.1) /\ wz.cell? ⟨W1.heap.size, 1, none⟩ = some (.int .i64 p.2)) wz) := ⟨fun wz hz => by
  obtain ⟨a0, a1, a2⟩ := (k1.below hz).cells
  obtain ⟨b0, b1, b2⟩ := (k2.below hz).cells
  obtain ⟨p0, p1⟩ := (k3.below hz).cells
  rw [hd] at a0
  exact ⟨a0, a1, a2, b0, b1, b2, p0, p1⟩⟩
 have HB := hid hB
 have heq := fun W => eql_st W a b
 simp only [hsm] at heq
 rw [hd] at heq
 unfold stc
 rw [hd]
 rw [hd] at hW0
 clear k1 k2 k3 hB
 go_enter Tryz.func115, Tryz.ntmps115
 go_upto_region 1 with fail
 refine wp_region_drop [] (S := fun wz : World => wz.cell? ⟨W.heap.size, 0, none⟩ = some (.bool false) /\ wz.cell? ⟨W.heap.size, 1, none⟩ = some (.int .i64 a.h) /\ wz.cell? ⟨W.heap.size, 2, none⟩ = some (.string ⟨a.own.toArray⟩) /\ wz.cell? ⟨W0.heap.size, 0, none⟩ = some (.bool b.dead) /\ wz.cell? ⟨W0.heap.size, 1, none⟩ = some (.int .i64 b.h) /\ wz.cell? ⟨W0.heap.size, 2, none⟩ = some (.string ⟨b.own.toArray⟩) /\ wz.cell? ⟨W1.heap.size, 0, none⟩ = some (.int .i64 p.1) /\ wz.cell? ⟨W1.heap.size, 1, none⟩ = some (.int .i64 p.2)) (by kernel_rfl) (HK.out W2.drew (Below.refl _ _).drew) (fun hHeld => ?_)
 have HB0 := hid (Below.refl W2.heap.size W2).drew
 generalize W2.drew = y0 at *
 clear hW0 hW1 hW2
 refine wpD_takeP (i := 0) (v := ?_) rfl (by kernel_rfl) (by kernel_rfl) (by kernel_rfl) (by kernel_rfl) (fun c a w h => h) (Or.inl ⟨by rfl, ?_⟩) (fun _ => hHeld) ?_
 rotate_left
 ·(intro w hSw; clear hSw; go_simp; try with_reducible rfl)
 simp only [Act.put, List.getElem_toArray, List.getElem_cons_zero, List.getElem_cons_succ, List.setIfInBounds_toArray, List.set_cons_zero, List.set_cons_succ]
 refine wpD_takeT (i := 1) (v := ?_) rfl (by kernel_rfl) (by kernel_rfl) (by kernel_rfl) (by kernel_rfl) (by kernel_rfl) (by kernel_rfl) (fun c a w h => h) (Or.inl ⟨by rfl, ?_⟩) hHeld ?_
 rotate_left
 ·(intro w hSw; (try dsimp only at hSw); go_simp; try with_reducible rfl)
 simp only [Act.put, List.getElem_toArray, List.getElem_cons_zero, List.getElem_cons_succ, List.setIfInBounds_toArray, List.set_cons_zero, List.set_cons_succ]
 refine wpD_takeP (i := 2) (v := ?_) rfl (by kernel_rfl) (by kernel_rfl) (by kernel_rfl) (by kernel_rfl) (fun c a w h => h) (Or.inl ⟨by rfl, ?_⟩) (fun _ => hHeld) ?_
 rotate_left
 ·(intro w hSw; clear hSw; go_simp; try with_reducible rfl)
 simp only [Act.put, List.getElem_toArray, List.getElem_cons_zero, List.getElem_cons_succ, List.setIfInBounds_toArray, List.set_cons_zero, List.set_cons_succ]
 refine wpD_takeT (i := 3) (v := ?_) rfl (by kernel_rfl) (by kernel_rfl) (by kernel_rfl) (by kernel_rfl) (by kernel_rfl) (by kernel_rfl) (fun c a w h => h) (Or.inl ⟨by rfl, ?_⟩) hHeld ?_
 rotate_left
 ·(intro w hSw; (try dsimp only at hSw); go_simp; try with_reducible rfl)
 simp only [Act.put, List.getElem_toArray, List.getElem_cons_zero, List.getElem_cons_succ, List.setIfInBounds_toArray, List.set_cons_zero, List.set_cons_succ]
 refine wpD_takeT (i := 4) (v := ?_) rfl (by kernel_rfl) (by kernel_rfl) (by kernel_rfl) (by kernel_rfl) (by kernel_rfl) (by kernel_rfl) (fun c a w h => h) (Or.inl ⟨by rfl, ?_⟩) hHeld ?_
 rotate_left
 ·(intro w hSw; (try dsimp only at hSw); go_simp; try with_reducible rfl)
 simp only [Act.put, List.getElem_toArray, List.getElem_cons_zero, List.getElem_cons_succ, List.setIfInBounds_toArray, List.set_cons_zero, List.set_cons_succ]
 refine wpD_takeP (i := 5) (v := ?_) rfl (by kernel_rfl) (by kernel_rfl) (by kernel_rfl) (by kernel_rfl) (fun c a w h => h) (Or.inl ⟨by rfl, ?_⟩) (fun _ => hHeld) ?_
 rotate_left
 ·(intro w hSw; clear hSw; go_simp; try with_reducible rfl)
 simp only [Act.put, List.getElem_toArray, List.getElem_cons_zero, List.getElem_cons_succ, List.setIfInBounds_toArray, List.set_cons_zero, List.set_cons_succ]
 refine wpD_takeP (i := 6) (v := ?_) rfl (by kernel_rfl) (by kernel_rfl) (by kernel_rfl) (by kernel_rfl) (fun c a w h => h) (Or.inl ⟨by rfl, ?_⟩) (fun _ => hHeld) ?_
 rotate_left
 ·(intro w hSw; clear hSw; go_simp; try with_reducible rfl)
 simp only [Act.put, List.getElem_toArray, List.getElem_cons_zero, List.getElem_cons_succ, List.setIfInBounds_toArray, List.set_cons_zero, List.set_cons_succ]
 refine wpD_takeT (i := 7) (v := ?_) rfl (by kernel_rfl) (by kernel_rfl) (by kernel_rfl) (by kernel_rfl) (by kernel_rfl) (by kernel_rfl) (fun c a w h => h) (Or.inl ⟨by rfl, ?_⟩) hHeld ?_
 rotate_left
 ·(intro w hSw; (try dsimp only at hSw); go_simp; try with_reducible rfl)
 simp only [Act.put, List.getElem_toArray, List.getElem_cons_zero, List.getElem_cons_succ, List.setIfInBounds_toArray, List.set_cons_zero, List.set_cons_succ]
 refine wpD_ready (rs := [8]) (by kernel_rfl) (by simp) ?_
 refine AllD.cons rfl (fun K hK => ?_) AllD.nil
 go_simp
 refine (must_false 151 p y0).mono ?_
 rintro e y1 ⟨rfl, hb⟩
 exact ⟨rfl, rfl, HB.out.trans ((HB0.out.trans (hb.mono HB0.out.size)).mono HB.out.size)⟩
theorem back_any (a b : St) (p : Ps) (W : World) :
  Calls Tryz.prog 115 #[.agg (stc a).toArray, .agg (stc b).toArray, .agg #[.int .i64 p.1, .int .i64 p.2]] W fun e w' => (match back a b p with | .ok _ => e = .returned (.tuple #[]) | .error er => e = .panicked (flt er)) /\ Below W.heap.size W w' := by
 unfold back
 cases hd : a.dead with
 | true => rw [if_pos (Or.inl rfl)]; exact bk_dead a b p W hd _ rfl
 | false =>
  cases hs : same a b with
  | true => rw [if_pos (Or.inr rfl)]; exact bk_same a b p W hd hs
  | false => rw [if_neg (by simp)]; exact bk_no a b p W hd hs
set_option maxHeartbeats 2000000
set_option maxRecDepth 100000
def FR (w : World) (bn bs br g : Nat) (cs : List Value) (s : St) (mv av : Value) (k : Wk) : Prop := w.heap[bn]? = some (.cells cs.toArray 30 (0, 0)) /\ SB w bs s /\ SB w br s0 /\ EW w g mv av k
structure AP (W : World) (bn bs br g : Nat) : Prop where
 n0 : bn = W.heap.size
 n1 : bs = W.heap.size + 1
 n2 : br = W.heap.size + 2
 lt : g < W.heap.size
theorem FR.gw {w w' : World} {W : World} {bn bs br g : Nat} {cs : List Value} {s : St} {mv av : Value} {k k' : Wk} (h : FR w bn bs br g cs s mv av k) (a : AP W bn bs br g) (hG : Gw g w w') (hE : EW w' g mv av k') : FR w' bn bs br g cs s mv av k' :=
 ⟨hG.keep h.1 (by have := a.lt; have := a.n0; omega), hG.keep h.2.1 (by have := a.lt; have := a.n1; omega), hG.keep h.2.2.1 (by have := a.lt; have := a.n2; omega), hE⟩
theorem FR.below {w w' : World} {bn bs br g : Nat} {cs : List Value} {s : St} {mv av : Value} {k : Wk} (h : FR w bn bs br g cs s mv av k) (hb : Below w.heap.size w w') : FR w' bn bs br g cs s mv av k :=
 ⟨(hb.block _ (S.lt_of h.1)).trans h.1, h.2.1.below hb, h.2.2.1.below hb, h.2.2.2.below hb⟩
theorem FR.row {w : World} {W : World} {bn bs br g : Nat} {cs : List Value} {s : St} {mv av : Value} {k : Wk} (h : FR w bn bs br g cs s mv av k) (a : AP W bn bs br g) (s' : St) : FR (w.setRow bs (stc s').toArray) bn bs br g cs s' mv av k :=
 ⟨(setRow_other w bs bn _ (by have := a.n0; have := a.n1; omega)).trans h.1, setRow_heap w bs _ _ _ _ h.2.1, (setRow_other w bs br _ (by have := a.n2; have := a.n1; omega)).trans h.2.2.1, (setRow_other w bs g _ (by have := a.lt; have := a.n1; omega)).trans h.2.2.2⟩
theorem FR.cell {w : World} {W : World} {bn bs br g : Nat} {cs : List Value} {s : St} {mv av : Value} {k : Wk} (h : FR w bn bs br g cs s mv av k) (a : AP W bn bs br g) (i : Nat) (v : Value) (s' : St) (e : (stc s).set i v = stc s') : FR (w.setCell ⟨bs, i, none⟩ v) bn bs br g cs s' mv av k :=
 ⟨(S.setCell_other w bs i bn v (by have := a.n0; have := a.n1; omega)).trans h.1, (by have := S.setCell_heap w bs i _ 129 v h.2.1; rw [e] at this; exact this), (S.setCell_other w bs i br v (by have := a.n2; have := a.n1; omega)).trans h.2.2.1, (S.setCell_other w bs i g v (by have := a.lt; have := a.n1; omega)).trans h.2.2.2⟩
theorem FR.res {w : World} {W : World} {bn bs br g : Nat} {cs : List Value} {s : St} {mv av : Value} {k : Wk} (h : FR w bn bs br g cs s mv av k) (a : AP W bn bs br g) (hG : Gw g W w) (s' : St) : SB (w.setRow br (stc s').toArray) br s' /\ EW (w.setRow br (stc s').toArray) g mv av k /\ Gw g W (w.setRow br (stc s').toArray) :=
 ⟨setRow_heap w br _ _ _ _ h.2.2.1, (setRow_other w br g _ (by have := a.lt; have := a.n2; omega)).trans h.2.2.2, hG.setR br _ (by have := a.n2; omega)⟩
theorem box_nsr (n : Nd) (q1 q2 : Option Addr) (d1 d2 : Nat) (s : St) (g : Nat) (mv av : Value) (k : Wk) (W : World) (h : EW W g mv av k) : ∃ W0 W1 W2, W.alloc (.cells #[.int .i64 n.k, .int .i64 n.op, .int .u16 n.v, .string n.nm, .slice q1 n.th.length d1, .slice q2 n.el.length d2, .bool n.has, .int .i64 n.p.1, .int .i64 n.p.2] 30) = W0 /\ W0.alloc (.cells #[.bool s.dead, .int .i64 s.h, .string ⟨s.own.toArray⟩] 129) = W1 /\ W1.alloc (.cells #[.bool false, .int .i64 0, .string { data := #[] }] 129) = W2 /\ Below W.heap.size W W2 /\ AP W W.heap.size W0.heap.size W1.heap.size g /\ FR W2 W.heap.size W0.heap.size W1.heap.size g (ndc n (.slice q1 n.th.length d1) (.slice q2 n.el.length d2)) s mv av k := by
 refine ⟨_, _, _, rfl, rfl, rfl, (((Below.refl _ _).alloc (Nat.le_refl _) _).alloc (by simp) _).alloc (by simp; omega) _, ⟨rfl, by simp, by simp, h.lt⟩, ?_, ?_, ?_, ?_⟩
 ·exact (Below.heap_alloc _ _ _ (by simp; omega)).trans ((Below.heap_alloc _ _ _ (by simp)).trans (heap_alloc_new W _))
 ·exact (Below.heap_alloc _ _ _ (by simp)).trans (heap_alloc_new _ _)
 ·exact heap_alloc_new _ _
 ·have hl := h.lt
  exact (Below.heap_alloc _ _ _ (by simp; omega)).trans ((Below.heap_alloc _ _ _ (by simp; omega)).trans ((Below.heap_alloc _ _ _ (by omega)).trans h))
theorem nd_cells {w : World} {b : Nat} {n : Nd} {tv ev : Value} (h : w.heap[b]? = some (.cells (ndc n tv ev).toArray 30 (0, 0))) : w.cell? ⟨b, 0, none⟩ = some (.int .i64 n.k) /\ w.cell? ⟨b, 1, none⟩ = some (.int .i64 n.op) /\ w.cell? ⟨b, 2, none⟩ = some (.int .u16 n.v) /\ w.cell? ⟨b, 3, none⟩ = some (.string n.nm) /\ w.cell? ⟨b, 4, none⟩ = some tv /\ w.cell? ⟨b, 5, none⟩ = some ev /\ w.cell? ⟨b, 6, none⟩ = some (.bool n.has) /\ w.cell? ⟨b, 7, none⟩ = some (.int .i64 n.p.1) /\ w.cell? ⟨b, 8, none⟩ = some (.int .i64 n.p.2) :=
 ⟨S.cell_of w b 0 _ 30 _ h rfl, S.cell_of w b 1 _ 30 _ h rfl, S.cell_of w b 2 _ 30 _ h rfl, S.cell_of w b 3 _ 30 _ h rfl, S.cell_of w b 4 _ 30 _ h rfl, S.cell_of w b 5 _ 30 _ h rfl, S.cell_of w b 6 _ 30 _ h rfl, S.cell_of w b 7 _ 30 _ h rfl, S.cell_of w b 8 _ 30 _ h rfl⟩
theorem step_own {w k' : Wk} {s s' : St} {a b : Int} {p : Ps} (h : step (w, s) a b p = .ok (k', s')) : s'.own = s.own := by
 unfold step at h
 split at h
 ·cases h
 ·cases h; rfl
theorem cut_own (l : List UInt8) : (⟨l.toArray⟩ : ByteArray).extract 0 (l.length - 1) = ⟨l.dropLast.toArray⟩ := by
 apply ByteArray.ext
 simp [ByteArray.data_extract, List.dropLast_eq_take]
theorem ri_in : (List.range 64).all (fun x => decide (0 <= P.ri x) && decide (P.ri x <= 3) && decide (0 <= P.ro x) && decide (P.ro x <= 4)) = true := by kernel_rfl
theorem ri_ro (x : Nat) (h : x < 64) : (0 <= P.ri x /\ P.ri x <= 3) /\ 0 <= P.ro x /\ P.ro x <= 4 := by
 have := List.all_eq_true.1 ri_in x (List.mem_range.2 h)
 simp only [Bool.and_eq_true, decide_eq_true_eq] at this
 omega
end Go.Proofs.YtlilefhmohkfkaaGreatDoor.E
