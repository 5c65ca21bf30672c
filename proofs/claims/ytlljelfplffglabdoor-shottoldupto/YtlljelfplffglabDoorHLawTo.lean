import Derived.Test.YtlljelfplffglabDoorHToK
import Derived.Test.YtlljelfplffglabDoorHScr
import Derived.Deep.RegionHeldLaw
import Derived.Deep.DeepCutAuto
/-! ShotTold: the walk. -/
namespace Go.Proofs.YtlljelfplffglabDoor.H
open Go.RowKit
open Go.Proofs
open Go.Proofs.YtlljelfplffglabDoor.K
set_option linter.unusedVariables false
set_option linter.unusedSimpArgs false
set_option maxHeartbeats 4000000
set_option maxRecDepth 100000
theorem told_walk (z0 z1 z2 z3 z4 : Int) (vs vt : Value) (sc : List UInt8) (ts : List Tn) (hl : sc.length + 31 * ts.length + 8192 ≤ room) (hI : ∀ t ∈ ts, inI t.c) (W : World) (hs : Sl W vs sc) (ht : S.Ls eT 3 W vt ts) (hTb : Tab W) (hP : P10 W) :
    Calls Tryd.prog 4 #[.agg #[.int .i64 z0, .int .i64 z1, .int .i64 z2, .int .i64 z3, .int .i64 z4, vs, vt]] W fun r w' => r = .returned (.bool true) ∧ Below W.heap.size W w' := by
  obtain ⟨ps, cs, rfl, _⟩ := hs.ex
  obtain ⟨pt, ct, rfl, _, _⟩ := ht.ex
  have HG := hid (And.intro hs (And.intro ht (And.intro hTb (And.intro hP hI))))
  unfold room at hl
  clear hs ht hTb hP hI
  obtain ⟨W0, hW0⟩ : ∃ W0, W.alloc (.cells #[.int .i64 z0, .int .i64 z1, .int .i64 z2, .int .i64 z3, .int .i64 z4, .slice ps sc.length cs, .slice pt ts.length ct] 44) = W0 := ⟨_, rfl⟩
  have e0 : W0.heap[W.heap.size]? = some (.cells #[.int .i64 z0, .int .i64 z1, .int .i64 z2, .int .i64 z3, .int .i64 z4, .slice ps sc.length cs, .slice pt ts.length ct] 44 (0, 0)) := by rw [← hW0]; exact heap_alloc_new W _
  have hb0 : Below W.heap.size W W0 := by rw [← hW0]; exact (Below.refl _ W).alloc (Nat.le_refl _) _
  obtain ⟨B, hB⟩ : ∃ B, W.heap.size = B := ⟨_, rfl⟩
  rw [hB] at e0 hb0
  have HB := hid hB
  have H0 := hid (And.intro hb0 e0)
  clear hb0 e0
  go_enter Tryd.func4, Tryd.ntmps4
  go_wp2_with fail
  try rw [hW0]
  try rw [hB]
  clear hW0
  refine (fixed_any W0).mono ?_
  rintro e w1 ⟨rfl, hb1⟩
  have e1 := (hb1.block _ (Array.getElem?_eq_some_iff.1 H0.out.2).1).trans H0.out.2
  have b1 := H0.out.1.trans (hb1.mono (by have := (Array.getElem?_eq_some_iff.1 H0.out.2).1; omega))
  obtain ⟨q0, q1, q2, q3, q4, q5, q6⟩ : w1.cell? ⟨B, 0, none⟩ = some (.int .i64 z0) ∧ w1.cell? ⟨B, 1, none⟩ = some (.int .i64 z1) ∧ w1.cell? ⟨B, 2, none⟩ = some (.int .i64 z2) ∧ w1.cell? ⟨B, 3, none⟩ = some (.int .i64 z3) ∧ w1.cell? ⟨B, 4, none⟩ = some (.int .i64 z4) ∧ w1.cell? ⟨B, 5, none⟩ = some (.slice ps sc.length cs) ∧ w1.cell? ⟨B, 6, none⟩ = some (.slice pt ts.length ct) := ⟨cell_of_any _ _ 0 _ _ _ e1, cell_of_any _ _ 1 _ _ _ e1, cell_of_any _ _ 2 _ _ _ e1, cell_of_any _ _ 3 _ _ _ e1, cell_of_any _ _ 4 _ _ _ e1, cell_of_any _ _ 5 _ _ _ e1, cell_of_any _ _ 6 _ _ _ e1⟩
  obtain ⟨W2, hW2⟩ : ∃ W2, w1.alloc (.cells #[.int .i64 z0, .int .i64 z1, .int .i64 z2, .int .i64 z3, .int .i64 z4, .slice ps sc.length cs, .slice pt ts.length ct] 44) = W2 := ⟨_, rfl⟩
  have hb2 : Below w1.heap.size w1 W2 := by rw [← hW2]; exact (Below.refl _ _).alloc (Nat.le_refl _) _
  have x2 : W2.heap[w1.heap.size]? = some (.cells #[.int .i64 z0, .int .i64 z1, .int .i64 z2, .int .i64 z3, .int .i64 z4, .slice ps sc.length cs, .slice pt ts.length ct] 44 (0, 0)) := by rw [← hW2]; exact heap_alloc_new w1 _
  have hBl := (Array.getElem?_eq_some_iff.1 e1).1
  have e2 := (hb2.block _ hBl).trans e1
  have b2 := b1.trans (hb2.mono (by omega))
  obtain ⟨X, hX⟩ : ∃ X, w1.heap.size = X := ⟨_, rfl⟩
  rw [hX] at x2 hBl
  have a5 : W2.cell? ⟨B, 5, none⟩ = some (.slice ps sc.length cs) := cell_of_any _ _ 5 _ _ _ e2
  have H2 := hid (And.intro b2 (And.intro e2 (And.intro x2 hBl)))
  clear hb1 e1 b1 hb2 x2 e2 b2 hBl H0
  go_upto_region 4 with fail
  try rw [hW2]
  try rw [hX]
  clear hW2 q0 q1 q2 q3 q4 q5 q6 hX
  have hbW : Below W.heap.size W W2 := by rw [HB.out]; exact H2.out.1
  have hro := roomy_any _ sc (by unfold room; omega) W2 (HG.out.1.below hbW)
  clear hbW
  go_wp2_with fail
  refine hro.mono ?_
  rintro e w3 ⟨u, rfl, hR, hb3⟩
  obtain ⟨gs, cap, rfl, hR0⟩ := id hR
  have e3 := (hb3.block _ (Array.getElem?_eq_some_iff.1 H2.out.2.1).1).trans H2.out.2.1
  have x3 := (hb3.block _ (Array.getElem?_eq_some_iff.1 H2.out.2.2.1).1).trans H2.out.2.2.1
  have k5 : w3.cell? ⟨X, 5, none⟩ = some (.slice ps sc.length cs) := cell_of_any _ _ 5 _ _ _ x3
  have f5 := frozen_of_row w3 X 5 _ _ x3
  obtain ⟨W3, hW3⟩ : ∃ W3, w3.setCell ⟨X, 5, none⟩ (.slice (some ⟨gs, 0, none⟩) sc.length cap) = W3 := ⟨_, rfl⟩
  have hT : T0 W B X gs cap sc.length #[.int .i64 z0, .int .i64 z1, .int .i64 z2, .int .i64 z3, .int .i64 z4, .slice ps sc.length cs, .slice pt ts.length ct] #[.int .i64 z0, .int .i64 z1, .int .i64 z2, .int .i64 z3, .int .i64 z4, .slice (some ⟨gs, 0, none⟩) sc.length cap, .slice pt ts.length ct] sc W3 := by
    have hgs := (hR0.lt gs rfl).1
    have hXl := (Array.getElem?_eq_some_iff.1 H2.out.2.2.1).1
    have hbl := H2.out.2.2.2
    refine ⟨?_, ?_, ?_, ?_, rfl, hbl⟩
    · rw [← hW3]
      exact (H2.out.1.trans (hb3.mono (by omega))).setCell (p := ⟨X, 5, none⟩) (by show B ≤ X; omega) _
    · rw [← hW3, heap_setCell_other w3 ⟨X, 5, none⟩ B _ (by show B ≠ X; omega)]; exact e3
    · rw [← hW3]; exact heap_setCell_same w3 X 5 _ _ _ x3
    · rw [← hW3]
      exact (hR0.kept fun g e _ => heap_setCell_other w3 ⟨X, 5, none⟩ g _ (by have := blkT e; subst this; show gs ≠ X; omega)).mono (by omega)
  have HT := hid hT
  clear hR hR0 hb3 e3 x3 hT hro a5 H2
  go_upto_region 5 with fail
  try rw [hW3]
  clear hW3 k5 f5
  go_cut [] (fun wc => ∃ gl cl, ts.length + 1 ≤ cl ∧ TS W B X gs cap sc.length gl cl ts.length #[.int .i64 z0, .int .i64 z1, .int .i64 z2, .int .i64 z3, .int .i64 z4, .slice ps sc.length cs, .slice pt ts.length ct] #[.int .i64 z0, .int .i64 z1, .int .i64 z2, .int .i64 z3, .int .i64 z4, .slice (some ⟨gs, 0, none⟩) sc.length cap, .slice (some ⟨gl, 0, none⟩) ts.length cl] sc ts wc)
  case first =>
    have a6 : W3.drew.cell? ⟨B, 6, none⟩ = some (.slice pt ts.length ct) := cell_of_any W3 _ 6 _ _ _ HT.out.bo
    refine wp_region_held_drew (S := (fun wz : World => wz.cell? ⟨B, 6, none⟩ = some (.slice pt ts.length ct))) (by kernel_rfl) a6 (fun hHeld => ?_)
    have t0 : T0 W B X gs cap sc.length #[.int .i64 z0, .int .i64 z1, .int .i64 z2, .int .i64 z3, .int .i64 z4, .slice ps sc.length cs, .slice pt ts.length ct] #[.int .i64 z0, .int .i64 z1, .int .i64 z2, .int .i64 z3, .int .i64 z4, .slice (some ⟨gs, 0, none⟩) sc.length cap, .slice pt ts.length ct] sc W3.drew := HT.out.next ⟨rfl, rfl, rfl, Nat.le_refl _, fun _ _ => rfl⟩
    clear HT a6
    generalize W3.drew = y0 at *
    have HBX := hid (fun (w : World) (CX : Array Value) (h : T0 W B X gs cap sc.length #[.int .i64 z0, .int .i64 z1, .int .i64 z2, .int .i64 z3, .int .i64 z4, .slice ps sc.length cs, .slice pt ts.length ct] CX sc w) => show w.cell? ⟨B, 6, none⟩ = some (.slice pt ts.length ct) from cell_of_any _ _ 6 _ _ _ h.bo)
    have hB1 : B + 1 ≤ y0.heap.size := (Array.getElem?_eq_some_iff.1 t0.bo).1
    have hls : S.Ls eT 3 y0 (.slice pt ts.length ct) ts := by
      have := t0.below
      rw [← HB.out] at this
      exact HG.out.2.1.below this
    have hcs := S.Ls.cs hT3 (by decide) oneTn hls
    have HLS := hid hls
    clear hls hcs
    have b0 : Below y0.heap.size y0 y0 := Below.refl _ _
    obtain ⟨N, hN⟩ : ∃ N, y0.heap.size = N := ⟨_, rfl⟩
    rw [hN] at b0 hB1
    have HN := hid hN
    clear hN
    have hwl : IntKind.i64.wrap (ts.length : Int) = (ts.length : Int) := by rw [IntKind.wrap_i64]; omega
    refine wpAnyH_take (i := 1) (v := ?_) rfl (by kernel_rfl) (by kernel_rfl) (by kernel_rfl) (fun c a w h => h) (Or.inl ⟨by rfl, ?_⟩) hHeld ?_
    rotate_left
    · (intro w hSw; (try dsimp only at hSw); go_simp; try with_reducible rfl)
    simp only [Act.put, List.getElem_toArray, List.getElem_cons_zero, List.getElem_cons_succ, List.setIfInBounds_toArray, List.set_cons_zero, List.set_cons_succ]
    refine wpAnyH_take (i := 2) (v := ?_) rfl (by kernel_rfl) (by kernel_rfl) (by kernel_rfl) (fun c a w h => h) (Or.inl ⟨by rfl, ?_⟩) hHeld ?_
    rotate_left
    · (intro w hSw; (try dsimp only at hSw); go_simp; try with_reducible rfl)
    simp only [Act.put, List.getElem_toArray, List.getElem_cons_zero, List.getElem_cons_succ, List.setIfInBounds_toArray, List.set_cons_zero, List.set_cons_succ]
    refine wpAnyH_take (i := 4) (v := ?_) rfl (by kernel_rfl) (by kernel_rfl) (by kernel_rfl) (fun c a w h => h) (Or.inl ⟨by rfl, ?_⟩) hHeld ?_
    rotate_left
    · (intro w hSw; (try dsimp only at hSw); go_simp; try with_reducible rfl)
    simp only [Act.put, List.getElem_toArray, List.getElem_cons_zero, List.getElem_cons_succ, List.setIfInBounds_toArray, List.set_cons_zero, List.set_cons_succ]
    refine wpAnyH_take (i := 7) (v := ?_) rfl (by kernel_rfl) (by kernel_rfl) (by kernel_rfl) (fun c a w h => h) (Or.inl ⟨by rfl, ?_⟩) hHeld ?_
    rotate_left
    · (intro w hSw; (try dsimp only at hSw); go_simp; try with_reducible rfl)
    simp only [Act.put, List.getElem_toArray, List.getElem_cons_zero, List.getElem_cons_succ, List.setIfInBounds_toArray, List.set_cons_zero, List.set_cons_succ]
    refine wpAnyH_take (i := 8) (v := ?_) rfl (by kernel_rfl) (by kernel_rfl) (by kernel_rfl) (fun c a w h => h) (Or.inl ⟨by rfl, ?_⟩) hHeld ?_
    rotate_left
    · (intro w hSw; (try dsimp only at hSw); go_simp; try with_reducible rfl)
    simp only [Act.put, List.getElem_toArray, List.getElem_cons_zero, List.getElem_cons_succ, List.setIfInBounds_toArray, List.set_cons_zero, List.set_cons_succ]
    refine wpAnyH_take (i := 9) (v := ?_) rfl (by kernel_rfl) (by kernel_rfl) (by kernel_rfl) (fun c a w h => h) (Or.inl ⟨by rfl, ?_⟩) hHeld ?_
    rotate_left
    · (intro w hSw; (try dsimp only at hSw); go_simp; try with_reducible rfl)
    simp only [Act.put, List.getElem_toArray, List.getElem_cons_zero, List.getElem_cons_succ, List.setIfInBounds_toArray, List.set_cons_zero, List.set_cons_succ]
    refine wpAnyH_ready (rs := [0, 5]) (by kernel_rfl) (by simp) ?_
    refine AllReadyH.cons rfl (fun K hK => ?_) (AllReadyH.cons rfl (fun K hK => ?_) AllReadyH.nil)
    · have bb1 : Below y0.heap.size y0 (y0.alloc (.cells #[] 39)) := (Below.refl _ _).alloc (Nat.le_refl _) _
      have b1 := b0.trans (bb1.mono (by have := b0.size; have := HN.out; omega))
      have t1 := t0.next bb1
      have r1 := emp_tn y0 N (by have := b0.size; have := HN.out; omega)
      go_simp
      refine hK.out _ _ (HBX.out _ _ t1) (fun hHeld => ?_)
      clear hK K
      try simp only [Act.put, List.getElem_toArray, List.getElem_cons_zero, List.getElem_cons_succ, List.setIfInBounds_toArray, List.set_cons_zero, List.set_cons_succ]
      refine wpAnyH_ready (rs := [3, 5]) (by kernel_rfl) (by simp) ?_
      refine AllReadyH.cons rfl (fun K hK => ?_) (AllReadyH.cons rfl (fun K hK => ?_) AllReadyH.nil)
      · rw [if_pos (by rfl)]
        have hc2 := S.Ls.cs hT3 (by decide) oneTn (HLS.out.below (by rw [HN.out]; exact b1))
        refine S.wp_append_row _ _ _ 40 39 zTn 3 16 Tryd.underlying40 infoTn rfl (by decide) rfl N _ 0 [] rfl r1 _ ts.length (S.en eT ts) rfl hc2 (by unfold S.room; omega) (by unfold maxLen; omega) (by have := b1.size; have := HN.out; omega) (fun v2 y2 r2z g2 => ?_)
        have r2 : y2.ownsRow N 39 3 v2 ts.length (S.en eT ts) := by simpa using r2z
        have bb2 := g2.below (fun g e => (r1.lt g e).1) (by have := b1.size; have := HN.out; omega)
        have b2 := b1.trans bb2
        have t2 := t0.next (by rw [HN.out]; exact b2)
        refine hK.out _ _ (HBX.out _ _ t2) (fun hHeld => ?_)
        clear hK K
        try simp only [Act.put, List.getElem_toArray, List.getElem_cons_zero, List.getElem_cons_succ, List.setIfInBounds_toArray, List.set_cons_zero, List.set_cons_succ]
        refine wpAnyH_ready (rs := [5]) (by kernel_rfl) (by simp) ?_
        refine AllReadyH.cons rfl (fun K hK => ?_) AllReadyH.nil
        have bb3 : Below y2.heap.size y2 (y2.alloc (.cells #[.int .i64 777, .int .u16 0, .int .u8 0] 39)) := (Below.refl _ _).alloc (Nat.le_refl _) _
        have b3 := b2.trans (bb3.mono (by have := b2.size; have := HN.out; omega))
        have t3 := t2.next bb3
        have r3 := S.own_kept r2 (fun g _ hg => bb3.block g hg)
        have o3 : T1 y2.heap.size (y2.alloc (.cells #[.int .i64 777, .int .u16 0, .int .u8 0] 39)) _ := ⟨heap_alloc_new y2 _, fun e => by have h2 := (r2.lt _ e).2; omega⟩
        go_simp
        refine hK.out _ _ (HBX.out _ _ t3) (fun hHeld => ?_)
        clear hK K
        try simp only [Act.put, List.getElem_toArray, List.getElem_cons_zero, List.getElem_cons_succ, List.setIfInBounds_toArray, List.set_cons_zero, List.set_cons_succ]
        refine wpAnyH_ready (rs := [6]) (by kernel_rfl) (by simp) ?_
        refine AllReadyH.cons rfl (fun K hK => ?_) AllReadyH.nil
        rw [if_pos (by rfl)]
        refine S.wp_append_row _ _ _ 40 39 zTn 3 16 Tryd.underlying40 infoTn rfl (by decide) rfl N _ ts.length (S.en eT ts) rfl r3 _ 1 (eT mkT) rfl o3.cs (by unfold S.room; omega) (by unfold maxLen; omega) (by have := b3.size; have := HN.out; omega) (fun v4 y4 r4 g4 => ?_)
        have bb4 := g4.below (fun g e => (r3.lt g e).1) (by have := b3.size; have := HN.out; omega)
        have b4 := b3.trans bb4
        have t4 := t0.next (by rw [HN.out]; exact b4)
        obtain ⟨gl, cl, hcl, hv4⟩ : ∃ gl cl, ts.length + 1 ≤ cl ∧ v4 = .slice (some ⟨gl, 0, none⟩) (ts.length + 1) cl := by
          rcases r4.2 with ⟨_, h0⟩ | ⟨g, c, cur, hv, _, _, hcap, _⟩
          · omega
          · exact ⟨g, c, hcap, hv⟩
        subst hv4
        refine hK.out _ _ (HBX.out _ _ t4) (fun hHeld => ?_)
        clear hK K
        try simp only [Act.put, List.getElem_toArray, List.getElem_cons_zero, List.getElem_cons_succ, List.setIfInBounds_toArray, List.set_cons_zero, List.set_cons_succ]
        have i1 : (ts.length : Int) ≤ cl := by omega
        refine wpAnyH_take (i := 10) (v := ?_) rfl (by kernel_rfl) (by kernel_rfl) (by kernel_rfl) (fun c a w h => h) (Or.inl ⟨by rfl, ?_⟩) hHeld ?_
        rotate_left
        · (intro w hSw; (try dsimp only at hSw); go_simp; try with_reducible rfl)
        simp only [Act.put, List.getElem_toArray, List.getElem_cons_zero, List.getElem_cons_succ, List.setIfInBounds_toArray, List.set_cons_zero, List.set_cons_succ]
        refine wpAnyH_take (i := 11) (v := ?_) rfl (by kernel_rfl) (by kernel_rfl) (by kernel_rfl) (fun c a w h => h) (Or.inl ⟨by rfl, ?_⟩) hHeld ?_
        rotate_left
        · (intro w hSw; (try dsimp only at hSw); go_simp; try with_reducible rfl)
        simp only [Act.put, List.getElem_toArray, List.getElem_cons_zero, List.getElem_cons_succ, List.setIfInBounds_toArray, List.set_cons_zero, List.set_cons_succ]
        have k6 : y4.cell? ⟨X, 6, none⟩ = some (.slice pt ts.length ct) := cell_of_any _ _ 6 _ _ _ t4.bx
        have f6 := frozen_of_row y4 X 6 _ _ t4.bx
        have hTS := TS.make t4 r4 hB1 rfl (.slice (some ⟨gl, 0, none⟩) ts.length cl)
        refine wpAnyH_ready (rs := [12]) (by kernel_rfl) (by simp) ?_
        refine AllReadyH.cons rfl (fun K hK => ?_) AllReadyH.nil
        go_simp
        refine hK.out _ _ (HBX.out _ _ hTS.t0) (fun hHeld => ?_)
        clear hK K
        try simp only [Act.put, List.getElem_toArray, List.getElem_cons_zero, List.getElem_cons_succ, List.setIfInBounds_toArray, List.set_cons_zero, List.set_cons_succ]
        refine wpAnyH_done (by kernel_rfl) ?_ _
        have HE := hid hTS
        clear hTS hHeld k6 f6
        go_wp2
        go_meet
        case rel => exact ⟨gl, cl, hcl, HE.out⟩
      · have bb5 : Below (y0.alloc (.cells #[] 39)).heap.size (y0.alloc (.cells #[] 39)) ((y0.alloc (.cells #[] 39)).alloc (.cells #[.int .i64 777, .int .u16 0, .int .u8 0] 39)) := (Below.refl _ _).alloc (Nat.le_refl _) _
        have b5 := b1.trans (bb5.mono (by have := b1.size; have := HN.out; omega))
        have t5 := t1.next bb5
        have r5 := S.own_kept r1 (fun g _ hg => bb5.block g hg)
        have o5 : T1 (y0.alloc (.cells #[] 39)).heap.size ((y0.alloc (.cells #[] 39)).alloc (.cells #[.int .i64 777, .int .u16 0, .int .u8 0] 39)) _ := ⟨heap_alloc_new (y0.alloc (.cells #[] 39)) _, fun e => by have h2 := (r1.lt _ e).2; omega⟩
        have hz5 : (y0.alloc (.cells #[] 39)).heap.size = y0.heap.size + 1 := by simp
        rw [hz5] at o5
        clear hz5
        go_simp
        refine hK.out _ _ (HBX.out _ _ t5) (fun hHeld => ?_)
        clear hK K
        try simp only [Act.put, List.getElem_toArray, List.getElem_cons_zero, List.getElem_cons_succ, List.setIfInBounds_toArray, List.set_cons_zero, List.set_cons_succ]
        refine wpAnyH_ready (rs := [3]) (by kernel_rfl) (by simp) ?_
        refine AllReadyH.cons rfl (fun K hK => ?_) AllReadyH.nil
        rw [if_pos (by rfl)]
        have hc6 := S.Ls.cs hT3 (by decide) oneTn (HLS.out.below (by rw [HN.out]; exact b5))
        refine S.wp_append_row _ _ _ 40 39 zTn 3 16 Tryd.underlying40 infoTn rfl (by decide) rfl N _ 0 [] rfl r5 _ ts.length (S.en eT ts) rfl hc6 (by unfold S.room; omega) (by unfold maxLen; omega) (by have := b5.size; have := HN.out; omega) (fun v6 y6 r6z g6 => ?_)
        have r6 : y6.ownsRow N 39 3 v6 ts.length (S.en eT ts) := by simpa using r6z
        have bb6 := g6.below (fun g e => (r5.lt g e).1) (by have := b5.size; have := HN.out; omega)
        have b6 := b5.trans bb6
        have t6 := t0.next (by rw [HN.out]; exact b6)
        have o6 := o5.grow g6
        refine hK.out _ _ (HBX.out _ _ t6) (fun hHeld => ?_)
        clear hK K
        try simp only [Act.put, List.getElem_toArray, List.getElem_cons_zero, List.getElem_cons_succ, List.setIfInBounds_toArray, List.set_cons_zero, List.set_cons_succ]
        refine wpAnyH_ready (rs := [6]) (by kernel_rfl) (by simp) ?_
        refine AllReadyH.cons rfl (fun K hK => ?_) AllReadyH.nil
        rw [if_pos (by rfl)]
        refine S.wp_append_row _ _ _ 40 39 zTn 3 16 Tryd.underlying40 infoTn rfl (by decide) rfl N _ ts.length (S.en eT ts) rfl r6 _ 1 (eT mkT) rfl o6.cs (by unfold S.room; omega) (by unfold maxLen; omega) (by have := b6.size; have := HN.out; omega) (fun v7 y7 r7 g7 => ?_)
        have bb7 := g7.below (fun g e => (r6.lt g e).1) (by have := b6.size; have := HN.out; omega)
        have b7 := b6.trans bb7
        have t7 := t0.next (by rw [HN.out]; exact b7)
        obtain ⟨gl, cl, hcl, hv7⟩ : ∃ gl cl, ts.length + 1 ≤ cl ∧ v7 = .slice (some ⟨gl, 0, none⟩) (ts.length + 1) cl := by
          rcases r7.2 with ⟨_, h0⟩ | ⟨g, c, cur, hv, _, _, hcap, _⟩
          · omega
          · exact ⟨g, c, hcap, hv⟩
        subst hv7
        refine hK.out _ _ (HBX.out _ _ t7) (fun hHeld => ?_)
        clear hK K
        try simp only [Act.put, List.getElem_toArray, List.getElem_cons_zero, List.getElem_cons_succ, List.setIfInBounds_toArray, List.set_cons_zero, List.set_cons_succ]
        have i1 : (ts.length : Int) ≤ cl := by omega
        refine wpAnyH_take (i := 10) (v := ?_) rfl (by kernel_rfl) (by kernel_rfl) (by kernel_rfl) (fun c a w h => h) (Or.inl ⟨by rfl, ?_⟩) hHeld ?_
        rotate_left
        · (intro w hSw; (try dsimp only at hSw); go_simp; try with_reducible rfl)
        simp only [Act.put, List.getElem_toArray, List.getElem_cons_zero, List.getElem_cons_succ, List.setIfInBounds_toArray, List.set_cons_zero, List.set_cons_succ]
        refine wpAnyH_take (i := 11) (v := ?_) rfl (by kernel_rfl) (by kernel_rfl) (by kernel_rfl) (fun c a w h => h) (Or.inl ⟨by rfl, ?_⟩) hHeld ?_
        rotate_left
        · (intro w hSw; (try dsimp only at hSw); go_simp; try with_reducible rfl)
        simp only [Act.put, List.getElem_toArray, List.getElem_cons_zero, List.getElem_cons_succ, List.setIfInBounds_toArray, List.set_cons_zero, List.set_cons_succ]
        have k6 : y7.cell? ⟨X, 6, none⟩ = some (.slice pt ts.length ct) := cell_of_any _ _ 6 _ _ _ t7.bx
        have f6 := frozen_of_row y7 X 6 _ _ t7.bx
        have hTS := TS.make t7 r7 hB1 rfl (.slice (some ⟨gl, 0, none⟩) ts.length cl)
        refine wpAnyH_ready (rs := [12]) (by kernel_rfl) (by simp) ?_
        refine AllReadyH.cons rfl (fun K hK => ?_) AllReadyH.nil
        go_simp
        refine hK.out _ _ (HBX.out _ _ hTS.t0) (fun hHeld => ?_)
        clear hK K
        try simp only [Act.put, List.getElem_toArray, List.getElem_cons_zero, List.getElem_cons_succ, List.setIfInBounds_toArray, List.set_cons_zero, List.set_cons_succ]
        refine wpAnyH_done (by kernel_rfl) ?_ _
        have HE := hid hTS
        clear hTS hHeld k6 f6
        go_wp2
        go_meet
        case rel => exact ⟨gl, cl, hcl, HE.out⟩
    · have bb8 : Below y0.heap.size y0 (y0.alloc (.cells #[.int .i64 777, .int .u16 0, .int .u8 0] 39)) := (Below.refl _ _).alloc (Nat.le_refl _) _
      have b8 := b0.trans (bb8.mono (by have := b0.size; have := HN.out; omega))
      have t8 := t0.next bb8
      have o8 : T1 y0.heap.size (y0.alloc (.cells #[.int .i64 777, .int .u16 0, .int .u8 0] 39)) (.slice none 0 0) := ⟨heap_alloc_new y0 _, fun e => by cases e⟩
      go_simp
      refine hK.out _ _ (HBX.out _ _ t8) (fun hHeld => ?_)
      clear hK K
      try simp only [Act.put, List.getElem_toArray, List.getElem_cons_zero, List.getElem_cons_succ, List.setIfInBounds_toArray, List.set_cons_zero, List.set_cons_succ]
      refine wpAnyH_ready (rs := [0]) (by kernel_rfl) (by simp) ?_
      refine AllReadyH.cons rfl (fun K hK => ?_) AllReadyH.nil
      have bb9 : Below (y0.alloc (.cells #[.int .i64 777, .int .u16 0, .int .u8 0] 39)).heap.size (y0.alloc (.cells #[.int .i64 777, .int .u16 0, .int .u8 0] 39)) ((y0.alloc (.cells #[.int .i64 777, .int .u16 0, .int .u8 0] 39)).alloc (.cells #[] 39)) := (Below.refl _ _).alloc (Nat.le_refl _) _
      have b9 := b8.trans (bb9.mono (by have := b8.size; have := HN.out; omega))
      have t9 := t8.next bb9
      have r9 := emp_tn (y0.alloc (.cells #[.int .i64 777, .int .u16 0, .int .u8 0] 39)) N (by have := b8.size; have := HN.out; omega)
      have o9 : T1 _ ((y0.alloc (.cells #[.int .i64 777, .int .u16 0, .int .u8 0] 39)).alloc (.cells #[] 39)) (.slice (some ⟨(y0.alloc (.cells #[.int .i64 777, .int .u16 0, .int .u8 0] 39)).heap.size, 0, none⟩) 0 0) := ⟨(o8.next bb9).blk, fun e => by have h1 := blkT e; have h2 := (Array.getElem?_eq_some_iff.1 o8.blk).1; omega⟩
      have hz9 : (y0.alloc (.cells #[.int .i64 777, .int .u16 0, .int .u8 0] 39)).heap.size = y0.heap.size + 1 := by simp
      rw [hz9] at r9 o9
      clear hz9
      go_simp
      refine hK.out _ _ (HBX.out _ _ t9) (fun hHeld => ?_)
      clear hK K
      try simp only [Act.put, List.getElem_toArray, List.getElem_cons_zero, List.getElem_cons_succ, List.setIfInBounds_toArray, List.set_cons_zero, List.set_cons_succ]
      refine wpAnyH_ready (rs := [3]) (by kernel_rfl) (by simp) ?_
      refine AllReadyH.cons rfl (fun K hK => ?_) AllReadyH.nil
      rw [if_pos (by rfl)]
      have hc10 := S.Ls.cs hT3 (by decide) oneTn (HLS.out.below (by rw [HN.out]; exact b9))
      refine S.wp_append_row _ _ _ 40 39 zTn 3 16 Tryd.underlying40 infoTn rfl (by decide) rfl N _ 0 [] rfl r9 _ ts.length (S.en eT ts) rfl hc10 (by unfold S.room; omega) (by unfold maxLen; omega) (by have := b9.size; have := HN.out; omega) (fun v10 y10 r10z g10 => ?_)
      have r10 : y10.ownsRow N 39 3 v10 ts.length (S.en eT ts) := by simpa using r10z
      have bb10 := g10.below (fun g e => (r9.lt g e).1) (by have := b9.size; have := HN.out; omega)
      have b10 := b9.trans bb10
      have t10 := t0.next (by rw [HN.out]; exact b10)
      have o10 := o9.grow g10
      refine hK.out _ _ (HBX.out _ _ t10) (fun hHeld => ?_)
      clear hK K
      try simp only [Act.put, List.getElem_toArray, List.getElem_cons_zero, List.getElem_cons_succ, List.setIfInBounds_toArray, List.set_cons_zero, List.set_cons_succ]
      refine wpAnyH_ready (rs := [6]) (by kernel_rfl) (by simp) ?_
      refine AllReadyH.cons rfl (fun K hK => ?_) AllReadyH.nil
      rw [if_pos (by rfl)]
      refine S.wp_append_row _ _ _ 40 39 zTn 3 16 Tryd.underlying40 infoTn rfl (by decide) rfl N _ ts.length (S.en eT ts) rfl r10 _ 1 (eT mkT) rfl o10.cs (by unfold S.room; omega) (by unfold maxLen; omega) (by have := b10.size; have := HN.out; omega) (fun v11 y11 r11 g11 => ?_)
      have bb11 := g11.below (fun g e => (r10.lt g e).1) (by have := b10.size; have := HN.out; omega)
      have b11 := b10.trans bb11
      have t11 := t0.next (by rw [HN.out]; exact b11)
      obtain ⟨gl, cl, hcl, hv11⟩ : ∃ gl cl, ts.length + 1 ≤ cl ∧ v11 = .slice (some ⟨gl, 0, none⟩) (ts.length + 1) cl := by
        rcases r11.2 with ⟨_, h0⟩ | ⟨g, c, cur, hv, _, _, hcap, _⟩
        · omega
        · exact ⟨g, c, hcap, hv⟩
      subst hv11
      refine hK.out _ _ (HBX.out _ _ t11) (fun hHeld => ?_)
      clear hK K
      try simp only [Act.put, List.getElem_toArray, List.getElem_cons_zero, List.getElem_cons_succ, List.setIfInBounds_toArray, List.set_cons_zero, List.set_cons_succ]
      have i1 : (ts.length : Int) ≤ cl := by omega
      refine wpAnyH_take (i := 10) (v := ?_) rfl (by kernel_rfl) (by kernel_rfl) (by kernel_rfl) (fun c a w h => h) (Or.inl ⟨by rfl, ?_⟩) hHeld ?_
      rotate_left
      · (intro w hSw; (try dsimp only at hSw); go_simp; try with_reducible rfl)
      simp only [Act.put, List.getElem_toArray, List.getElem_cons_zero, List.getElem_cons_succ, List.setIfInBounds_toArray, List.set_cons_zero, List.set_cons_succ]
      refine wpAnyH_take (i := 11) (v := ?_) rfl (by kernel_rfl) (by kernel_rfl) (by kernel_rfl) (fun c a w h => h) (Or.inl ⟨by rfl, ?_⟩) hHeld ?_
      rotate_left
      · (intro w hSw; (try dsimp only at hSw); go_simp; try with_reducible rfl)
      simp only [Act.put, List.getElem_toArray, List.getElem_cons_zero, List.getElem_cons_succ, List.setIfInBounds_toArray, List.set_cons_zero, List.set_cons_succ]
      have k6 : y11.cell? ⟨X, 6, none⟩ = some (.slice pt ts.length ct) := cell_of_any _ _ 6 _ _ _ t11.bx
      have f6 := frozen_of_row y11 X 6 _ _ t11.bx
      have hTS := TS.make t11 r11 hB1 rfl (.slice (some ⟨gl, 0, none⟩) ts.length cl)
      refine wpAnyH_ready (rs := [12]) (by kernel_rfl) (by simp) ?_
      refine AllReadyH.cons rfl (fun K hK => ?_) AllReadyH.nil
      go_simp
      refine hK.out _ _ (HBX.out _ _ hTS.t0) (fun hHeld => ?_)
      clear hK K
      try simp only [Act.put, List.getElem_toArray, List.getElem_cons_zero, List.getElem_cons_succ, List.setIfInBounds_toArray, List.set_cons_zero, List.set_cons_succ]
      refine wpAnyH_done (by kernel_rfl) ?_ _
      have HE := hid hTS
      clear hTS hHeld k6 f6
      go_wp2
      go_meet
      case rel => exact ⟨gl, cl, hcl, HE.out⟩
  case rest =>
    obtain ⟨gl, cl, hcl, hT⟩ := hcut
    have HT := hid hT
    clear hT
    have HS := hid (fun (w : World) (h : TS W B X gs cap sc.length gl cl ts.length #[.int .i64 z0, .int .i64 z1, .int .i64 z2, .int .i64 z3, .int .i64 z4, .slice ps sc.length cs, .slice pt ts.length ct] #[.int .i64 z0, .int .i64 z1, .int .i64 z2, .int .i64 z3, .int .i64 z4, .slice (some ⟨gs, 0, none⟩) sc.length cap, .slice (some ⟨gl, 0, none⟩) ts.length cl] sc ts w) => show (w.cell? ⟨B, 0, none⟩ = some (.int .i64 z0) ∧ w.cell? ⟨B, 1, none⟩ = some (.int .i64 z1) ∧ w.cell? ⟨B, 2, none⟩ = some (.int .i64 z2) ∧ w.cell? ⟨B, 3, none⟩ = some (.int .i64 z3) ∧ w.cell? ⟨B, 4, none⟩ = some (.int .i64 z4) ∧ w.cell? ⟨B, 5, none⟩ = some (.slice ps sc.length cs) ∧ w.cell? ⟨B, 6, none⟩ = some (.slice pt ts.length ct) ∧ w.cell? ⟨X, 0, none⟩ = some (.int .i64 z0) ∧ w.cell? ⟨X, 1, none⟩ = some (.int .i64 z1) ∧ w.cell? ⟨X, 2, none⟩ = some (.int .i64 z2) ∧ w.cell? ⟨X, 3, none⟩ = some (.int .i64 z3) ∧ w.cell? ⟨X, 4, none⟩ = some (.int .i64 z4) ∧ w.cell? ⟨X, 5, none⟩ = some (.slice (some ⟨gs, 0, none⟩) sc.length cap) ∧ w.cell? ⟨X, 6, none⟩ = some (.slice (some ⟨gl, 0, none⟩) ts.length cl) ∧ w.cell? ⟨gl, ts.length * 3, none⟩ = some (.int .i64 777)) from ⟨cell_of_any _ _ 0 _ _ _ h.t0.bo, cell_of_any _ _ 1 _ _ _ h.t0.bo, cell_of_any _ _ 2 _ _ _ h.t0.bo, cell_of_any _ _ 3 _ _ _ h.t0.bo, cell_of_any _ _ 4 _ _ _ h.t0.bo, cell_of_any _ _ 5 _ _ _ h.t0.bo, cell_of_any _ _ 6 _ _ _ h.t0.bo, cell_of_any _ _ 0 _ _ _ h.t0.bx, cell_of_any _ _ 1 _ _ _ h.t0.bx, cell_of_any _ _ 2 _ _ _ h.t0.bx, cell_of_any _ _ 3 _ _ _ h.t0.bx, cell_of_any _ _ 4 _ _ _ h.t0.bx, cell_of_any _ _ 5 _ _ _ h.t0.bx, cell_of_any _ _ 6 _ _ _ h.t0.bx, (h.at ts.length mkT (by rw [List.getElem?_append_right (Nat.le_refl _)]; simp)).1⟩)
    have HBW := hid (fun (w : World) (s : List UInt8) (l : List Tn) (h : TS W B X gs cap sc.length gl cl ts.length #[.int .i64 z0, .int .i64 z1, .int .i64 z2, .int .i64 z3, .int .i64 z4, .slice ps sc.length cs, .slice pt ts.length ct] #[.int .i64 z0, .int .i64 z1, .int .i64 z2, .int .i64 z3, .int .i64 z4, .slice (some ⟨gs, 0, none⟩) sc.length cap, .slice (some ⟨gl, 0, none⟩) ts.length cl] s l w) => show Below W.heap.size W w from (by rw [HB.out]; exact h.t0.below))
    obtain ⟨SS, hSS⟩ : ∃ SS : ByteArray, ⟨(ts.flatMap tl).toArray⟩ = SS := ⟨_, rfl⟩
    have HT1 := hid (fun (w : World) (h : TS W B X gs cap sc.length gl cl ts.length #[.int .i64 z0, .int .i64 z1, .int .i64 z2, .int .i64 z3, .int .i64 z4, .slice ps sc.length cs, .slice pt ts.length ct] #[.int .i64 z0, .int .i64 z1, .int .i64 z2, .int .i64 z3, .int .i64 z4, .slice (some ⟨gs, 0, none⟩) sc.length cap, .slice (some ⟨gl, 0, none⟩) ts.length cl] sc ts w) => show _ from (by have k := tones_any _ ts HG.out.2.2.2.2 (by unfold room; omega) w h.ls.1 (HG.out.2.2.2.1.below (HBW.out _ _ _ h)); rw [hSS] at k; exact k))
    have HT2 := hid (fun (w : World) (h : TS W B X gs cap sc.length gl cl ts.length #[.int .i64 z0, .int .i64 z1, .int .i64 z2, .int .i64 z3, .int .i64 z4, .slice ps sc.length cs, .slice pt ts.length ct] #[.int .i64 z0, .int .i64 z1, .int .i64 z2, .int .i64 z3, .int .i64 z4, .slice (some ⟨gs, 0, none⟩) sc.length cap, .slice (some ⟨gl, 0, none⟩) ts.length cl] sc ts w) => show _ from (by have k := rtones_any _ ts HG.out.2.2.2.2 (by unfold room; omega) w (HG.out.2.1.below (HBW.out _ _ _ h)); rw [hSS] at k; exact k))
    obtain ⟨DD, hDD⟩ : ∃ DD, crc (dgB z0 z1 z2 z3 z4 sc ts) = DD := ⟨_, rfl⟩
    have HD1 := hid (fun (w : World) (h : TS W B X gs cap sc.length gl cl ts.length #[.int .i64 z0, .int .i64 z1, .int .i64 z2, .int .i64 z3, .int .i64 z4, .slice ps sc.length cs, .slice pt ts.length ct] #[.int .i64 z0, .int .i64 z1, .int .i64 z2, .int .i64 z3, .int .i64 z4, .slice (some ⟨gs, 0, none⟩) sc.length cap, .slice (some ⟨gl, 0, none⟩) ts.length cl] sc ts w) => show _ from (by have k := digest_any z0 z1 z2 z3 z4 _ _ sc ts (by unfold room; omega) (by unfold room; omega) w h.sl.sl h.ls.1 (tab_bel HG.out.2.2.1 (HBW.out _ _ _ h)); rw [hDD] at k; exact k))
    have HD2 := hid (fun (w : World) (h : TS W B X gs cap sc.length gl cl ts.length #[.int .i64 z0, .int .i64 z1, .int .i64 z2, .int .i64 z3, .int .i64 z4, .slice ps sc.length cs, .slice pt ts.length ct] #[.int .i64 z0, .int .i64 z1, .int .i64 z2, .int .i64 z3, .int .i64 z4, .slice (some ⟨gs, 0, none⟩) sc.length cap, .slice (some ⟨gl, 0, none⟩) ts.length cl] sc ts w) => show _ from (by have k := rdigest_any z0 z1 z2 z3 z4 _ _ sc ts (by unfold room; omega) w (HG.out.1.below (HBW.out _ _ _ h)) (HG.out.2.1.below (HBW.out _ _ _ h)); rw [hDD] at k; exact k))
    clear hSS hDD
    have i1 : (ts.length : Int) + 1 ≤ cl := by omega
    have i0 : 0 ≤ (ts.length : Int) + 1 := by omega
    have i2 : (ts.length : Int) < (ts.length : Int) + 1 := by omega
    have hw1 : IntKind.i64.wrap ((ts.length : Int) + 1) = (ts.length : Int) + 1 := by rw [IntKind.wrap_i64]; omega
    have hw2 : wrap64 ((ts.length : Int) + 1) = (ts.length : Int) + 1 := by unfold wrap64; omega
    go_upto_region 6 with fail
    refine wp_region_held_drew (S := (fun wz : World => wz.cell? ⟨B, 0, none⟩ = some (.int .i64 z0) ∧ wz.cell? ⟨B, 1, none⟩ = some (.int .i64 z1) ∧ wz.cell? ⟨B, 2, none⟩ = some (.int .i64 z2) ∧ wz.cell? ⟨B, 3, none⟩ = some (.int .i64 z3) ∧ wz.cell? ⟨B, 4, none⟩ = some (.int .i64 z4) ∧ wz.cell? ⟨B, 5, none⟩ = some (.slice ps sc.length cs) ∧ wz.cell? ⟨B, 6, none⟩ = some (.slice pt ts.length ct) ∧ wz.cell? ⟨X, 0, none⟩ = some (.int .i64 z0) ∧ wz.cell? ⟨X, 1, none⟩ = some (.int .i64 z1) ∧ wz.cell? ⟨X, 2, none⟩ = some (.int .i64 z2) ∧ wz.cell? ⟨X, 3, none⟩ = some (.int .i64 z3) ∧ wz.cell? ⟨X, 4, none⟩ = some (.int .i64 z4) ∧ wz.cell? ⟨X, 5, none⟩ = some (.slice (some ⟨gs, 0, none⟩) sc.length cap) ∧ wz.cell? ⟨X, 6, none⟩ = some (.slice (some ⟨gl, 0, none⟩) ts.length cl) ∧ wz.cell? ⟨gl, ts.length * 3, none⟩ = some (.int .i64 777))) (by kernel_rfl) (HS.out wc HT.out) (fun hHeld => ?_)
    have x0 : TS W B X gs cap sc.length gl cl ts.length #[.int .i64 z0, .int .i64 z1, .int .i64 z2, .int .i64 z3, .int .i64 z4, .slice ps sc.length cs, .slice pt ts.length ct] #[.int .i64 z0, .int .i64 z1, .int .i64 z2, .int .i64 z3, .int .i64 z4, .slice (some ⟨gs, 0, none⟩) sc.length cap, .slice (some ⟨gl, 0, none⟩) ts.length cl] sc ts wc.drew := HT.out.next ⟨rfl, rfl, rfl, Nat.le_refl _, fun _ _ => rfl⟩
    clear HT
    generalize wc.drew = y0 at *
    refine wpAnyH_take (i := 0) (v := ?_) rfl (by kernel_rfl) (by kernel_rfl) (by kernel_rfl) (fun c a w h => h) (Or.inl ⟨by rfl, ?_⟩) hHeld ?_
    rotate_left
    · (intro w hSw; (try dsimp only at hSw); go_simp; try with_reducible rfl)
    simp only [Act.put, List.getElem_toArray, List.getElem_cons_zero, List.getElem_cons_succ, List.setIfInBounds_toArray, List.set_cons_zero, List.set_cons_succ]
    refine wpAnyH_take (i := 1) (v := ?_) rfl (by kernel_rfl) (by kernel_rfl) (by kernel_rfl) (fun c a w h => h) (Or.inl ⟨by rfl, ?_⟩) hHeld ?_
    rotate_left
    · (intro w hSw; (try dsimp only at hSw); go_simp; try with_reducible rfl)
    simp only [Act.put, List.getElem_toArray, List.getElem_cons_zero, List.getElem_cons_succ, List.setIfInBounds_toArray, List.set_cons_zero, List.set_cons_succ]
    refine wpAnyH_take (i := 3) (v := ?_) rfl (by kernel_rfl) (by kernel_rfl) (by kernel_rfl) (fun c a w h => h) (Or.inl ⟨by rfl, ?_⟩) hHeld ?_
    rotate_left
    · (intro w hSw; (try dsimp only at hSw); go_simp; try with_reducible rfl)
    simp only [Act.put, List.getElem_toArray, List.getElem_cons_zero, List.getElem_cons_succ, List.setIfInBounds_toArray, List.set_cons_zero, List.set_cons_succ]
    refine wpAnyH_take (i := 4) (v := ?_) rfl (by kernel_rfl) (by kernel_rfl) (by kernel_rfl) (fun c a w h => h) (Or.inl ⟨by rfl, ?_⟩) hHeld ?_
    rotate_left
    · (intro w hSw; (try dsimp only at hSw); go_simp; try with_reducible rfl)
    simp only [Act.put, List.getElem_toArray, List.getElem_cons_zero, List.getElem_cons_succ, List.setIfInBounds_toArray, List.set_cons_zero, List.set_cons_succ]
    refine wpAnyH_ready (rs := [2]) (by kernel_rfl) (by simp) ?_
    refine AllReadyH.cons rfl (fun K hK => ?_) AllReadyH.nil
    rw [if_pos (by rfl)]
    go_simp
    refine (HT1.out y0 x0).mono ?_
    rintro e y1 ⟨rfl, b1⟩
    have x1 := x0.next b1
    refine hK.out _ _ (HS.out _ x1) (fun hHeld => ?_)
    clear hK K
    try simp only [Act.put, List.getElem_toArray, List.getElem_cons_zero, List.getElem_cons_succ, List.setIfInBounds_toArray, List.set_cons_zero, List.set_cons_succ]
    refine wpAnyH_ready (rs := [5]) (by kernel_rfl) (by simp) ?_
    refine AllReadyH.cons rfl (fun K hK => ?_) AllReadyH.nil
    rw [if_pos (by rfl)]
    go_simp
    refine (HT2.out y1 x1).mono ?_
    rintro e y2 ⟨rfl, b2⟩
    have x2 := x1.next b2
    refine hK.out _ _ (HS.out _ x2) (fun hHeld => ?_)
    clear hK K
    try simp only [Act.put, List.getElem_toArray, List.getElem_cons_zero, List.getElem_cons_succ, List.setIfInBounds_toArray, List.set_cons_zero, List.set_cons_succ]
    refine wpAnyH_take (i := 6) (v := ?_) rfl (by kernel_rfl) (by kernel_rfl) (by kernel_rfl) (fun c a w h => h) (Or.inl ⟨by rfl, ?_⟩) hHeld ?_
    rotate_left
    · (intro w hSw; (try dsimp only at hSw); go_simp; try with_reducible rfl)
    simp only [Act.put, List.getElem_toArray, List.getElem_cons_zero, List.getElem_cons_succ, List.setIfInBounds_toArray, List.set_cons_zero, List.set_cons_succ]
    refine wpAnyH_take (i := 7) (v := ?_) rfl (by kernel_rfl) (by kernel_rfl) (by kernel_rfl) (fun c a w h => h) (Or.inl ⟨by rfl, ?_⟩) hHeld ?_
    rotate_left
    · (intro w hSw; (try dsimp only at hSw); go_simp; try with_reducible rfl)
    simp only [Act.put, List.getElem_toArray, List.getElem_cons_zero, List.getElem_cons_succ, List.setIfInBounds_toArray, List.set_cons_zero, List.set_cons_succ]
    refine wpAnyH_take (i := 8) (v := ?_) rfl (by kernel_rfl) (by kernel_rfl) (by kernel_rfl) (fun c a w h => h) (Or.inl ⟨by rfl, ?_⟩) hHeld ?_
    rotate_left
    · (intro w hSw; (try dsimp only at hSw); go_simp; try with_reducible rfl)
    simp only [Act.put, List.getElem_toArray, List.getElem_cons_zero, List.getElem_cons_succ, List.setIfInBounds_toArray, List.set_cons_zero, List.set_cons_succ]
    refine wpAnyH_take (i := 10) (v := ?_) rfl (by kernel_rfl) (by kernel_rfl) (by kernel_rfl) (fun c a w h => h) (Or.inl ⟨by rfl, ?_⟩) hHeld ?_
    rotate_left
    · (intro w hSw; (try dsimp only at hSw); go_simp; try with_reducible rfl)
    simp only [Act.put, List.getElem_toArray, List.getElem_cons_zero, List.getElem_cons_succ, List.setIfInBounds_toArray, List.set_cons_zero, List.set_cons_succ]
    refine wpAnyH_ready (rs := [9]) (by kernel_rfl) (by simp) ?_
    refine AllReadyH.cons rfl (fun K hK => ?_) AllReadyH.nil
    rw [if_pos (by rfl)]
    go_simp
    refine (HD1.out y2 x2).mono ?_
    rintro e y3 ⟨rfl, b3⟩
    have x3 := x2.next b3
    refine hK.out _ _ (HS.out _ x3) (fun hHeld => ?_)
    clear hK K
    try simp only [Act.put, List.getElem_toArray, List.getElem_cons_zero, List.getElem_cons_succ, List.setIfInBounds_toArray, List.set_cons_zero, List.set_cons_succ]
    refine wpAnyH_ready (rs := [11]) (by kernel_rfl) (by simp) ?_
    refine AllReadyH.cons rfl (fun K hK => ?_) AllReadyH.nil
    rw [if_pos (by rfl)]
    go_simp
    refine (plain_any z0 z1 z2 z3 z4 _ _ _ _ _ _ y3).mono ?_
    rintro e y4 ⟨rfl, b4⟩
    have x4 := x3.next b4
    refine hK.out _ _ (HS.out _ x4) (fun hHeld => ?_)
    clear hK K
    try simp only [Act.put, List.getElem_toArray, List.getElem_cons_zero, List.getElem_cons_succ, List.setIfInBounds_toArray, List.set_cons_zero, List.set_cons_succ]
    refine wpAnyH_ready (rs := [12]) (by kernel_rfl) (by simp) ?_
    refine AllReadyH.cons rfl (fun K hK => ?_) AllReadyH.nil
    rw [if_pos (by rfl)]
    go_simp
    refine (HD2.out y4 x4).mono ?_
    rintro e y5 ⟨rfl, b5⟩
    have x5 := x4.next b5
    refine hK.out _ _ (HS.out _ x5) (fun hHeld => ?_)
    clear hK K
    try simp only [Act.put, List.getElem_toArray, List.getElem_cons_zero, List.getElem_cons_succ, List.setIfInBounds_toArray, List.set_cons_zero, List.set_cons_succ]
    refine wpAnyH_take (i := 13) (v := ?_) rfl (by kernel_rfl) (by kernel_rfl) (by kernel_rfl) (fun c a w h => h) (Or.inl ⟨by rfl, ?_⟩) hHeld ?_
    rotate_left
    · (intro w hSw; (try dsimp only at hSw); go_simp; try with_reducible rfl)
    simp only [Act.put, List.getElem_toArray, List.getElem_cons_zero, List.getElem_cons_succ, List.setIfInBounds_toArray, List.set_cons_zero, List.set_cons_succ]
    refine wpAnyH_take (i := 14) (v := ?_) rfl (by kernel_rfl) (by kernel_rfl) (by kernel_rfl) (fun c a w h => h) (Or.inl ⟨by rfl, ?_⟩) hHeld ?_
    rotate_left
    · (intro w hSw; (try dsimp only at hSw); go_simp; try with_reducible rfl)
    simp only [Act.put, List.getElem_toArray, List.getElem_cons_zero, List.getElem_cons_succ, List.setIfInBounds_toArray, List.set_cons_zero, List.set_cons_succ]
    refine wpAnyH_take (i := 15) (v := ?_) rfl (by kernel_rfl) (by kernel_rfl) (by kernel_rfl) (fun c a w h => h) (Or.inl ⟨by rfl, ?_⟩) hHeld ?_
    rotate_left
    · (intro w hSw; (try dsimp only at hSw); go_simp; try with_reducible rfl)
    simp only [Act.put, List.getElem_toArray, List.getElem_cons_zero, List.getElem_cons_succ, List.setIfInBounds_toArray, List.set_cons_zero, List.set_cons_succ]
    refine wpAnyH_take (i := 16) (v := ?_) rfl (by kernel_rfl) (by kernel_rfl) (by kernel_rfl) (fun c a w h => h) (Or.inl ⟨by rfl, ?_⟩) hHeld ?_
    rotate_left
    · (intro w hSw; (try dsimp only at hSw); go_simp; try with_reducible rfl)
    simp only [Act.put, List.getElem_toArray, List.getElem_cons_zero, List.getElem_cons_succ, List.setIfInBounds_toArray, List.set_cons_zero, List.set_cons_succ]
    refine wpAnyH_take (i := 17) (v := ?_) rfl (by kernel_rfl) (by kernel_rfl) (by kernel_rfl) (fun c a w h => h) (Or.inl ⟨by rfl, ?_⟩) hHeld ?_
    rotate_left
    · (intro w hSw; (try dsimp only at hSw); go_simp; try with_reducible rfl)
    simp only [Act.put, List.getElem_toArray, List.getElem_cons_zero, List.getElem_cons_succ, List.setIfInBounds_toArray, List.set_cons_zero, List.set_cons_succ]
    refine wpAnyH_take (i := 18) (v := ?_) rfl (by kernel_rfl) (by kernel_rfl) (by kernel_rfl) (fun c a w h => h) (Or.inl ⟨by rfl, ?_⟩) hHeld ?_
    rotate_left
    · (intro w hSw; (try dsimp only at hSw); go_simp; try with_reducible rfl)
    simp only [Act.put, List.getElem_toArray, List.getElem_cons_zero, List.getElem_cons_succ, List.setIfInBounds_toArray, List.set_cons_zero, List.set_cons_succ]
    refine wpAnyH_take (i := 19) (v := ?_) rfl (by kernel_rfl) (by kernel_rfl) (by kernel_rfl) (fun c a w h => h) (Or.inl ⟨by rfl, ?_⟩) hHeld ?_
    rotate_left
    · (intro w hSw; (try dsimp only at hSw); go_simp; try with_reducible rfl)
    simp only [Act.put, List.getElem_toArray, List.getElem_cons_zero, List.getElem_cons_succ, List.setIfInBounds_toArray, List.set_cons_zero, List.set_cons_succ]
    refine wpAnyH_ready (rs := [20]) (by kernel_rfl) (by simp) ?_
    refine AllReadyH.cons rfl (fun K hK => ?_) AllReadyH.nil
    rw [if_pos (by rfl)]
    go_simp
    refine (whole_any (B + 1) _ _ sc (by unfold room; omega) y5 x5.sl (HG.out.1.below (HBW.out _ _ _ x5))).mono ?_
    rintro e y6 ⟨rfl, rfl⟩
    have x6 := x5.next (Below.refl _ _)
    refine hK.out _ _ (HS.out _ x6) (fun hHeld => ?_)
    clear hK K
    try simp only [Act.put, List.getElem_toArray, List.getElem_cons_zero, List.getElem_cons_succ, List.setIfInBounds_toArray, List.set_cons_zero, List.set_cons_succ]
    refine wpAnyH_take (i := 21) (v := ?_) rfl (by kernel_rfl) (by kernel_rfl) (by kernel_rfl) (fun c a w h => h) (Or.inl ⟨by rfl, ?_⟩) hHeld ?_
    rotate_left
    · (intro w hSw; (try dsimp only at hSw); go_simp; try with_reducible rfl)
    simp only [Act.put, List.getElem_toArray, List.getElem_cons_zero, List.getElem_cons_succ, List.setIfInBounds_toArray, List.set_cons_zero, List.set_cons_succ]
    refine wpAnyH_take (i := 22) (v := ?_) rfl (by kernel_rfl) (by kernel_rfl) (by kernel_rfl) (fun c a w h => h) (Or.inl ⟨by rfl, ?_⟩) hHeld ?_
    rotate_left
    · (intro w hSw; (try dsimp only at hSw); go_simp; try with_reducible rfl)
    simp only [Act.put, List.getElem_toArray, List.getElem_cons_zero, List.getElem_cons_succ, List.setIfInBounds_toArray, List.set_cons_zero, List.set_cons_succ]
    refine wpAnyH_take (i := 23) (v := ?_) rfl (by kernel_rfl) (by kernel_rfl) (by kernel_rfl) (fun c a w h => h) (Or.inl ⟨by rfl, ?_⟩) hHeld ?_
    rotate_left
    · (intro w hSw; (try dsimp only at hSw); go_simp; try with_reducible rfl)
    simp only [Act.put, List.getElem_toArray, List.getElem_cons_zero, List.getElem_cons_succ, List.setIfInBounds_toArray, List.set_cons_zero, List.set_cons_succ]
    refine wpAnyH_take (i := 24) (v := ?_) rfl (by kernel_rfl) (by kernel_rfl) (by kernel_rfl) (fun c a w h => h) (Or.inl ⟨by rfl, ?_⟩) hHeld ?_
    rotate_left
    · (intro w hSw; (try dsimp only at hSw); go_simp; try with_reducible rfl)
    simp only [Act.put, List.getElem_toArray, List.getElem_cons_zero, List.getElem_cons_succ, List.setIfInBounds_toArray, List.set_cons_zero, List.set_cons_succ]
    refine wpAnyH_take (i := 25) (v := ?_) rfl (by kernel_rfl) (by kernel_rfl) (by kernel_rfl) (fun c a w h => h) (Or.inl ⟨by rfl, ?_⟩) hHeld ?_
    rotate_left
    · (intro w hSw; (try dsimp only at hSw); go_simp; try with_reducible rfl)
    simp only [Act.put, List.getElem_toArray, List.getElem_cons_zero, List.getElem_cons_succ, List.setIfInBounds_toArray, List.set_cons_zero, List.set_cons_succ]
    refine wpAnyH_take (i := 26) (v := ?_) rfl (by kernel_rfl) (by kernel_rfl) (by kernel_rfl) (fun c a w h => h) (Or.inl ⟨by rfl, ?_⟩) hHeld ?_
    rotate_left
    · (intro w hSw; (try dsimp only at hSw); go_simp; try with_reducible rfl)
    simp only [Act.put, List.getElem_toArray, List.getElem_cons_zero, List.getElem_cons_succ, List.setIfInBounds_toArray, List.set_cons_zero, List.set_cons_succ]
    refine wpAnyH_take (i := 27) (v := ?_) rfl (by kernel_rfl) (by kernel_rfl) (by kernel_rfl) (fun c a w h => h) (Or.inl ⟨by rfl, ?_⟩) hHeld ?_
    rotate_left
    · (intro w hSw; (try dsimp only at hSw); go_simp; try with_reducible rfl)
    simp only [Act.put, List.getElem_toArray, List.getElem_cons_zero, List.getElem_cons_succ, List.setIfInBounds_toArray, List.set_cons_zero, List.set_cons_succ]
    refine wpAnyH_take (i := 28) (v := ?_) rfl (by kernel_rfl) (by kernel_rfl) (by kernel_rfl) (fun c a w h => h) (Or.inl ⟨by rfl, ?_⟩) hHeld ?_
    rotate_left
    · (intro w hSw; (try dsimp only at hSw); go_simp; try with_reducible rfl)
    simp only [Act.put, List.getElem_toArray, List.getElem_cons_zero, List.getElem_cons_succ, List.setIfInBounds_toArray, List.set_cons_zero, List.set_cons_succ]
    refine wpAnyH_take (i := 29) (v := ?_) rfl (by kernel_rfl) (by kernel_rfl) (by kernel_rfl) (fun c a w h => h) (Or.inl ⟨by rfl, ?_⟩) hHeld ?_
    rotate_left
    · (intro w hSw; (try dsimp only at hSw); go_simp; try with_reducible rfl)
    simp only [Act.put, List.getElem_toArray, List.getElem_cons_zero, List.getElem_cons_succ, List.setIfInBounds_toArray, List.set_cons_zero, List.set_cons_succ]
    refine wpAnyH_take (i := 30) (v := ?_) rfl (by kernel_rfl) (by kernel_rfl) (by kernel_rfl) (fun c a w h => h) (Or.inl ⟨by rfl, ?_⟩) hHeld ?_
    rotate_left
    · (intro w hSw; (try dsimp only at hSw); go_simp; try with_reducible rfl)
    simp only [Act.put, List.getElem_toArray, List.getElem_cons_zero, List.getElem_cons_succ, List.setIfInBounds_toArray, List.set_cons_zero, List.set_cons_succ]
    refine wpAnyH_take (i := 31) (v := ?_) rfl (by kernel_rfl) (by kernel_rfl) (by kernel_rfl) (fun c a w h => h) (Or.inl ⟨by rfl, ?_⟩) hHeld ?_
    rotate_left
    · (intro w hSw; (try dsimp only at hSw); go_simp; try with_reducible rfl)
    simp only [Act.put, List.getElem_toArray, List.getElem_cons_zero, List.getElem_cons_succ, List.setIfInBounds_toArray, List.set_cons_zero, List.set_cons_succ]
    refine wpAnyH_take (i := 32) (v := ?_) rfl (by kernel_rfl) (by kernel_rfl) (by kernel_rfl) (fun c a w h => h) (Or.inl ⟨by rfl, ?_⟩) hHeld ?_
    rotate_left
    · (intro w hSw; (try dsimp only at hSw); go_simp; try with_reducible rfl)
    simp only [Act.put, List.getElem_toArray, List.getElem_cons_zero, List.getElem_cons_succ, List.setIfInBounds_toArray, List.set_cons_zero, List.set_cons_succ]
    refine wpAnyH_take (i := 33) (v := ?_) rfl (by kernel_rfl) (by kernel_rfl) (by kernel_rfl) (fun c a w h => h) (Or.inl ⟨by rfl, ?_⟩) hHeld ?_
    rotate_left
    · (intro w hSw; (try dsimp only at hSw); go_simp; try with_reducible rfl)
    simp only [Act.put, List.getElem_toArray, List.getElem_cons_zero, List.getElem_cons_succ, List.setIfInBounds_toArray, List.set_cons_zero, List.set_cons_succ]
    refine wpAnyH_take (i := 34) (v := ?_) rfl (by kernel_rfl) (by kernel_rfl) (by kernel_rfl) (fun c a w h => h) (Or.inl ⟨by rfl, ?_⟩) hHeld ?_
    rotate_left
    · (intro w hSw; (try dsimp only at hSw); go_simp; try with_reducible rfl)
    simp only [Act.put, List.getElem_toArray, List.getElem_cons_zero, List.getElem_cons_succ, List.setIfInBounds_toArray, List.set_cons_zero, List.set_cons_succ]
    refine wpAnyH_take (i := 35) (v := ?_) rfl (by kernel_rfl) (by kernel_rfl) (by kernel_rfl) (fun c a w h => h) (Or.inl ⟨by rfl, ?_⟩) hHeld ?_
    rotate_left
    · (intro w hSw; (try dsimp only at hSw); go_simp; try with_reducible rfl)
    simp only [Act.put, List.getElem_toArray, List.getElem_cons_zero, List.getElem_cons_succ, List.setIfInBounds_toArray, List.set_cons_zero, List.set_cons_succ]
    refine wpAnyH_take (i := 36) (v := ?_) rfl (by kernel_rfl) (by kernel_rfl) (by kernel_rfl) (fun c a w h => h) (Or.inl ⟨by rfl, ?_⟩) hHeld ?_
    rotate_left
    · (intro w hSw; (try dsimp only at hSw); go_simp; try with_reducible rfl)
    simp only [Act.put, List.getElem_toArray, List.getElem_cons_zero, List.getElem_cons_succ, List.setIfInBounds_toArray, List.set_cons_zero, List.set_cons_succ]
    refine wpAnyH_take (i := 37) (v := ?_) rfl (by kernel_rfl) (by kernel_rfl) (by kernel_rfl) (fun c a w h => h) (Or.inl ⟨by rfl, ?_⟩) hHeld ?_
    rotate_left
    · (intro w hSw; (try dsimp only at hSw); go_simp; try with_reducible rfl)
    simp only [Act.put, List.getElem_toArray, List.getElem_cons_zero, List.getElem_cons_succ, List.setIfInBounds_toArray, List.set_cons_zero, List.set_cons_succ]
    refine wpAnyH_take (i := 38) (v := ?_) rfl (by kernel_rfl) (by kernel_rfl) (by kernel_rfl) (fun c a w h => h) (Or.inl ⟨by rfl, ?_⟩) hHeld ?_
    rotate_left
    · (intro w hSw; (try dsimp only at hSw); go_simp; try with_reducible rfl)
    simp only [Act.put, List.getElem_toArray, List.getElem_cons_zero, List.getElem_cons_succ, List.setIfInBounds_toArray, List.set_cons_zero, List.set_cons_succ]
    refine wpAnyH_done (by kernel_rfl) ?_ _
    have HT := hid x6
    clear hHeld x0 x1 x2 x3 x4 x5 x6 b1 b2 b3 b4 b5 HT1 HT2 HD1 HD2 i0 i1 i2 hw1 hw2 HS
    have HCB := hid (fun (w : World) (s : List UInt8) (l : List Tn) (h : TS W B X gs cap sc.length gl cl ts.length #[.int .i64 z0, .int .i64 z1, .int .i64 z2, .int .i64 z3, .int .i64 z4, .slice ps sc.length cs, .slice pt ts.length ct] #[.int .i64 z0, .int .i64 z1, .int .i64 z2, .int .i64 z3, .int .i64 z4, .slice (some ⟨gs, 0, none⟩) sc.length cap, .slice (some ⟨gl, 0, none⟩) ts.length cl] s l w) => show (w.cell? ⟨B, 0, none⟩ = some (.int .i64 z0) ∧ w.cell? ⟨B, 1, none⟩ = some (.int .i64 z1) ∧ w.cell? ⟨B, 2, none⟩ = some (.int .i64 z2) ∧ w.cell? ⟨B, 3, none⟩ = some (.int .i64 z3) ∧ w.cell? ⟨B, 4, none⟩ = some (.int .i64 z4) ∧ w.cell? ⟨B, 5, none⟩ = some (.slice ps sc.length cs) ∧ w.cell? ⟨B, 6, none⟩ = some (.slice pt ts.length ct) ∧ w.cell? ⟨X, 0, none⟩ = some (.int .i64 z0) ∧ w.cell? ⟨X, 1, none⟩ = some (.int .i64 z1) ∧ w.cell? ⟨X, 2, none⟩ = some (.int .i64 z2) ∧ w.cell? ⟨X, 3, none⟩ = some (.int .i64 z3) ∧ w.cell? ⟨X, 4, none⟩ = some (.int .i64 z4) ∧ w.cell? ⟨X, 5, none⟩ = some (.slice (some ⟨gs, 0, none⟩) sc.length cap) ∧ w.cell? ⟨X, 6, none⟩ = some (.slice (some ⟨gl, 0, none⟩) ts.length cl)) from ⟨cell_of_any _ _ 0 _ _ _ h.t0.bo, cell_of_any _ _ 1 _ _ _ h.t0.bo, cell_of_any _ _ 2 _ _ _ h.t0.bo, cell_of_any _ _ 3 _ _ _ h.t0.bo, cell_of_any _ _ 4 _ _ _ h.t0.bo, cell_of_any _ _ 5 _ _ _ h.t0.bo, cell_of_any _ _ 6 _ _ _ h.t0.bo, cell_of_any _ _ 0 _ _ _ h.t0.bx, cell_of_any _ _ 1 _ _ _ h.t0.bx, cell_of_any _ _ 2 _ _ _ h.t0.bx, cell_of_any _ _ 3 _ _ _ h.t0.bx, cell_of_any _ _ 4 _ _ _ h.t0.bx, cell_of_any _ _ 5 _ _ _ h.t0.bx, cell_of_any _ _ 6 _ _ _ h.t0.bx⟩)
    go_wp2
    go_loopw [4] (fun i wr => ∃ k : Nat, k ≤ ts.length ∧ i = .int .i64 (k : Int) ∧ TS W B X gs cap sc.length gl cl ts.length #[.int .i64 z0, .int .i64 z1, .int .i64 z2, .int .i64 z3, .int .i64 z4, .slice ps sc.length cs, .slice pt ts.length ct] #[.int .i64 z0, .int .i64 z1, .int .i64 z2, .int .i64 z3, .int .i64 z4, .slice (some ⟨gs, 0, none⟩) sc.length cap, .slice (some ⟨gl, 0, none⟩) ts.length cl] sc (uw bumpT k ts) wr) (fun i _ => ts.length - (intOf i).toNat)
    case atStart => exact ⟨0, by omega, rfl, by rw [uw_zero]; exact HT.out⟩
    case round =>
      clear HT
      obtain ⟨k, hk, rfl, hT⟩ := hrel
      obtain ⟨_, _, _, _, _, _, cB6, _, _, _, _, _, cX5, cX6⟩ := HCB.out _ _ _ hT
      by_cases hlt : k < ts.length
      · have i1 : (k : Int) < ts.length := by omega
        have i3 : (k : Int) < (ts.length : Int) := by omega
        obtain ⟨b, ob, cb, eb, a0, a1, a2⟩ := lt_at HG.out.2.1 k hlt
        simp only [Value.slice.injEq] at eb
        obtain ⟨rfl, _, rfl⟩ := eb
        have hgt := uw_get bumpT k ts hlt
        have hst := uw_set bumpT k ts hlt
        have hln := uw_len bumpT k ts (by omega)
        generalize ts[k] = t at *
        obtain ⟨tc, tp, tv⟩ := t
        simp only [bumpT] at a0 a1 a2 hst
        have hbw := HBW.out _ _ _ hT
        have c0 : wr.drew.cell? _ = _ := (hbw.cell (World.block_lt_of_cell? W _ a0)).trans a0
        have c1 : wr.drew.cell? _ = _ := (hbw.cell (World.block_lt_of_cell? W _ a1)).trans a1
        have c2 : wr.drew.cell? _ = _ := (hbw.cell (World.block_lt_of_cell? W _ a2)).trans a2
        obtain ⟨d0, d1, d2⟩ := hT.at k ⟨tc, tp, tv⟩ (by rw [List.getElem?_append_left (by omega)]; exact hgt)
        simp only at d0 d1 d2
        have hne := fun W => neq_ton W tc (tp.toNat : Int) (tv.toNat : Int)
        have HST := hid (And.intro hst hgt)
        have HTT := hid hT
        clear hst hgt hln hbw a0 a1 a2 hT
        go_wp2_with fail
        refine wp_region_held_drew (S := (fun wz : World => wz.cell? ⟨B, 6, none⟩ = some (.slice (some ⟨b, ob, none⟩) ts.length ct) ∧ wz.cell? ⟨X, 6, none⟩ = some (.slice (some ⟨gl, 0, none⟩) ts.length cl) ∧ wz.cell? ⟨b, ob + k * 3, none⟩ = some (.int .i64 tc) ∧ wz.cell? ⟨b, ob + k * 3 + 1, none⟩ = some (.int .u16 (tp.toNat : Int)) ∧ wz.cell? ⟨b, ob + k * 3 + 2, none⟩ = some (.int .u8 (tv.toNat : Int)) ∧ wz.cell? ⟨gl, k * 3, none⟩ = some (.int .i64 tc) ∧ wz.cell? ⟨gl, k * 3 + 1, none⟩ = some (.int .u16 (tp.toNat : Int)) ∧ wz.cell? ⟨gl, k * 3 + 2, none⟩ = some (.int .u8 (tv.toNat : Int)))) (by kernel_rfl) ⟨cB6, cX6, c0, c1, c2, d0, d1, d2⟩ (fun hHeld => ?_)
        have hT := HTT.out.next (w' := wr.drew) ⟨rfl, rfl, rfl, Nat.le_refl _, fun _ _ => rfl⟩
        have HT := hid hT
        have fz := own_fzT hT.tn (k * 3 + 1)
        clear HTT cB6 cX6 cX5 c0 c1 c2 d0 d1 d2 hT
        generalize wr.drew = y0 at *
        refine wpAnyH_take (i := 0) (v := ?_) rfl (by kernel_rfl) (by kernel_rfl) (by kernel_rfl) (fun c a w h => h) (Or.inl ⟨by rfl, ?_⟩) hHeld ?_
        rotate_left
        · (intro w hSw; (try dsimp only at hSw); go_simp; try with_reducible rfl)
        simp only [Act.put, List.getElem_toArray, List.getElem_cons_zero, List.getElem_cons_succ, List.setIfInBounds_toArray, List.set_cons_zero, List.set_cons_succ]
        refine wpAnyH_take (i := 1) (v := ?_) rfl (by kernel_rfl) (by kernel_rfl) (by kernel_rfl) (fun c a w h => h) (Or.inl ⟨by rfl, ?_⟩) hHeld ?_
        rotate_left
        · (intro w hSw; (try dsimp only at hSw); go_simp; try with_reducible rfl)
        simp only [Act.put, List.getElem_toArray, List.getElem_cons_zero, List.getElem_cons_succ, List.setIfInBounds_toArray, List.set_cons_zero, List.set_cons_succ]
        refine wpAnyH_take (i := 2) (v := ?_) rfl (by kernel_rfl) (by kernel_rfl) (by kernel_rfl) (fun c a w h => h) (Or.inl ⟨by rfl, ?_⟩) hHeld ?_
        rotate_left
        · (intro w hSw; (try dsimp only at hSw); go_simp; try with_reducible rfl)
        simp only [Act.put, List.getElem_toArray, List.getElem_cons_zero, List.getElem_cons_succ, List.setIfInBounds_toArray, List.set_cons_zero, List.set_cons_succ]
        refine wpAnyH_take (i := 3) (v := ?_) rfl (by kernel_rfl) (by kernel_rfl) (by kernel_rfl) (fun c a w h => h) (Or.inl ⟨by rfl, ?_⟩) hHeld ?_
        rotate_left
        · (intro w hSw; (try dsimp only at hSw); go_simp; try with_reducible rfl)
        simp only [Act.put, List.getElem_toArray, List.getElem_cons_zero, List.getElem_cons_succ, List.setIfInBounds_toArray, List.set_cons_zero, List.set_cons_succ]
        refine wpAnyH_take (i := 4) (v := ?_) rfl (by kernel_rfl) (by kernel_rfl) (by kernel_rfl) (fun c a w h => h) (Or.inl ⟨by rfl, ?_⟩) hHeld ?_
        rotate_left
        · (intro w hSw; (try dsimp only at hSw); go_simp; try with_reducible rfl)
        simp only [Act.put, List.getElem_toArray, List.getElem_cons_zero, List.getElem_cons_succ, List.setIfInBounds_toArray, List.set_cons_zero, List.set_cons_succ]
        refine wpAnyH_take (i := 5) (v := ?_) rfl (by kernel_rfl) (by kernel_rfl) (by kernel_rfl) (fun c a w h => h) (Or.inl ⟨by rfl, ?_⟩) hHeld ?_
        rotate_left
        · (intro w hSw; (try dsimp only at hSw); go_simp; try with_reducible rfl)
        simp only [Act.put, List.getElem_toArray, List.getElem_cons_zero, List.getElem_cons_succ, List.setIfInBounds_toArray, List.set_cons_zero, List.set_cons_succ]
        refine wpAnyH_take (i := 6) (v := ?_) rfl (by kernel_rfl) (by kernel_rfl) (by kernel_rfl) (fun c a w h => h) (Or.inl ⟨by rfl, ?_⟩) hHeld ?_
        rotate_left
        · (intro w hSw; (try dsimp only at hSw); go_simp; try with_reducible rfl)
        simp only [Act.put, List.getElem_toArray, List.getElem_cons_zero, List.getElem_cons_succ, List.setIfInBounds_toArray, List.set_cons_zero, List.set_cons_succ]
        refine wpAnyH_take (i := 7) (v := ?_) rfl (by kernel_rfl) (by kernel_rfl) (by kernel_rfl) (fun c a w h => h) (Or.inl ⟨by rfl, ?_⟩) hHeld ?_
        rotate_left
        · (intro w hSw; (try dsimp only at hSw); go_simp; try with_reducible rfl)
        simp only [Act.put, List.getElem_toArray, List.getElem_cons_zero, List.getElem_cons_succ, List.setIfInBounds_toArray, List.set_cons_zero, List.set_cons_succ]
        refine wpAnyH_take (i := 8) (v := ?_) rfl (by kernel_rfl) (by kernel_rfl) (by kernel_rfl) (fun c a w h => h) (Or.inl ⟨by rfl, ?_⟩) hHeld ?_
        rotate_left
        · (intro w hSw; (try dsimp only at hSw); go_simp; try with_reducible rfl)
        simp only [Act.put, List.getElem_toArray, List.getElem_cons_zero, List.getElem_cons_succ, List.setIfInBounds_toArray, List.set_cons_zero, List.set_cons_succ]
        refine wpAnyH_take (i := 9) (v := ?_) rfl (by kernel_rfl) (by kernel_rfl) (by kernel_rfl) (fun c a w h => h) (Or.inl ⟨by rfl, ?_⟩) hHeld ?_
        rotate_left
        · (intro w hSw; (try dsimp only at hSw); go_simp; try with_reducible rfl)
        simp only [Act.put, List.getElem_toArray, List.getElem_cons_zero, List.getElem_cons_succ, List.setIfInBounds_toArray, List.set_cons_zero, List.set_cons_succ]
        refine wpAnyH_take (i := 10) (v := ?_) rfl (by kernel_rfl) (by kernel_rfl) (by kernel_rfl) (fun c a w h => h) (Or.inl ⟨by rfl, ?_⟩) hHeld ?_
        rotate_left
        · (intro w hSw; (try dsimp only at hSw); go_simp; try with_reducible rfl)
        simp only [Act.put, List.getElem_toArray, List.getElem_cons_zero, List.getElem_cons_succ, List.setIfInBounds_toArray, List.set_cons_zero, List.set_cons_succ]
        refine wpAnyH_done (by kernel_rfl) ?_ _
        obtain ⟨cB6, cX6, c0, c1, c2, d0, d1, d2⟩ := hHeld
        have hbp := bumpT_p tp
        clear c0 c1 c2 d0 d2 hne cB6
        obtain ⟨tq, htq⟩ : ∃ tq, tp + 1 = tq := ⟨_, rfl⟩
        rw [htq] at hbp HST
        clear htq
        go_wp2
        go_roundw
        case rel => exact ⟨k + 1, by omega, by go_num, by rw [← HST.out.1]; exact HT.out.setT k ⟨tc, tp, tv⟩ tq HST.out.2⟩
        case measure => simp [intOf]; omega
      · obtain rfl : k = ts.length := by omega
        obtain ⟨M, hM⟩ : ∃ M, uw bumpT ts.length ts = M := ⟨_, rfl⟩
        have hMI : ∀ t ∈ M, inI t.c := by rw [← hM]; exact uw_in _ _ HG.out.2.2.2.2
        have hMl : M.length = ts.length := hT.ln ▸ (by rw [hM])
        rw [hM] at hT
        have HT := hid hT
        have HMI := hid hMI
        clear hT hM hlt hk hMI cX5 cX6
        go_wp2
        go_loopw [5] (fun i wr => ∃ k : Nat, k ≤ sc.length ∧ i = .int .i64 (k : Int) ∧ TS W B X gs cap sc.length gl cl ts.length #[.int .i64 z0, .int .i64 z1, .int .i64 z2, .int .i64 z3, .int .i64 z4, .slice ps sc.length cs, .slice pt ts.length ct] #[.int .i64 z0, .int .i64 z1, .int .i64 z2, .int .i64 z3, .int .i64 z4, .slice (some ⟨gs, 0, none⟩) sc.length cap, .slice (some ⟨gl, 0, none⟩) ts.length cl] (uw (· + 1) k sc) M wr) (fun i _ => sc.length - (intOf i).toNat)
        case atStart => exact ⟨0, by omega, rfl, by rw [uw_zero]; exact HT.out⟩
        case round =>
          clear HT
          obtain ⟨k, hk, rfl, hT⟩ := hrel
          obtain ⟨_, _, _, _, _, _, cB6, _, _, _, _, _, cX5, cX6⟩ := HCB.out _ _ _ hT
          by_cases hlt : k < sc.length
          · have i1 : (k : Int) < sc.length := by omega
            have hgt := uw_get (· + 1) k sc hlt
            have hst := uw_set (· + 1) k sc hlt
            have hln := uw_len (· + 1) k sc (by omega)
            generalize sc[k] = b at *
            have d0 := hT.byte k b hgt
            have hbp := bumpB b
            have fz := own_fzT hT.t0.scr k
            try simp only at hst
            obtain ⟨bq, hbq⟩ : ∃ bq, b + 1 = bq := ⟨_, rfl⟩
            rw [hbq] at hbp hst
            have hkl : k < (uw (· + 1) k sc).length := by omega
            have HST := hid (And.intro hst hkl)
            have HTT := hid hT
            clear hst hgt hln hbq hT cB6 cX6 hkl
            go_wp2
            go_roundw
            case rel => exact ⟨k + 1, by omega, by go_num, by rw [← HST.out.1]; exact HTT.out.setS k bq HST.out.2⟩
            case measure => simp [intOf]; omega
          · obtain rfl : k = sc.length := by omega
            obtain ⟨Y, hY⟩ : ∃ Y, uw (· + 1) sc.length sc = Y := ⟨_, rfl⟩
            have hYl : Y.length = sc.length := hT.t0.len ▸ (by rw [hY])
            rw [hY] at hT
            have HT := hid hT
            clear hT hY hlt hk cB6 cX6
            have HS := hid (fun (w : World) (h : TS W B X gs cap sc.length gl cl ts.length #[.int .i64 z0, .int .i64 z1, .int .i64 z2, .int .i64 z3, .int .i64 z4, .slice ps sc.length cs, .slice pt ts.length ct] #[.int .i64 z0, .int .i64 z1, .int .i64 z2, .int .i64 z3, .int .i64 z4, .slice (some ⟨gs, 0, none⟩) sc.length cap, .slice (some ⟨gl, 0, none⟩) ts.length cl] Y M w) => show (w.cell? ⟨X, 0, none⟩ = some (.int .i64 z0) ∧ w.cell? ⟨X, 1, none⟩ = some (.int .i64 z1) ∧ w.cell? ⟨X, 2, none⟩ = some (.int .i64 z2) ∧ w.cell? ⟨X, 3, none⟩ = some (.int .i64 z3) ∧ w.cell? ⟨X, 4, none⟩ = some (.int .i64 z4) ∧ w.cell? ⟨X, 5, none⟩ = some (.slice (some ⟨gs, 0, none⟩) sc.length cap) ∧ w.cell? ⟨X, 6, none⟩ = some (.slice (some ⟨gl, 0, none⟩) ts.length cl)) from ⟨cell_of_any _ _ 0 _ _ _ h.t0.bx, cell_of_any _ _ 1 _ _ _ h.t0.bx, cell_of_any _ _ 2 _ _ _ h.t0.bx, cell_of_any _ _ 3 _ _ _ h.t0.bx, cell_of_any _ _ 4 _ _ _ h.t0.bx, cell_of_any _ _ 5 _ _ _ h.t0.bx, cell_of_any _ _ 6 _ _ _ h.t0.bx⟩)
            obtain ⟨SS2, hSS⟩ : ∃ SS : ByteArray, ⟨(M.flatMap tl).toArray⟩ = SS := ⟨_, rfl⟩
            have HT1 := hid (fun (w : World) (h : TS W B X gs cap sc.length gl cl ts.length #[.int .i64 z0, .int .i64 z1, .int .i64 z2, .int .i64 z3, .int .i64 z4, .slice ps sc.length cs, .slice pt ts.length ct] #[.int .i64 z0, .int .i64 z1, .int .i64 z2, .int .i64 z3, .int .i64 z4, .slice (some ⟨gs, 0, none⟩) sc.length cap, .slice (some ⟨gl, 0, none⟩) ts.length cl] Y M w) => show _ from (by have k := tones_any _ M HMI.out (by unfold room; omega) w h.ls.1 (HG.out.2.2.2.1.below (HBW.out _ _ _ h)); rw [hSS] at k; exact k))
            have HT2 := hid (fun (w : World) (h : TS W B X gs cap sc.length gl cl ts.length #[.int .i64 z0, .int .i64 z1, .int .i64 z2, .int .i64 z3, .int .i64 z4, .slice ps sc.length cs, .slice pt ts.length ct] #[.int .i64 z0, .int .i64 z1, .int .i64 z2, .int .i64 z3, .int .i64 z4, .slice (some ⟨gs, 0, none⟩) sc.length cap, .slice (some ⟨gl, 0, none⟩) ts.length cl] Y M w) => show _ from (by have k := rtones_any _ M HMI.out (by unfold room; omega) w h.ls.1; rw [hSS] at k; exact k))
            obtain ⟨DD2, hDD⟩ : ∃ DD, crc (dgB z0 z1 z2 z3 z4 Y M) = DD := ⟨_, rfl⟩
            have HD1 := hid (fun (w : World) (h : TS W B X gs cap sc.length gl cl ts.length #[.int .i64 z0, .int .i64 z1, .int .i64 z2, .int .i64 z3, .int .i64 z4, .slice ps sc.length cs, .slice pt ts.length ct] #[.int .i64 z0, .int .i64 z1, .int .i64 z2, .int .i64 z3, .int .i64 z4, .slice (some ⟨gs, 0, none⟩) sc.length cap, .slice (some ⟨gl, 0, none⟩) ts.length cl] Y M w) => show _ from (by have k := digest_any z0 z1 z2 z3 z4 _ _ Y M (by unfold room; omega) (by unfold room; omega) w h.sl.sl h.ls.1 (tab_bel HG.out.2.2.1 (HBW.out _ _ _ h)); rw [hDD] at k; exact k))
            have HD2 := hid (fun (w : World) (h : TS W B X gs cap sc.length gl cl ts.length #[.int .i64 z0, .int .i64 z1, .int .i64 z2, .int .i64 z3, .int .i64 z4, .slice ps sc.length cs, .slice pt ts.length ct] #[.int .i64 z0, .int .i64 z1, .int .i64 z2, .int .i64 z3, .int .i64 z4, .slice (some ⟨gs, 0, none⟩) sc.length cap, .slice (some ⟨gl, 0, none⟩) ts.length cl] Y M w) => show _ from (by have k := rdigest_any z0 z1 z2 z3 z4 _ _ Y M (by unfold room; omega) w h.sl.sl h.ls.1; rw [hDD] at k; exact k))
            clear hSS hDD
            go_upto_region 18 with fail
            clear cX5
            refine wp_region_held_drew (S := (fun wz : World => wz.cell? ⟨X, 0, none⟩ = some (.int .i64 z0) ∧ wz.cell? ⟨X, 1, none⟩ = some (.int .i64 z1) ∧ wz.cell? ⟨X, 2, none⟩ = some (.int .i64 z2) ∧ wz.cell? ⟨X, 3, none⟩ = some (.int .i64 z3) ∧ wz.cell? ⟨X, 4, none⟩ = some (.int .i64 z4) ∧ wz.cell? ⟨X, 5, none⟩ = some (.slice (some ⟨gs, 0, none⟩) sc.length cap) ∧ wz.cell? ⟨X, 6, none⟩ = some (.slice (some ⟨gl, 0, none⟩) ts.length cl))) (by kernel_rfl) (HS.out wr HT.out) (fun hHeld => ?_)
            have x0 : TS W B X gs cap sc.length gl cl ts.length #[.int .i64 z0, .int .i64 z1, .int .i64 z2, .int .i64 z3, .int .i64 z4, .slice ps sc.length cs, .slice pt ts.length ct] #[.int .i64 z0, .int .i64 z1, .int .i64 z2, .int .i64 z3, .int .i64 z4, .slice (some ⟨gs, 0, none⟩) sc.length cap, .slice (some ⟨gl, 0, none⟩) ts.length cl] Y M wr.drew := HT.out.next ⟨rfl, rfl, rfl, Nat.le_refl _, fun _ _ => rfl⟩
            clear HT
            generalize wr.drew = y0 at *
            refine wpAnyH_take (i := 0) (v := ?_) rfl (by kernel_rfl) (by kernel_rfl) (by kernel_rfl) (fun c a w h => h) (Or.inl ⟨by rfl, ?_⟩) hHeld ?_
            rotate_left
            · (intro w hSw; (try dsimp only at hSw); go_simp; try with_reducible rfl)
            simp only [Act.put, List.getElem_toArray, List.getElem_cons_zero, List.getElem_cons_succ, List.setIfInBounds_toArray, List.set_cons_zero, List.set_cons_succ]
            refine wpAnyH_take (i := 1) (v := ?_) rfl (by kernel_rfl) (by kernel_rfl) (by kernel_rfl) (fun c a w h => h) (Or.inl ⟨by rfl, ?_⟩) hHeld ?_
            rotate_left
            · (intro w hSw; (try dsimp only at hSw); go_simp; try with_reducible rfl)
            simp only [Act.put, List.getElem_toArray, List.getElem_cons_zero, List.getElem_cons_succ, List.setIfInBounds_toArray, List.set_cons_zero, List.set_cons_succ]
            refine wpAnyH_take (i := 3) (v := ?_) rfl (by kernel_rfl) (by kernel_rfl) (by kernel_rfl) (fun c a w h => h) (Or.inl ⟨by rfl, ?_⟩) hHeld ?_
            rotate_left
            · (intro w hSw; (try dsimp only at hSw); go_simp; try with_reducible rfl)
            simp only [Act.put, List.getElem_toArray, List.getElem_cons_zero, List.getElem_cons_succ, List.setIfInBounds_toArray, List.set_cons_zero, List.set_cons_succ]
            refine wpAnyH_take (i := 4) (v := ?_) rfl (by kernel_rfl) (by kernel_rfl) (by kernel_rfl) (fun c a w h => h) (Or.inl ⟨by rfl, ?_⟩) hHeld ?_
            rotate_left
            · (intro w hSw; (try dsimp only at hSw); go_simp; try with_reducible rfl)
            simp only [Act.put, List.getElem_toArray, List.getElem_cons_zero, List.getElem_cons_succ, List.setIfInBounds_toArray, List.set_cons_zero, List.set_cons_succ]
            refine wpAnyH_ready (rs := [2]) (by kernel_rfl) (by simp) ?_
            refine AllReadyH.cons rfl (fun K hK => ?_) AllReadyH.nil
            rw [if_pos (by rfl)]
            go_simp
            refine (HT1.out y0 x0).mono ?_
            rintro e y1 ⟨rfl, b1⟩
            have x1 := x0.next b1
            refine hK.out _ _ (HS.out _ x1) (fun hHeld => ?_)
            clear hK K
            try simp only [Act.put, List.getElem_toArray, List.getElem_cons_zero, List.getElem_cons_succ, List.setIfInBounds_toArray, List.set_cons_zero, List.set_cons_succ]
            refine wpAnyH_ready (rs := [5]) (by kernel_rfl) (by simp) ?_
            refine AllReadyH.cons rfl (fun K hK => ?_) AllReadyH.nil
            rw [if_pos (by rfl)]
            go_simp
            refine (HT2.out y1 x1).mono ?_
            rintro e y2 ⟨rfl, b2⟩
            have x2 := x1.next b2
            refine hK.out _ _ (HS.out _ x2) (fun hHeld => ?_)
            clear hK K
            try simp only [Act.put, List.getElem_toArray, List.getElem_cons_zero, List.getElem_cons_succ, List.setIfInBounds_toArray, List.set_cons_zero, List.set_cons_succ]
            refine wpAnyH_take (i := 6) (v := ?_) rfl (by kernel_rfl) (by kernel_rfl) (by kernel_rfl) (fun c a w h => h) (Or.inl ⟨by rfl, ?_⟩) hHeld ?_
            rotate_left
            · (intro w hSw; (try dsimp only at hSw); go_simp; try with_reducible rfl)
            simp only [Act.put, List.getElem_toArray, List.getElem_cons_zero, List.getElem_cons_succ, List.setIfInBounds_toArray, List.set_cons_zero, List.set_cons_succ]
            refine wpAnyH_take (i := 7) (v := ?_) rfl (by kernel_rfl) (by kernel_rfl) (by kernel_rfl) (fun c a w h => h) (Or.inl ⟨by rfl, ?_⟩) hHeld ?_
            rotate_left
            · (intro w hSw; (try dsimp only at hSw); go_simp; try with_reducible rfl)
            simp only [Act.put, List.getElem_toArray, List.getElem_cons_zero, List.getElem_cons_succ, List.setIfInBounds_toArray, List.set_cons_zero, List.set_cons_succ]
            refine wpAnyH_take (i := 8) (v := ?_) rfl (by kernel_rfl) (by kernel_rfl) (by kernel_rfl) (fun c a w h => h) (Or.inl ⟨by rfl, ?_⟩) hHeld ?_
            rotate_left
            · (intro w hSw; (try dsimp only at hSw); go_simp; try with_reducible rfl)
            simp only [Act.put, List.getElem_toArray, List.getElem_cons_zero, List.getElem_cons_succ, List.setIfInBounds_toArray, List.set_cons_zero, List.set_cons_succ]
            refine wpAnyH_take (i := 10) (v := ?_) rfl (by kernel_rfl) (by kernel_rfl) (by kernel_rfl) (fun c a w h => h) (Or.inl ⟨by rfl, ?_⟩) hHeld ?_
            rotate_left
            · (intro w hSw; (try dsimp only at hSw); go_simp; try with_reducible rfl)
            simp only [Act.put, List.getElem_toArray, List.getElem_cons_zero, List.getElem_cons_succ, List.setIfInBounds_toArray, List.set_cons_zero, List.set_cons_succ]
            refine wpAnyH_ready (rs := [9]) (by kernel_rfl) (by simp) ?_
            refine AllReadyH.cons rfl (fun K hK => ?_) AllReadyH.nil
            rw [if_pos (by rfl)]
            go_simp
            refine (HD1.out y2 x2).mono ?_
            rintro e y3 ⟨rfl, b3⟩
            have x3 := x2.next b3
            refine hK.out _ _ (HS.out _ x3) (fun hHeld => ?_)
            clear hK K
            try simp only [Act.put, List.getElem_toArray, List.getElem_cons_zero, List.getElem_cons_succ, List.setIfInBounds_toArray, List.set_cons_zero, List.set_cons_succ]
            refine wpAnyH_ready (rs := [11]) (by kernel_rfl) (by simp) ?_
            refine AllReadyH.cons rfl (fun K hK => ?_) AllReadyH.nil
            rw [if_pos (by rfl)]
            go_simp
            refine (plain_any z0 z1 z2 z3 z4 _ _ _ _ _ _ y3).mono ?_
            rintro e y4 ⟨rfl, b4⟩
            have x4 := x3.next b4
            refine hK.out _ _ (HS.out _ x4) (fun hHeld => ?_)
            clear hK K
            try simp only [Act.put, List.getElem_toArray, List.getElem_cons_zero, List.getElem_cons_succ, List.setIfInBounds_toArray, List.set_cons_zero, List.set_cons_succ]
            refine wpAnyH_ready (rs := [12]) (by kernel_rfl) (by simp) ?_
            refine AllReadyH.cons rfl (fun K hK => ?_) AllReadyH.nil
            rw [if_pos (by rfl)]
            go_simp
            refine (HD2.out y4 x4).mono ?_
            rintro e y5 ⟨rfl, b5⟩
            have x5 := x4.next b5
            refine hK.out _ _ (HS.out _ x5) (fun hHeld => ?_)
            clear hK K
            try simp only [Act.put, List.getElem_toArray, List.getElem_cons_zero, List.getElem_cons_succ, List.setIfInBounds_toArray, List.set_cons_zero, List.set_cons_succ]
            refine wpAnyH_take (i := 13) (v := ?_) rfl (by kernel_rfl) (by kernel_rfl) (by kernel_rfl) (fun c a w h => h) (Or.inl ⟨by rfl, ?_⟩) hHeld ?_
            rotate_left
            · (intro w hSw; (try dsimp only at hSw); go_simp; try with_reducible rfl)
            simp only [Act.put, List.getElem_toArray, List.getElem_cons_zero, List.getElem_cons_succ, List.setIfInBounds_toArray, List.set_cons_zero, List.set_cons_succ]
            refine wpAnyH_take (i := 14) (v := ?_) rfl (by kernel_rfl) (by kernel_rfl) (by kernel_rfl) (fun c a w h => h) (Or.inl ⟨by rfl, ?_⟩) hHeld ?_
            rotate_left
            · (intro w hSw; (try dsimp only at hSw); go_simp; try with_reducible rfl)
            simp only [Act.put, List.getElem_toArray, List.getElem_cons_zero, List.getElem_cons_succ, List.setIfInBounds_toArray, List.set_cons_zero, List.set_cons_succ]
            refine wpAnyH_take (i := 15) (v := ?_) rfl (by kernel_rfl) (by kernel_rfl) (by kernel_rfl) (fun c a w h => h) (Or.inl ⟨by rfl, ?_⟩) hHeld ?_
            rotate_left
            · (intro w hSw; (try dsimp only at hSw); go_simp; try with_reducible rfl)
            simp only [Act.put, List.getElem_toArray, List.getElem_cons_zero, List.getElem_cons_succ, List.setIfInBounds_toArray, List.set_cons_zero, List.set_cons_succ]
            refine wpAnyH_done (by kernel_rfl) ?_ _
            have HT := hid (HBW.out _ _ _ x5)
            clear hHeld x0 x1 x2 x3 x4 x5 b1 b2 b3 b4 b5 HT1 HT2 HD1 HD2 HS
            go_wp2
            go_ret
            exact ⟨rfl, HT.out⟩
end Go.Proofs.YtlljelfplffglabDoor.H
