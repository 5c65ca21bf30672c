import Derived.Test.YtgponcjjnjpfkabGreatG12
/-! The law's does. -/
namespace Go.Proofs.YtgponcjjnjpfkabGreat.L
open Go.RowKit
open Go.Proofs
open P
set_option linter.unusedVariables false
set_option linter.unusedSimpArgs false
set_option maxHeartbeats 20000000
set_option maxRecDepth 100000
def DR (W W' : World) (B g bd br bm bx bq bz : Nat) (T : Nat) : Prop := ∃ F G ev qv D R m, WW W' B g bd br bm bx bq bz F G ev qv D R m ∧ (∀ x ∈ D, C.C x) ∧ (∀ q ∈ R, C.C q.2) ∧ m.tones.length ≤ T ∧ Below B W W'
theorem sl_keep {W W' : World} {lo : Nat} {p : Option Addr} {c : Nat} {X : List Int} (h : S.RowU W lo (.slice p X.length c) X) (k : ∀ i, lo ≤ i → i < W.heap.size → W'.heap[i]? = W.heap[i]?) : S.RowU W' lo (.slice p X.length c) X :=
  S.own_kept h fun g e hg => k g (h.lt g e).1 hg
theorem RXD.kp {W W' : World} {B bx bq bz : Nat} {G : Nat → Prop} {ev qv : Value} {D : List Int} {R : List (Int × Int)} {m : M.MS} (h : RXD W W' B bx bq bz G ev qv D R m) (i : Nat) (hi : i < W.heap.size) (n : ¬ (i = bx ∨ i = bq ∨ G i)) : W'.heap[i]? = W.heap[i]? := by
  obtain ⟨ev', qv', G', r, t, nw, nw', hG⟩ := h
  exact t.block i hi n
theorem slUN {W : World} {B : Nat} {p : Option Addr} {c : Nat} {l : List Int} (h : S.RowU W B (.slice p l.length c) l) : S.Sl S.eU 1 W p l := by
  obtain ⟨p', c', e, _, k⟩ := h.ls.ex
  cases e
  exact k
section
variable {W : World} {B g bd br bm bx bq bz : Nat} {F G : Nat → Prop} {ev qv : Value} {D : List Int} {R : List (Int × Int)} {m : M.MS}
theorem does_any (op : Int) (h : WW W B g bd br bm bx bq bz F G ev qv D R m) (hB : B ≤ W.heap.size) (hC : ∀ x ∈ D, C.C x) (hRC : ∀ q ∈ R, C.C q.2) (ht : m.tones.length ≤ 900000) :
    Calls Tryz.prog 7 #[.pointer (some ⟨g, 0, none⟩), .int .i64 op] W fun e W' => e = .returned (.bool true) ∧ DR W W' B g bd br bm bx bq bz (m.tones.length + 3) := by
  have hwf := M.HasM.wf h.p.m
  obtain ⟨F0, G0, h2⟩ : ∃ F0 G0, W2 W B g bd br bm bx bq bz F0 G0 ev qv D R m D R m := ⟨_, _, W2.make h⟩
  clear h
  have hDl : D.length ≤ 256 := h2.x.len
  obtain ⟨pe, ce, hev⟩ := S.ex_slice h2.x.row
  obtain ⟨N, hN⟩ : ∃ N, D.length = N := ⟨_, rfl⟩
  rw [hN] at hev
  subst hev
  obtain ⟨Q, hQ⟩ : ∃ Q, Q = D.take (D.length - 3) := ⟨_, rfl⟩
  obtain ⟨X, hX⟩ : ∃ X, X = D.drop (D.length - 3) := ⟨_, rfl⟩
  have hQX : D = Q ++ X := by rw [hQ, hX, List.take_append_drop]
  have hXl : X.length ≤ 3 := by rw [hX, List.length_drop]; omega
  have hQl : Q.length = N - 3 := by rw [hQ, List.length_take, hN]; omega
  have hXC : ∀ x ∈ X, C.C x := fun x e => hC x (by rw [hQX]; exact List.mem_append.2 (.inr e))
  have hNe : N = Q.length + X.length := by rw [← hN, hQX, List.length_append]
  obtain ⟨⟨c0, c1, c2⟩, c3, c4, c5⟩ := h2.c6
  have ce0 := S.cell_of W bx 0 _ _ _ h2.x.blk rfl
  have hr0 := S.own_empty W 31 1
  have hb0 : Below W.heap.size W (W.alloc (.cells #[] 31)) := (Below.refl _ _).alloc (Nat.le_refl _) _
  have d3 := bcell hb0 c3
  have de0 := bcell hb0 ce0
  obtain ⟨vx, hvx⟩ : ∃ vx, vx = Value.slice (if ce = Q.length then pe else pe.map (·.add Q.length)) X.length (ce - Q.length) := ⟨_, rfl⟩
  have hs0 : S.Cs (W.alloc (.cells #[] 31)) vx 1 X.length (S.en S.eU X) := by rw [hvx]; exact (ls_from (by rw [← hQX]; exact h2.x.row.ls.below hb0)).cs S.hU (by omega) S.oneU
  have hNT : ∀ i, W.heap.size ≤ i → ¬ TP bd br F0 i := fun i hi => by
    rintro (e | e | e)
    · have := S.lt_of h2.p.d.1; omega
    · have := S.lt_of h2.p.r.1; omega
    · have := h2.fl i e; omega
  have hNX : ∀ i, W.heap.size ≤ i → ¬ (i = bx ∨ i = bq ∨ G0 i) := fun i hi => by
    rintro (e | e | e)
    · have := S.lt_of h2.x.blk; omega
    · have := S.lt_of h2.y.blk; omega
    · have := h2.gl i e; omega
  have HNT := S.hid hNT
  have HNX := S.hid hNX
  clear hNT hNX
  have HXC := S.hid hXC
  have H2 := S.hid h2
  have HC := S.hid hC
  have HRC := S.hid hRC
  have HNQ := S.hid (And.intro hQl hNe)
  have HVX := S.hid hvx
  have hN256 : N ≤ 256 := by omega
  clear h2 hC hRC hXC hQ hX hQX hvx hN hDl c0 c1 c2 c4 c5 hQl hNe
  have y1 : wrap64 ((N : Int) - 3) = (N : Int) - 3 := by simp [wrap64]; omega
  have y2 : IntKind.i64.wrap ((N : Int) - 3) = (N : Int) - 3 := S.i64_id _ (by omega) (by omega)
  go_enter Tryz.func7, Tryz.ntmps7
  go_upto_region 2 with fail
  try simp only [Act.put, List.getElem_toArray, List.getElem_cons_zero, List.getElem_cons_succ, List.setIfInBounds_toArray, List.set_cons_zero, List.set_cons_succ]
  go_cut [6] (fun s6 wc => ∃ px cx, s6 = .slice px X.length cx ∧ S.RowU wc W.heap.size (.slice px X.length cx) X ∧ Below W.heap.size W wc)
  case first =>
    as_aux_lemma =>
      by_cases hq : 3 < N
      · have f0 : decide ((0 : Int) < (N : Int) - 3) = true := decide_eq_true (by omega)
        have hsl : ∀ W, (Instr.sliceAt 22 (.slice pe N ce) (some (.int .i64 ((N : Int) - 3))) none none).run Tryz.prog W = .ok vx W := fun W => by
          rw [show ((N : Int) - 3) = (Q.length : Int) by have := HNQ.out; omega, slice_fromU W pe N ce Q.length (by have := HNQ.out; omega), HVX.out, show N - Q.length = X.length by have := HNQ.out; omega]
        clear H2 HC HRC HXC
        go_wp2_with (first | (at_builtin; refine S.wpList_append_row _ rfl _ _ 22 31 _ 1 2 Tryz.underlying22 S.info32 rfl (by decide) rfl W.heap.size _ 0 [] rfl hr0 _ X.length (S.en S.eU X) rfl hs0 (by unfold S.room; omega) (by unfold maxLen; omega) hb0.size ?_))
        intro v1 w4 hr1 hg1
        have hb1 : Below W.heap.size W w4 := hg1.belowAll (fun g e => (hr0.lt g e).1) hb0 (Nat.le_refl _)
        replace hr1 : w4.ownsRow W.heap.size 31 1 v1 X.length (S.en S.eU X) := by simpa using hr1
        obtain ⟨px, cx, rfl⟩ := S.ex_slice hr1
        have HR1 := S.hid (And.intro (show S.RowU w4 W.heap.size (.slice px X.length cx) X from hr1) hb1)
        clear hr0 hs0 hg1 hb0 hb1 hr1 hsl
        go_wp2
        go_meet
        case rel => exact ⟨px, cx, rfl, HR1.out.1, HR1.out.2⟩
      · have f0 : decide ((0 : Int) < (N : Int) - 3) = false := decide_eq_false (by omega)
        have hsl : ∀ W, (Instr.sliceAt 22 (.slice pe N ce) (some (.int .i64 (0 : Int))) none none).run Tryz.prog W = .ok vx W := fun W => by
          rw [show (0 : Int) = (Q.length : Int) by have := HNQ.out; omega, slice_fromU W pe N ce Q.length (by have := HNQ.out; omega), HVX.out, show N - Q.length = X.length by have := HNQ.out; omega]
        clear H2 HC HRC HXC
        go_wp2_with (first | (at_builtin; refine S.wpList_append_row _ rfl _ _ 22 31 _ 1 2 Tryz.underlying22 S.info32 rfl (by decide) rfl W.heap.size _ 0 [] rfl hr0 _ X.length (S.en S.eU X) rfl hs0 (by unfold S.room; omega) (by unfold maxLen; omega) hb0.size ?_))
        intro v1 w4 hr1 hg1
        have hb1 : Below W.heap.size W w4 := hg1.belowAll (fun g e => (hr0.lt g e).1) hb0 (Nat.le_refl _)
        replace hr1 : w4.ownsRow W.heap.size 31 1 v1 X.length (S.en S.eU X) := by simpa using hr1
        obtain ⟨px, cx, rfl⟩ := S.ex_slice hr1
        have HR1 := S.hid (And.intro (show S.RowU w4 W.heap.size (.slice px X.length cx) X from hr1) hb1)
        clear hr0 hs0 hg1 hb0 hb1 hr1 hsl
        go_wp2
        go_meet
        case rel => exact ⟨px, cx, rfl, HR1.out.1, HR1.out.2⟩
  case rest =>
    obtain ⟨px, cx, rfl, hrow, hbc⟩ := hcut
    have HX := S.hid hrow
    have HBC := S.hid hbc
    have hB1 : B ≤ wc.heap.size := Nat.le_trans hB hbc.size
    clear hr0 hb0 d3 de0 hs0 hrow hbc y1 y2 c3 ce0
    have h3 := H2.out.below HBC.out
    have h3d := h3.below ((Below.refl _ wc).drew)
    have s0 := h3d.c6.1
    by_cases hp : plain op = true
    case neg =>
      as_aux_lemma =>
        have hp' : plain op = false := by simpa using hp
        have kd := do_not op hp' (some ⟨bd, 0, none⟩) (some ⟨br, 0, none⟩) (some ⟨bm, 0, none⟩) wc.drew
        have H3 := S.hid h3
        have HBd := S.hid ((Below.refl wc.heap.size wc).drew)
        clear h3 h3d H2
        go_upto_region 3 with fail
        try simp only [Act.put, List.getElem_toArray, List.getElem_cons_zero, List.getElem_cons_succ, List.setIfInBounds_toArray, List.set_cons_zero, List.set_cons_succ]
        refine wp_region_held_drew (S := (fun w' : World => w'.cell? ⟨g, 0, none⟩ = some (.pointer (some ⟨bd, 0, none⟩)) ∧ w'.cell? ⟨g, 1, none⟩ = some (.pointer (some ⟨br, 0, none⟩)) ∧ w'.cell? ⟨g, 2, none⟩ = some (.pointer (some ⟨bm, 0, none⟩)))) (by kernel_rfl) s0 (fun hHeld => ?_)
        clear s0
        refine wpAnyH_take (i := 0) (v := ?_) rfl (by kernel_rfl) (by kernel_rfl) (by kernel_rfl) (fun c a w h => h) (Or.inl ⟨by rfl, ?_⟩) hHeld ?_
        rotate_left
        · (intro w hSw; (try dsimp only at hSw); go_simp; try with_reducible rfl)
        simp only [Act.put, List.getElem_toArray, List.getElem_cons_zero, List.getElem_cons_succ, List.setIfInBounds_toArray, List.set_cons_zero, List.set_cons_succ]
        refine wpAnyH_take (i := 1) (v := ?_) rfl (by kernel_rfl) (by kernel_rfl) (by kernel_rfl) (fun c a w h => h) (Or.inl ⟨by rfl, ?_⟩) hHeld ?_
        rotate_left
        · (intro w hSw; (try dsimp only at hSw); go_simp; try with_reducible rfl)
        simp only [Act.put, List.getElem_toArray, List.getElem_cons_zero, List.getElem_cons_succ, List.setIfInBounds_toArray, List.set_cons_zero, List.set_cons_succ]
        refine wpAnyH_take (i := 2) (v := ?_) rfl (by kernel_rfl) (by kernel_rfl) (by kernel_rfl) (fun c a w h => h) (Or.inl ⟨by rfl, ?_⟩) hHeld ?_
        rotate_left
        · (intro w hSw; (try dsimp only at hSw); go_simp; try with_reducible rfl)
        simp only [Act.put, List.getElem_toArray, List.getElem_cons_zero, List.getElem_cons_succ, List.setIfInBounds_toArray, List.set_cons_zero, List.set_cons_succ]
        refine wpAnyH_take (i := 3) (v := ?_) rfl (by kernel_rfl) (by kernel_rfl) (by kernel_rfl) (fun c a w h => h) (Or.inl ⟨by rfl, ?_⟩) hHeld ?_
        rotate_left
        · (intro w hSw; (try dsimp only at hSw); go_simp; try with_reducible rfl)
        simp only [Act.put, List.getElem_toArray, List.getElem_cons_zero, List.getElem_cons_succ, List.setIfInBounds_toArray, List.set_cons_zero, List.set_cons_succ]
        refine wpAnyH_take (i := 4) (v := ?_) rfl (by kernel_rfl) (by kernel_rfl) (by kernel_rfl) (fun c a w h => h) (Or.inl ⟨by rfl, ?_⟩) hHeld ?_
        rotate_left
        · (intro w hSw; (try dsimp only at hSw); go_simp; try with_reducible rfl)
        simp only [Act.put, List.getElem_toArray, List.getElem_cons_zero, List.getElem_cons_succ, List.setIfInBounds_toArray, List.set_cons_zero, List.set_cons_succ]
        refine wpAnyH_take (i := 5) (v := ?_) rfl (by kernel_rfl) (by kernel_rfl) (by kernel_rfl) (fun c a w h => h) (Or.inl ⟨by rfl, ?_⟩) hHeld ?_
        rotate_left
        · (intro w hSw; (try dsimp only at hSw); go_simp; try with_reducible rfl)
        simp only [Act.put, List.getElem_toArray, List.getElem_cons_zero, List.getElem_cons_succ, List.setIfInBounds_toArray, List.set_cons_zero, List.set_cons_succ]
        refine wpAnyH_take (i := 6) (v := ?_) rfl (by kernel_rfl) (by kernel_rfl) (by kernel_rfl) (fun c a w h => h) (Or.inl ⟨by rfl, ?_⟩) hHeld ?_
        rotate_left
        · (intro w hSw; (try dsimp only at hSw); go_simp; try with_reducible rfl)
        simp only [Act.put, List.getElem_toArray, List.getElem_cons_zero, List.getElem_cons_succ, List.setIfInBounds_toArray, List.set_cons_zero, List.set_cons_succ]
        refine wpAnyH_take (i := 7) (v := ?_) rfl (by kernel_rfl) (by kernel_rfl) (by kernel_rfl) (fun c a w h => h) (Or.inl ⟨by rfl, ?_⟩) hHeld ?_
        rotate_left
        · (intro w hSw; (try dsimp only at hSw); go_simp; try with_reducible rfl)
        simp only [Act.put, List.getElem_toArray, List.getElem_cons_zero, List.getElem_cons_succ, List.setIfInBounds_toArray, List.set_cons_zero, List.set_cons_succ]
        refine wpAnyH_take (i := 8) (v := ?_) rfl (by kernel_rfl) (by kernel_rfl) (by kernel_rfl) (fun c a w h => h) (Or.inl ⟨by rfl, ?_⟩) hHeld ?_
        rotate_left
        · (intro w hSw; (try dsimp only at hSw); go_simp; try with_reducible rfl)
        simp only [Act.put, List.getElem_toArray, List.getElem_cons_zero, List.getElem_cons_succ, List.setIfInBounds_toArray, List.set_cons_zero, List.set_cons_succ]
        refine wpAnyH_take (i := 9) (v := ?_) rfl (by kernel_rfl) (by kernel_rfl) (by kernel_rfl) (fun c a w h => h) (Or.inl ⟨by rfl, ?_⟩) hHeld ?_
        rotate_left
        · (intro w hSw; (try dsimp only at hSw); go_simp; try with_reducible rfl)
        simp only [Act.put, List.getElem_toArray, List.getElem_cons_zero, List.getElem_cons_succ, List.setIfInBounds_toArray, List.set_cons_zero, List.set_cons_succ]
        refine wpAnyH_take (i := 10) (v := ?_) rfl (by kernel_rfl) (by kernel_rfl) (by kernel_rfl) (fun c a w h => h) (Or.inl ⟨by rfl, ?_⟩) hHeld ?_
        rotate_left
        · (intro w hSw; (try dsimp only at hSw); go_simp; try with_reducible rfl)
        simp only [Act.put, List.getElem_toArray, List.getElem_cons_zero, List.getElem_cons_succ, List.setIfInBounds_toArray, List.set_cons_zero, List.set_cons_succ]
        refine wpAnyH_take (i := 11) (v := ?_) rfl (by kernel_rfl) (by kernel_rfl) (by kernel_rfl) (fun c a w h => h) (Or.inl ⟨by rfl, ?_⟩) hHeld ?_
        rotate_left
        · (intro w hSw; (try dsimp only at hSw); go_simp; try with_reducible rfl)
        simp only [Act.put, List.getElem_toArray, List.getElem_cons_zero, List.getElem_cons_succ, List.setIfInBounds_toArray, List.set_cons_zero, List.set_cons_succ]
        refine wpAnyH_take (i := 12) (v := ?_) rfl (by kernel_rfl) (by kernel_rfl) (by kernel_rfl) (fun c a w h => h) (Or.inl ⟨by rfl, ?_⟩) hHeld ?_
        rotate_left
        · (intro w hSw; (try dsimp only at hSw); go_simp; try with_reducible rfl)
        simp only [Act.put, List.getElem_toArray, List.getElem_cons_zero, List.getElem_cons_succ, List.setIfInBounds_toArray, List.set_cons_zero, List.set_cons_succ]
        refine wpAnyH_ready (rs := [13]) (by kernel_rfl) (by simp) ?_
        refine AllReadyH.cons rfl (fun K hK => ?_) AllReadyH.nil
        go_simp
        refine kd.mono ?_
        rintro e w5 ⟨rfl, hb5⟩
        have hB5 := HBd.out.trans hb5
        have h5 := H3.out.below hB5
        have s5 := h5.c6.1
        have H5 := S.hid h5
        have HBb := S.hid hB5
        clear kd hb5 h5 HBd hB5
        refine hK.out _ _ s5 (fun hHeld => ?_)
        clear hK K
        try simp only [Act.put, List.getElem_toArray, List.getElem_cons_zero, List.getElem_cons_succ, List.setIfInBounds_toArray, List.set_cons_zero, List.set_cons_succ]
        refine wpAnyH_ready (rs := [14]) (by kernel_rfl) (by simp) ?_
        refine AllReadyH.cons rfl (fun K hK => ?_) AllReadyH.nil
        go_simp
        refine hK.out _ _ s5 (fun hHeld => ?_)
        clear hK K
        refine wpAnyH_done (by kernel_rfl) ?_ _
        clear hHeld
        try simp only [Act.put, List.getElem_toArray, List.getElem_cons_zero, List.getElem_cons_succ, List.setIfInBounds_toArray, List.set_cons_zero, List.set_cons_succ]
        have hB5d := HBb.out.drew
        have h5d := H3.out.below hB5d
        have s0 := h5d.c6.2
        have kr := rdo_not op hp' (some ⟨bx, 0, none⟩) (some ⟨bq, 0, none⟩) (some ⟨bz, 0, none⟩) w5.drew
        have HB5d := S.hid hB5d
        clear h5d s5 H5
        go_upto_region 4 with fail
        try simp only [Act.put, List.getElem_toArray, List.getElem_cons_zero, List.getElem_cons_succ, List.setIfInBounds_toArray, List.set_cons_zero, List.set_cons_succ]
        refine wp_region_held_drew (S := (fun w' : World => w'.cell? ⟨g, 3, none⟩ = some (.pointer (some ⟨bx, 0, none⟩)) ∧ w'.cell? ⟨g, 4, none⟩ = some (.pointer (some ⟨bq, 0, none⟩)) ∧ w'.cell? ⟨g, 5, none⟩ = some (.pointer (some ⟨bz, 0, none⟩)))) (by kernel_rfl) s0 (fun hHeld => ?_)
        clear s0
        refine wpAnyH_take (i := 0) (v := ?_) rfl (by kernel_rfl) (by kernel_rfl) (by kernel_rfl) (fun c a w h => h) (Or.inl ⟨by rfl, ?_⟩) hHeld ?_
        rotate_left
        · (intro w hSw; (try dsimp only at hSw); go_simp; try with_reducible rfl)
        simp only [Act.put, List.getElem_toArray, List.getElem_cons_zero, List.getElem_cons_succ, List.setIfInBounds_toArray, List.set_cons_zero, List.set_cons_succ]
        refine wpAnyH_take (i := 1) (v := ?_) rfl (by kernel_rfl) (by kernel_rfl) (by kernel_rfl) (fun c a w h => h) (Or.inl ⟨by rfl, ?_⟩) hHeld ?_
        rotate_left
        · (intro w hSw; (try dsimp only at hSw); go_simp; try with_reducible rfl)
        simp only [Act.put, List.getElem_toArray, List.getElem_cons_zero, List.getElem_cons_succ, List.setIfInBounds_toArray, List.set_cons_zero, List.set_cons_succ]
        refine wpAnyH_take (i := 2) (v := ?_) rfl (by kernel_rfl) (by kernel_rfl) (by kernel_rfl) (fun c a w h => h) (Or.inl ⟨by rfl, ?_⟩) hHeld ?_
        rotate_left
        · (intro w hSw; (try dsimp only at hSw); go_simp; try with_reducible rfl)
        simp only [Act.put, List.getElem_toArray, List.getElem_cons_zero, List.getElem_cons_succ, List.setIfInBounds_toArray, List.set_cons_zero, List.set_cons_succ]
        refine wpAnyH_take (i := 3) (v := ?_) rfl (by kernel_rfl) (by kernel_rfl) (by kernel_rfl) (fun c a w h => h) (Or.inl ⟨by rfl, ?_⟩) hHeld ?_
        rotate_left
        · (intro w hSw; (try dsimp only at hSw); go_simp; try with_reducible rfl)
        simp only [Act.put, List.getElem_toArray, List.getElem_cons_zero, List.getElem_cons_succ, List.setIfInBounds_toArray, List.set_cons_zero, List.set_cons_succ]
        refine wpAnyH_take (i := 4) (v := ?_) rfl (by kernel_rfl) (by kernel_rfl) (by kernel_rfl) (fun c a w h => h) (Or.inl ⟨by rfl, ?_⟩) hHeld ?_
        rotate_left
        · (intro w hSw; (try dsimp only at hSw); go_simp; try with_reducible rfl)
        simp only [Act.put, List.getElem_toArray, List.getElem_cons_zero, List.getElem_cons_succ, List.setIfInBounds_toArray, List.set_cons_zero, List.set_cons_succ]
        refine wpAnyH_take (i := 5) (v := ?_) rfl (by kernel_rfl) (by kernel_rfl) (by kernel_rfl) (fun c a w h => h) (Or.inl ⟨by rfl, ?_⟩) hHeld ?_
        rotate_left
        · (intro w hSw; (try dsimp only at hSw); go_simp; try with_reducible rfl)
        simp only [Act.put, List.getElem_toArray, List.getElem_cons_zero, List.getElem_cons_succ, List.setIfInBounds_toArray, List.set_cons_zero, List.set_cons_succ]
        refine wpAnyH_take (i := 6) (v := ?_) rfl (by kernel_rfl) (by kernel_rfl) (by kernel_rfl) (fun c a w h => h) (Or.inl ⟨by rfl, ?_⟩) hHeld ?_
        rotate_left
        · (intro w hSw; (try dsimp only at hSw); go_simp; try with_reducible rfl)
        simp only [Act.put, List.getElem_toArray, List.getElem_cons_zero, List.getElem_cons_succ, List.setIfInBounds_toArray, List.set_cons_zero, List.set_cons_succ]
        refine wpAnyH_take (i := 7) (v := ?_) rfl (by kernel_rfl) (by kernel_rfl) (by kernel_rfl) (fun c a w h => h) (Or.inl ⟨by rfl, ?_⟩) hHeld ?_
        rotate_left
        · (intro w hSw; (try dsimp only at hSw); go_simp; try with_reducible rfl)
        simp only [Act.put, List.getElem_toArray, List.getElem_cons_zero, List.getElem_cons_succ, List.setIfInBounds_toArray, List.set_cons_zero, List.set_cons_succ]
        refine wpAnyH_take (i := 8) (v := ?_) rfl (by kernel_rfl) (by kernel_rfl) (by kernel_rfl) (fun c a w h => h) (Or.inl ⟨by rfl, ?_⟩) hHeld ?_
        rotate_left
        · (intro w hSw; (try dsimp only at hSw); go_simp; try with_reducible rfl)
        simp only [Act.put, List.getElem_toArray, List.getElem_cons_zero, List.getElem_cons_succ, List.setIfInBounds_toArray, List.set_cons_zero, List.set_cons_succ]
        refine wpAnyH_take (i := 9) (v := ?_) rfl (by kernel_rfl) (by kernel_rfl) (by kernel_rfl) (fun c a w h => h) (Or.inl ⟨by rfl, ?_⟩) hHeld ?_
        rotate_left
        · (intro w hSw; (try dsimp only at hSw); go_simp; try with_reducible rfl)
        simp only [Act.put, List.getElem_toArray, List.getElem_cons_zero, List.getElem_cons_succ, List.setIfInBounds_toArray, List.set_cons_zero, List.set_cons_succ]
        refine wpAnyH_take (i := 10) (v := ?_) rfl (by kernel_rfl) (by kernel_rfl) (by kernel_rfl) (fun c a w h => h) (Or.inl ⟨by rfl, ?_⟩) hHeld ?_
        rotate_left
        · (intro w hSw; (try dsimp only at hSw); go_simp; try with_reducible rfl)
        simp only [Act.put, List.getElem_toArray, List.getElem_cons_zero, List.getElem_cons_succ, List.setIfInBounds_toArray, List.set_cons_zero, List.set_cons_succ]
        refine wpAnyH_take (i := 11) (v := ?_) rfl (by kernel_rfl) (by kernel_rfl) (by kernel_rfl) (fun c a w h => h) (Or.inl ⟨by rfl, ?_⟩) hHeld ?_
        rotate_left
        · (intro w hSw; (try dsimp only at hSw); go_simp; try with_reducible rfl)
        simp only [Act.put, List.getElem_toArray, List.getElem_cons_zero, List.getElem_cons_succ, List.setIfInBounds_toArray, List.set_cons_zero, List.set_cons_succ]
        refine wpAnyH_take (i := 12) (v := ?_) rfl (by kernel_rfl) (by kernel_rfl) (by kernel_rfl) (fun c a w h => h) (Or.inl ⟨by rfl, ?_⟩) hHeld ?_
        rotate_left
        · (intro w hSw; (try dsimp only at hSw); go_simp; try with_reducible rfl)
        simp only [Act.put, List.getElem_toArray, List.getElem_cons_zero, List.getElem_cons_succ, List.setIfInBounds_toArray, List.set_cons_zero, List.set_cons_succ]
        refine wpAnyH_ready (rs := [13]) (by kernel_rfl) (by simp) ?_
        refine AllReadyH.cons rfl (fun K hK => ?_) AllReadyH.nil
        go_simp
        refine kr.mono ?_
        rintro e w6 ⟨rfl, hb6⟩
        have hB6 := HB5d.out.trans (hb6.mono HB5d.out.size)
        have h6 := H3.out.below hB6
        have s6 := h6.c6.2
        have HX5 := S.hid (sl_keep HX.out (fun i h1 h2 => hB6.block i h2))
        have HSZ := S.hid (Nat.le_trans HBC.out.size hB6.size)
        have HB5 := S.hid ((HBC.out.mono hB).trans (hB6.mono hB1))
        have HW5 := S.hid h6.ww
        clear kr hb6 h6 hB6 HB5d hB5d
        refine hK.out _ _ s6 (fun hHeld => ?_)
        clear hK K
        try simp only [Act.put, List.getElem_toArray, List.getElem_cons_zero, List.getElem_cons_succ, List.setIfInBounds_toArray, List.set_cons_zero, List.set_cons_succ]
        refine wpAnyH_ready (rs := [14]) (by kernel_rfl) (by simp) ?_
        refine AllReadyH.cons rfl (fun K hK => ?_) AllReadyH.nil
        go_simp
        refine hK.out _ _ s6 (fun hHeld => ?_)
        clear hK K
        refine wpAnyH_done (by kernel_rfl) ?_ _
        clear hHeld
        try simp only [Act.put, List.getElem_toArray, List.getElem_cons_zero, List.getElem_cons_succ, List.setIfInBounds_toArray, List.set_cons_zero, List.set_cons_succ]
        have HC5 := HC
        have HR5 := HRC
        have HT5 := S.hid (show m.tones.length ≤ m.tones.length + 3 by omega)
        clear H3 HBb HX HBC s6 HC HRC
        have ks := stacks_any HW5.out
        go_wp2_with fail
        refine ks.mono ?_
        rintro e w6 ⟨rfl, hb6⟩
        have hW6 := HW5.out.below hb6
        have kn := near_any hW6 (by have := HT5.out; omega) px cx X hXl HXC.out (slUN (sl_keep HX5.out (fun i h1 h2 => hb6.block i h2)))
        have HB6 := S.hid (HB5.out.trans (hb6.mono (Nat.le_trans hB HSZ.out)))
        have HW6 := S.hid hW6
        clear ks hb6 hW6 HW5 HX5 HB5
        go_wp2_with fail
        refine kn.mono ?_
        rintro e w7 ⟨rfl, hb7⟩
        have hsz6 : B ≤ w6.heap.size := Nat.le_trans hB HB6.out.size
        have HF := S.hid (And.intro (HW6.out.below hb7) (HB6.out.trans (hb7.mono hsz6)))
        clear kn hb7 HW6 HB6
        go_wp2
        go_ret
        exact ⟨rfl, _, _, _, _, _, _, _, HF.out.1, HC5.out, HR5.out, HT5.out, HF.out.2⟩
    obtain ⟨n, rfl⟩ : ∃ n : Nat, op = (n : Int) := ⟨op.toNat, by unfold plain at hp; simp at hp; omega⟩
    have kd := do_pd2 (n : Int) hp HC.out (by omega) h3d.p
    have H3 := S.hid h3d
    clear h3 h3d H2
    obtain ⟨f, hf⟩ : ∃ f, f = P.fl (n : Int) D R := ⟨_, rfl⟩
    rw [← hf] at kd
    have HFQ := S.hid hf
    clear hf
    go_upto_region 3 with fail
    try simp only [Act.put, List.getElem_toArray, List.getElem_cons_zero, List.getElem_cons_succ, List.setIfInBounds_toArray, List.set_cons_zero, List.set_cons_succ]
    refine wp_region_held_drew (S := (fun w' : World => w'.cell? ⟨g, 0, none⟩ = some (.pointer (some ⟨bd, 0, none⟩)) ∧ w'.cell? ⟨g, 1, none⟩ = some (.pointer (some ⟨br, 0, none⟩)) ∧ w'.cell? ⟨g, 2, none⟩ = some (.pointer (some ⟨bm, 0, none⟩)))) (by kernel_rfl) s0 (fun hHeld => ?_)
    clear s0
    refine wpAnyH_take (i := 0) (v := ?_) rfl (by kernel_rfl) (by kernel_rfl) (by kernel_rfl) (fun c a w h => h) (Or.inl ⟨by rfl, ?_⟩) hHeld ?_
    rotate_left
    · (intro w hSw; (try dsimp only at hSw); go_simp; try with_reducible rfl)
    simp only [Act.put, List.getElem_toArray, List.getElem_cons_zero, List.getElem_cons_succ, List.setIfInBounds_toArray, List.set_cons_zero, List.set_cons_succ]
    refine wpAnyH_take (i := 1) (v := ?_) rfl (by kernel_rfl) (by kernel_rfl) (by kernel_rfl) (fun c a w h => h) (Or.inl ⟨by rfl, ?_⟩) hHeld ?_
    rotate_left
    · (intro w hSw; (try dsimp only at hSw); go_simp; try with_reducible rfl)
    simp only [Act.put, List.getElem_toArray, List.getElem_cons_zero, List.getElem_cons_succ, List.setIfInBounds_toArray, List.set_cons_zero, List.set_cons_succ]
    refine wpAnyH_take (i := 2) (v := ?_) rfl (by kernel_rfl) (by kernel_rfl) (by kernel_rfl) (fun c a w h => h) (Or.inl ⟨by rfl, ?_⟩) hHeld ?_
    rotate_left
    · (intro w hSw; (try dsimp only at hSw); go_simp; try with_reducible rfl)
    simp only [Act.put, List.getElem_toArray, List.getElem_cons_zero, List.getElem_cons_succ, List.setIfInBounds_toArray, List.set_cons_zero, List.set_cons_succ]
    refine wpAnyH_take (i := 3) (v := ?_) rfl (by kernel_rfl) (by kernel_rfl) (by kernel_rfl) (fun c a w h => h) (Or.inl ⟨by rfl, ?_⟩) hHeld ?_
    rotate_left
    · (intro w hSw; (try dsimp only at hSw); go_simp; try with_reducible rfl)
    simp only [Act.put, List.getElem_toArray, List.getElem_cons_zero, List.getElem_cons_succ, List.setIfInBounds_toArray, List.set_cons_zero, List.set_cons_succ]
    refine wpAnyH_take (i := 4) (v := ?_) rfl (by kernel_rfl) (by kernel_rfl) (by kernel_rfl) (fun c a w h => h) (Or.inl ⟨by rfl, ?_⟩) hHeld ?_
    rotate_left
    · (intro w hSw; (try dsimp only at hSw); go_simp; try with_reducible rfl)
    simp only [Act.put, List.getElem_toArray, List.getElem_cons_zero, List.getElem_cons_succ, List.setIfInBounds_toArray, List.set_cons_zero, List.set_cons_succ]
    refine wpAnyH_take (i := 5) (v := ?_) rfl (by kernel_rfl) (by kernel_rfl) (by kernel_rfl) (fun c a w h => h) (Or.inl ⟨by rfl, ?_⟩) hHeld ?_
    rotate_left
    · (intro w hSw; (try dsimp only at hSw); go_simp; try with_reducible rfl)
    simp only [Act.put, List.getElem_toArray, List.getElem_cons_zero, List.getElem_cons_succ, List.setIfInBounds_toArray, List.set_cons_zero, List.set_cons_succ]
    refine wpAnyH_take (i := 6) (v := ?_) rfl (by kernel_rfl) (by kernel_rfl) (by kernel_rfl) (fun c a w h => h) (Or.inl ⟨by rfl, ?_⟩) hHeld ?_
    rotate_left
    · (intro w hSw; (try dsimp only at hSw); go_simp; try with_reducible rfl)
    simp only [Act.put, List.getElem_toArray, List.getElem_cons_zero, List.getElem_cons_succ, List.setIfInBounds_toArray, List.set_cons_zero, List.set_cons_succ]
    refine wpAnyH_take (i := 7) (v := ?_) rfl (by kernel_rfl) (by kernel_rfl) (by kernel_rfl) (fun c a w h => h) (Or.inl ⟨by rfl, ?_⟩) hHeld ?_
    rotate_left
    · (intro w hSw; (try dsimp only at hSw); go_simp; try with_reducible rfl)
    simp only [Act.put, List.getElem_toArray, List.getElem_cons_zero, List.getElem_cons_succ, List.setIfInBounds_toArray, List.set_cons_zero, List.set_cons_succ]
    refine wpAnyH_take (i := 8) (v := ?_) rfl (by kernel_rfl) (by kernel_rfl) (by kernel_rfl) (fun c a w h => h) (Or.inl ⟨by rfl, ?_⟩) hHeld ?_
    rotate_left
    · (intro w hSw; (try dsimp only at hSw); go_simp; try with_reducible rfl)
    simp only [Act.put, List.getElem_toArray, List.getElem_cons_zero, List.getElem_cons_succ, List.setIfInBounds_toArray, List.set_cons_zero, List.set_cons_succ]
    refine wpAnyH_take (i := 9) (v := ?_) rfl (by kernel_rfl) (by kernel_rfl) (by kernel_rfl) (fun c a w h => h) (Or.inl ⟨by rfl, ?_⟩) hHeld ?_
    rotate_left
    · (intro w hSw; (try dsimp only at hSw); go_simp; try with_reducible rfl)
    simp only [Act.put, List.getElem_toArray, List.getElem_cons_zero, List.getElem_cons_succ, List.setIfInBounds_toArray, List.set_cons_zero, List.set_cons_succ]
    refine wpAnyH_take (i := 10) (v := ?_) rfl (by kernel_rfl) (by kernel_rfl) (by kernel_rfl) (fun c a w h => h) (Or.inl ⟨by rfl, ?_⟩) hHeld ?_
    rotate_left
    · (intro w hSw; (try dsimp only at hSw); go_simp; try with_reducible rfl)
    simp only [Act.put, List.getElem_toArray, List.getElem_cons_zero, List.getElem_cons_succ, List.setIfInBounds_toArray, List.set_cons_zero, List.set_cons_succ]
    refine wpAnyH_take (i := 11) (v := ?_) rfl (by kernel_rfl) (by kernel_rfl) (by kernel_rfl) (fun c a w h => h) (Or.inl ⟨by rfl, ?_⟩) hHeld ?_
    rotate_left
    · (intro w hSw; (try dsimp only at hSw); go_simp; try with_reducible rfl)
    simp only [Act.put, List.getElem_toArray, List.getElem_cons_zero, List.getElem_cons_succ, List.setIfInBounds_toArray, List.set_cons_zero, List.set_cons_succ]
    refine wpAnyH_take (i := 12) (v := ?_) rfl (by kernel_rfl) (by kernel_rfl) (by kernel_rfl) (fun c a w h => h) (Or.inl ⟨by rfl, ?_⟩) hHeld ?_
    rotate_left
    · (intro w hSw; (try dsimp only at hSw); go_simp; try with_reducible rfl)
    simp only [Act.put, List.getElem_toArray, List.getElem_cons_zero, List.getElem_cons_succ, List.setIfInBounds_toArray, List.set_cons_zero, List.set_cons_succ]
    refine wpAnyH_ready (rs := [13]) (by kernel_rfl) (by simp) ?_
    refine AllReadyH.cons rfl (fun K hK => ?_) AllReadyH.nil
    go_simp
    refine kd.mono ?_
    rintro e w5 ⟨rfl, hb5⟩
    have h5 := H3.out.left hB1 hb5
    have s5 := h5.c6.1
    have H5 := S.hid h5
    have HBb := S.hid (H3.out.pb hB1 hb5)
    have HX4 := S.hid (sl_keep HX.out (fun i h1 h2 => hb5.t.block i h2 (HNT.out i h1)))
    have HS5 := S.hid (Nat.le_trans hB1 hb5.t.size)
    have HSB5 := S.hid (show wc.heap.size ≤ w5.heap.size from hb5.t.size)
    clear kd hb5 h5
    refine hK.out _ _ s5 (fun hHeld => ?_)
    clear hK K
    try simp only [Act.put, List.getElem_toArray, List.getElem_cons_zero, List.getElem_cons_succ, List.setIfInBounds_toArray, List.set_cons_zero, List.set_cons_succ]
    refine wpAnyH_ready (rs := [14]) (by kernel_rfl) (by simp) ?_
    refine AllReadyH.cons rfl (fun K hK => ?_) AllReadyH.nil
    go_simp
    refine hK.out _ _ s5 (fun hHeld => ?_)
    clear hK K
    refine wpAnyH_done (by kernel_rfl) ?_ _
    clear hHeld
    try simp only [Act.put, List.getElem_toArray, List.getElem_cons_zero, List.getElem_cons_succ, List.setIfInBounds_toArray, List.set_cons_zero, List.set_cons_succ]
    have h5d := H5.out.below ((Below.refl _ w5).drew)
    have s0 := h5d.c6.2
    have kr := rdo_any n hp B bx bq bz _ _ qv D R m HC.out (by omega) w5.drew h5d.rf
    rw [← HFQ.out] at kr
    have H5d := S.hid h5d
    clear h5d s5 H5
    go_upto_region 4 with fail
    try simp only [Act.put, List.getElem_toArray, List.getElem_cons_zero, List.getElem_cons_succ, List.setIfInBounds_toArray, List.set_cons_zero, List.set_cons_succ]
    refine wp_region_held_drew (S := (fun w' : World => w'.cell? ⟨g, 3, none⟩ = some (.pointer (some ⟨bx, 0, none⟩)) ∧ w'.cell? ⟨g, 4, none⟩ = some (.pointer (some ⟨bq, 0, none⟩)) ∧ w'.cell? ⟨g, 5, none⟩ = some (.pointer (some ⟨bz, 0, none⟩)))) (by kernel_rfl) s0 (fun hHeld => ?_)
    clear s0
    refine wpAnyH_take (i := 0) (v := ?_) rfl (by kernel_rfl) (by kernel_rfl) (by kernel_rfl) (fun c a w h => h) (Or.inl ⟨by rfl, ?_⟩) hHeld ?_
    rotate_left
    · (intro w hSw; (try dsimp only at hSw); go_simp; try with_reducible rfl)
    simp only [Act.put, List.getElem_toArray, List.getElem_cons_zero, List.getElem_cons_succ, List.setIfInBounds_toArray, List.set_cons_zero, List.set_cons_succ]
    refine wpAnyH_take (i := 1) (v := ?_) rfl (by kernel_rfl) (by kernel_rfl) (by kernel_rfl) (fun c a w h => h) (Or.inl ⟨by rfl, ?_⟩) hHeld ?_
    rotate_left
    · (intro w hSw; (try dsimp only at hSw); go_simp; try with_reducible rfl)
    simp only [Act.put, List.getElem_toArray, List.getElem_cons_zero, List.getElem_cons_succ, List.setIfInBounds_toArray, List.set_cons_zero, List.set_cons_succ]
    refine wpAnyH_take (i := 2) (v := ?_) rfl (by kernel_rfl) (by kernel_rfl) (by kernel_rfl) (fun c a w h => h) (Or.inl ⟨by rfl, ?_⟩) hHeld ?_
    rotate_left
    · (intro w hSw; (try dsimp only at hSw); go_simp; try with_reducible rfl)
    simp only [Act.put, List.getElem_toArray, List.getElem_cons_zero, List.getElem_cons_succ, List.setIfInBounds_toArray, List.set_cons_zero, List.set_cons_succ]
    refine wpAnyH_take (i := 3) (v := ?_) rfl (by kernel_rfl) (by kernel_rfl) (by kernel_rfl) (fun c a w h => h) (Or.inl ⟨by rfl, ?_⟩) hHeld ?_
    rotate_left
    · (intro w hSw; (try dsimp only at hSw); go_simp; try with_reducible rfl)
    simp only [Act.put, List.getElem_toArray, List.getElem_cons_zero, List.getElem_cons_succ, List.setIfInBounds_toArray, List.set_cons_zero, List.set_cons_succ]
    refine wpAnyH_take (i := 4) (v := ?_) rfl (by kernel_rfl) (by kernel_rfl) (by kernel_rfl) (fun c a w h => h) (Or.inl ⟨by rfl, ?_⟩) hHeld ?_
    rotate_left
    · (intro w hSw; (try dsimp only at hSw); go_simp; try with_reducible rfl)
    simp only [Act.put, List.getElem_toArray, List.getElem_cons_zero, List.getElem_cons_succ, List.setIfInBounds_toArray, List.set_cons_zero, List.set_cons_succ]
    refine wpAnyH_take (i := 5) (v := ?_) rfl (by kernel_rfl) (by kernel_rfl) (by kernel_rfl) (fun c a w h => h) (Or.inl ⟨by rfl, ?_⟩) hHeld ?_
    rotate_left
    · (intro w hSw; (try dsimp only at hSw); go_simp; try with_reducible rfl)
    simp only [Act.put, List.getElem_toArray, List.getElem_cons_zero, List.getElem_cons_succ, List.setIfInBounds_toArray, List.set_cons_zero, List.set_cons_succ]
    refine wpAnyH_take (i := 6) (v := ?_) rfl (by kernel_rfl) (by kernel_rfl) (by kernel_rfl) (fun c a w h => h) (Or.inl ⟨by rfl, ?_⟩) hHeld ?_
    rotate_left
    · (intro w hSw; (try dsimp only at hSw); go_simp; try with_reducible rfl)
    simp only [Act.put, List.getElem_toArray, List.getElem_cons_zero, List.getElem_cons_succ, List.setIfInBounds_toArray, List.set_cons_zero, List.set_cons_succ]
    refine wpAnyH_take (i := 7) (v := ?_) rfl (by kernel_rfl) (by kernel_rfl) (by kernel_rfl) (fun c a w h => h) (Or.inl ⟨by rfl, ?_⟩) hHeld ?_
    rotate_left
    · (intro w hSw; (try dsimp only at hSw); go_simp; try with_reducible rfl)
    simp only [Act.put, List.getElem_toArray, List.getElem_cons_zero, List.getElem_cons_succ, List.setIfInBounds_toArray, List.set_cons_zero, List.set_cons_succ]
    refine wpAnyH_take (i := 8) (v := ?_) rfl (by kernel_rfl) (by kernel_rfl) (by kernel_rfl) (fun c a w h => h) (Or.inl ⟨by rfl, ?_⟩) hHeld ?_
    rotate_left
    · (intro w hSw; (try dsimp only at hSw); go_simp; try with_reducible rfl)
    simp only [Act.put, List.getElem_toArray, List.getElem_cons_zero, List.getElem_cons_succ, List.setIfInBounds_toArray, List.set_cons_zero, List.set_cons_succ]
    refine wpAnyH_take (i := 9) (v := ?_) rfl (by kernel_rfl) (by kernel_rfl) (by kernel_rfl) (fun c a w h => h) (Or.inl ⟨by rfl, ?_⟩) hHeld ?_
    rotate_left
    · (intro w hSw; (try dsimp only at hSw); go_simp; try with_reducible rfl)
    simp only [Act.put, List.getElem_toArray, List.getElem_cons_zero, List.getElem_cons_succ, List.setIfInBounds_toArray, List.set_cons_zero, List.set_cons_succ]
    refine wpAnyH_take (i := 10) (v := ?_) rfl (by kernel_rfl) (by kernel_rfl) (by kernel_rfl) (fun c a w h => h) (Or.inl ⟨by rfl, ?_⟩) hHeld ?_
    rotate_left
    · (intro w hSw; (try dsimp only at hSw); go_simp; try with_reducible rfl)
    simp only [Act.put, List.getElem_toArray, List.getElem_cons_zero, List.getElem_cons_succ, List.setIfInBounds_toArray, List.set_cons_zero, List.set_cons_succ]
    refine wpAnyH_take (i := 11) (v := ?_) rfl (by kernel_rfl) (by kernel_rfl) (by kernel_rfl) (fun c a w h => h) (Or.inl ⟨by rfl, ?_⟩) hHeld ?_
    rotate_left
    · (intro w hSw; (try dsimp only at hSw); go_simp; try with_reducible rfl)
    simp only [Act.put, List.getElem_toArray, List.getElem_cons_zero, List.getElem_cons_succ, List.setIfInBounds_toArray, List.set_cons_zero, List.set_cons_succ]
    refine wpAnyH_take (i := 12) (v := ?_) rfl (by kernel_rfl) (by kernel_rfl) (by kernel_rfl) (fun c a w h => h) (Or.inl ⟨by rfl, ?_⟩) hHeld ?_
    rotate_left
    · (intro w hSw; (try dsimp only at hSw); go_simp; try with_reducible rfl)
    simp only [Act.put, List.getElem_toArray, List.getElem_cons_zero, List.getElem_cons_succ, List.setIfInBounds_toArray, List.set_cons_zero, List.set_cons_succ]
    refine wpAnyH_ready (rs := [13]) (by kernel_rfl) (by simp) ?_
    refine AllReadyH.cons rfl (fun K hK => ?_) AllReadyH.nil
    go_simp
    refine kr.mono ?_
    rintro e w6 ⟨rfl, hb6⟩
    have h6 := H5d.out.right HS5.out hb6
    have HBr6 := S.hid (H5d.out.rb HS5.out hb6)
    have HX5 := S.hid (sl_keep HX4.out (fun i h1 h2 => RXD.kp hb6 i h2 (HNX.out i h1)))
    obtain ⟨G6, ev6, qv6, h6⟩ := h6
    have s6 := h6.c6.2
    have HSZ := S.hid (Nat.le_trans (Nat.le_trans HBC.out.size HSB5.out) HBr6.out.size)
    have HB5 := S.hid ((((HBC.out.mono hB).drew).trans HBb.out).drew.trans HBr6.out)
    have HW5 := S.hid h6.ww
    clear kr hb6 h6 HBr6
    refine hK.out _ _ s6 (fun hHeld => ?_)
    clear hK K
    try simp only [Act.put, List.getElem_toArray, List.getElem_cons_zero, List.getElem_cons_succ, List.setIfInBounds_toArray, List.set_cons_zero, List.set_cons_succ]
    refine wpAnyH_ready (rs := [14]) (by kernel_rfl) (by simp) ?_
    refine AllReadyH.cons rfl (fun K hK => ?_) AllReadyH.nil
    go_simp
    refine hK.out _ _ s6 (fun hHeld => ?_)
    clear hK K
    refine wpAnyH_done (by kernel_rfl) ?_ _
    clear hHeld
    try simp only [Act.put, List.getElem_toArray, List.getElem_cons_zero, List.getElem_cons_succ, List.setIfInBounds_toArray, List.set_cons_zero, List.set_cons_succ]
    have HC5 := S.hid (xD_C (n : Int) HC.out HRC.out hwf)
    have HR5 := S.hid (xR_C (n : Int) HC.out HRC.out)
    have HT5 := S.hid (xM_ton (n : Int) D R m)
    clear H3 HBb HX HBC s6 HC HRC HFQ H5d HX4 HS5
    have ks := stacks_any HW5.out
    go_wp2_with fail
    refine ks.mono ?_
    rintro e w6 ⟨rfl, hb6⟩
    have hW6 := HW5.out.below hb6
    have kn := near_any hW6 (by have := HT5.out; omega) px cx X hXl HXC.out (slUN (sl_keep HX5.out (fun i h1 h2 => hb6.block i h2)))
    have HB6 := S.hid (HB5.out.trans (hb6.mono (Nat.le_trans hB HSZ.out)))
    have HW6 := S.hid hW6
    clear ks hb6 hW6 HW5 HX5 HB5
    go_wp2_with fail
    refine kn.mono ?_
    rintro e w7 ⟨rfl, hb7⟩
    have hsz6 : B ≤ w6.heap.size := Nat.le_trans hB HB6.out.size
    have HF := S.hid (And.intro (HW6.out.below hb7) (HB6.out.trans (hb7.mono hsz6)))
    clear kn hb7 HW6 HB6
    go_wp2
    go_ret
    exact ⟨rfl, _, _, _, _, _, _, _, HF.out.1, HC5.out, HR5.out, HT5.out, HF.out.2⟩
end
end Go.Proofs.YtgponcjjnjpfkabGreat.L
/-! PrimPlays: steps of the reference's side; a script. -/
namespace Go.Proofs.YtgponcjjnjpfkabGreat.L
open Go.RowKit
open Go.Proofs
open P
set_option linter.unusedVariables false
set_option linter.unusedSimpArgs false
set_option maxHeartbeats 20000000
set_option maxRecDepth 100000
section
variable {W W' : World} {B g bd br bm bx bq bz : Nat} {F G : Nat → Prop} {ev qv : Value} {D D' D1 : List Int} {R R' R1 : List (Int × Int)} {m m' m1 : M.MS}
theorem RF.pushD (h : RF W B bx bq bz G ev qv D R m) (hx : ∃ ev', S.EV W' B bx ev' D1 ∧ S.Nw W ev ev') (ha : S.At bx W W') : RXD W W' B bx bq bz G ev qv D1 R m := by
  obtain ⟨ev', h1, h2⟩ := hx
  have ne := xq_ne h.x h.y
  exact ⟨ev', qv, G, ⟨h1, QVk h.y fun i hi e => ha.block i hi (by rcases e with rfl | e; exact ne.1.symm; exact (ne.2.2 i e).1), h.z.kept fun i hi e => ha.block i hi fun f => h.nx (f ▸ e), h.nx, h.nq, fun g e f => (h2 g e).elim (fun x => h.nev g x f) (fun x => by have := h.gl g f; omega), h.nqv, fun i e => Nat.lt_of_lt_of_le (h.gl i e) ha.size⟩, ⟨ha.os, ha.tape, ha.output, ha.size, fun i hi n => ha.block i hi fun f => n (.inl f)⟩, h2, Nwr _ _, fun _ e => .inl e⟩
theorem RF.pushR (h : RF W B bx bq bz G ev qv D R m) (hx : ∃ qv', S.QV W' B bq qv' R1 ∧ S.Nw W qv qv') (ha : S.At bq W W') : RXD W W' B bx bq bz G ev qv D R1 m := by
  obtain ⟨qv', h1, h2⟩ := hx
  have ne := xq_ne h.x h.y
  exact ⟨ev, qv', G, ⟨EVk h.x fun i hi e => ha.block i hi (by rcases e with rfl | e; exact ne.1; exact (ne.2.1 i e).2), h1, h.z.kept fun i hi e => ha.block i hi fun f => h.nq (f ▸ e), h.nx, h.nq, h.nev, fun g e f => (h2 g e).elim (fun x => h.nqv g x f) (fun x => by have := h.gl g f; omega), fun i e => Nat.lt_of_lt_of_le (h.gl i e) ha.size⟩, ⟨ha.os, ha.tape, ha.output, ha.size, fun i hi n => ha.block i hi fun f => n (.inr (.inl f))⟩, Nwr _ _, h2, fun _ e => .inl e⟩
theorem RF.mem (h : RF W B bx bq bz G ev qv D R m) (k : M.RD W W' G bz m1) : RXD W W' B bx bq bz G ev qv D R m1 := by
  have lt : ∀ i, i < W.heap.size → ¬ G i → ¬ M.gr G W W' i := fun i hi n f => f.elim n fun e => by have := e.1; omega
  exact ⟨ev, qv, M.gr G W W', ⟨EVk h.x fun i hi e => k.2.block i hi (by rcases e with rfl | e; exact h.nx; exact h.nev i e), QVk h.y fun i hi e => k.2.block i hi (by rcases e with rfl | e; exact h.nq; exact h.nqv i e), k.1, lt _ (S.lt_of h.x.blk) h.nx, lt _ (S.lt_of h.y.blk) h.nq, fun g e => lt g (h.x.row.lt g e).2 (h.nev g e), fun g e => lt g (h.y.row.lt g e).2 (h.nqv g e), fun i e => e.elim (fun x => Nat.lt_of_lt_of_le (h.gl i x) k.2.size) (fun x => x.2)⟩, ⟨k.2.os, k.2.tape, k.2.output, k.2.size, fun i hi n => k.2.block i hi fun f => n (.inr (.inr f))⟩, Nwr _ _, Nwr _ _, fun i e => e.imp id fun x => x.1⟩
end
structure OpD where
  k : Int
  a : Int
  v : Value
  u : Value
  l : List Int
  m : List (Int × Int)
  at_ : Int
  x : UInt8
/-- A script in the world. -/
def ScS (W : World) (p : Option Addr) (ps : List OpD) : Prop := ∀ (i : Nat) t, ps[i]? = some t → (∃ b o, p = some ⟨b, o, none⟩ ∧ W.cell? ⟨b, o + i * 6, none⟩ = some (.int .i64 t.k) ∧ W.cell? ⟨b, o + i * 6 + 1, none⟩ = some (.int .i64 t.a) ∧ W.cell? ⟨b, o + i * 6 + 2, none⟩ = some t.v ∧ W.cell? ⟨b, o + i * 6 + 3, none⟩ = some t.u ∧ W.cell? ⟨b, o + i * 6 + 4, none⟩ = some (.int .u16 t.at_) ∧ W.cell? ⟨b, o + i * 6 + 5, none⟩ = some (.int .u8 (M.bt t.x))) ∧
  (S.Ls S.eU 1 W t.v t.l ∧ S.Ls S.eK 2 W t.u t.m) ∧ (t.l.length * 2 + 4096 ≤ S.room ∧ t.m.length * 16 + 4096 ≤ S.room) ∧ (∀ x ∈ t.l, C.C x) ∧ (∀ q ∈ t.m, C.C q.2) ∧ C.C t.at_
theorem ton_st (m : M.MS) (z : Int) (x : UInt8) (T : Nat) (h : m.tones.length ≤ T) : (M.st m z x).tones.length ≤ T + 3 := by have := st_tonesK m z x; omega
end Go.Proofs.YtgponcjjnjpfkabGreat.L
/-! Image, walked. -/
namespace Go.Proofs.YtgponcjjnjpfkabGreat.M
open Go.RowKit
open Go.Proofs
set_option linter.unusedVariables false
set_option linter.unusedSimpArgs false
set_option maxHeartbeats 4000000
set_option maxRecDepth 100000
theorem image_has (b : Nat) (w : World) {F : Nat → Prop} {m : MS} (hm : HasM w F b m) :
    Calls Tryz.prog 38 #[.pointer (some ⟨b, 0, none⟩)] w fun e w' => ∃ u rv sv gs N1 N2, e = .returned (.agg (imgC u rv sv m).toArray) ∧ ImO w' w.heap.size u rv sv (inO m 16) m.ram m.scr gs N1 N2 ∧ Below w.heap.size w w' := by
  obtain ⟨w1, hw1⟩ : ∃ w1, w1 = (w.alloc (.cells #[.slice none 0 0, .slice none 0 0, .slice none 0 0, .int .u8 0, .int .u8 0, .int .u16 0, .int .u8 0, .int .u16 0] 108)) := ⟨_, rfl⟩
  have hb1 : Below w.heap.size w w1 := by rw [hw1]; exact (Below.refl _ w).alloc (Nat.le_refl _) _
  have hz1 : w1.heap.size = w.heap.size + 1 := by rw [hw1]; simp
  have hr1 : w1.heap[w.heap.size]? = some (.cells [.slice none 0 0, .slice none 0 0, .slice none 0 0, .int .u8 0, .int .u8 0, .int .u16 0, .int .u8 0, .int .u16 0].toArray 108 (0, 0)) := by rw [hw1]; exact heap_alloc_new w _
  have hm1 := hm.below hb1
  have hc1 := inOrder_any b w1.drew (hm1.below (Below.refl _ _).drew)
  have hreg : ∀ {W : World}, HasM W F b m → ∀ (i : Nat) (v : Value), (∀ tv, (regs m tv)[i]? = some v) → W.cell? ⟨b, 19457 + i, none⟩ = some v := by
    intro W h i v hv
    obtain ⟨mb, L, tv, h⟩ := h
    exact cell_of W b (19457 + i) _ 104 _ h.blk ((mcells_reg mb m tv h.wf i).trans (hv tv))
  have hall : ∀ {W : World}, HasM W F b m → W.cell? ⟨b, 19457, none⟩ = some (.int .u8 m.ch) ∧ W.cell? ⟨b, 19458, none⟩ = some (.int .u8 m.pad) ∧ W.cell? ⟨b, 19459, none⟩ = some (.int .u16 m.pitch) ∧ W.cell? ⟨b, 19460, none⟩ = some (.int .u8 m.vol) ∧ W.cell? ⟨b, 19461, none⟩ = some (.int .u16 m.time) :=
    fun h => ⟨hreg h 0 _ fun _ => rfl, hreg h 1 _ fun _ => rfl, hreg h 2 _ fun _ => rfl, hreg h 3 _ fun _ => rfl, hreg h 4 _ fun _ => rfl⟩
  have hram : ∀ {W : World}, HasM W F b m → Sl W (.slice (some ⟨b, 1, none⟩) 16384 16384) m.ram := by
    intro W h
    obtain ⟨mb, L, tv, h⟩ := h
    refine .inr ⟨⟨b, 1, none⟩, 16384, by rw [h.wf.ram], by rw [h.wf.ram]; omega, fun j x hj => ?_⟩
    rw [Addr.add_lit]; exact cell_of W b _ _ 104 _ h.blk (mcells_ram mb m tv h.wf j x hj)
  have hrl : m.ram.length ≤ room := by rw [hm.wf.ram]; unfold room; omega
  have s0 := hall (W := w1.drew) (hm1.below (Below.refl _ _).drew)
  have hrp : 0 < m.ram.length := by rw [hm.wf.ram]; omega
  have hsp : 0 < m.scr.length := by rw [hm.wf.scr]; omega
  have HA : Hid _ := @hall
  have HR : Hid _ := @hram
  have HM1 : Hid _ := hm1
  have HR1 : Hid _ := hr1
  have HB1 : Hid _ := hb1
  have HZ1 : Hid _ := hz1
  have hFin : ∀ w2 w3 w4 : World, Below w1.drew.heap.size w1.drew w2 → Below w2.heap.size w2 w3 → Below w3.heap.size w3 w4 → w4.heap[w.heap.size]? = some (.cells [.slice none 0 0, .slice none 0 0, .slice none 0 0, .int .u8 0, .int .u8 0, .int .u16 0, .int .u8 0, .int .u16 0].toArray 108 (0, 0)) := by
    intro w2 w3 w4 a1 a2 a3
    have z1 : w1.drew.heap.size = w.heap.size + 1 := hz1
    have z2 := a1.size
    have z3 := a2.size
    exact (a3.block _ (by omega)).trans ((a2.block _ (by omega)).trans ((a1.block _ (by omega)).trans hr1))
  have hne : b ≠ w.heap.size := by obtain ⟨mb, L, tv, h⟩ := hm; have := lt_of h.blk; omega
  have HF : Hid _ := hFin
  clear hall hram hm1 hreg hr1 hb1 hz1 hFin hm
  go_enter Tryz.func38, Tryz.ntmps38
  go_wp2_with fail
  rw [← hw1]
  clear hw1
  go_region_held (fun w' => w'.cell? ⟨b, 19457, none⟩ = some (.int .u8 m.ch) ∧ w'.cell? ⟨b, 19458, none⟩ = some (.int .u8 m.pad) ∧ w'.cell? ⟨b, 19459, none⟩ = some (.int .u16 m.pitch) ∧ w'.cell? ⟨b, 19460, none⟩ = some (.int .u8 m.vol) ∧ w'.cell? ⟨b, 19461, none⟩ = some (.int .u16 m.time))
    (first | (with_reducible exact s0) | (with_reducible exact s2) | (with_reducible exact s3) | (with_reducible exact s4) | (simp only [cell_far _ w.heap.size _ _ b _ hne]; with_reducible exact s4))
    (first
      | (go_at_call 64; refine hc1.mono ?_; rintro e w2 ⟨u, gs, rfl, hO2, hb2⟩; obtain ⟨p2, cp2, rfl⟩ := own_form hO2.row; have hm2 := HasM.below HM1.out (W' := w2) ⟨hb2.os, hb2.tape, hb2.output, hb2.size, hb2.block⟩; have s2 := HA.out hm2; have hc2 := clone_any _ m.ram hrl w2 (HR.out hm2); have HO2 : Hid _ := hO2; have HB2 : Hid _ := hb2; have HM2 : Hid _ := hm2; clear hO2 hb2 hm2 hc1 s0)
      | (go_at_call 65; refine hc2.mono ?_; rintro e w3 ⟨rv, rfl, hO3, hb3⟩; obtain ⟨g3, cp3, rfl⟩ := own_pos hO3 hrp; have hm3 := HasM.below HM2.out hb3; have s3 := HA.out hm3; have hc3 := screen_any b w3 hm3; have HO3 : Hid _ := hO3; have HB3 : Hid _ := hb3; have HM3 : Hid _ := hm3; clear hO3 hb3 hm3 hc2 s2)
      | (go_at_call 66; refine hc3.mono ?_; rintro e w4 ⟨sv, rfl, hO4, hb4⟩; obtain ⟨g4, cp4, rfl⟩ := own_pos hO4 hsp; have s4 := HA.out (HasM.below HM3.out hb4); have hr4 := HF.out w2 w3 w4 HB2.out HB3.out hb4; have HO4 : Hid _ := hO4; have HB4 : Hid _ := hb4; clear hO4 hb4 hc3 s3; have f0 := cell_of w4 w.heap.size 0 _ 108 _ hr4 rfl; have f1 := cell_of w4 w.heap.size 1 _ 108 _ hr4 rfl; have f2 := cell_of w4 w.heap.size 2 _ 108 _ hr4 rfl; have f3 := cell_of w4 w.heap.size 3 _ 108 _ hr4 rfl; have f4 := cell_of w4 w.heap.size 4 _ 108 _ hr4 rfl; have f5 := cell_of w4 w.heap.size 5 _ 108 _ hr4 rfl; have f6 := cell_of w4 w.heap.size 6 _ 108 _ hr4 rfl; have f7 := cell_of w4 w.heap.size 7 _ 108 _ hr4 rfl; have z0 := fun i => frozen_of w4 w.heap.size i _ 108 hr4; clear hr4))
  all_goals
    have hx := image_end w w1 w2 w3 w4 m p2 cp2 g3 cp3 g4 cp4 gs HB1.out HZ1.out HB2.out HB3.out HB4.out HO2.out HO3.out HO4.out HR1.out
    go_wp2_with fail
    (try simp only [Exit.inBlock, Exit.then])
    have q0 := cell_of _ w.heap.size 0 _ 108 _ hx.1 rfl
    have q1 := cell_of _ w.heap.size 1 _ 108 _ hx.1 rfl
    have q2 := cell_of _ w.heap.size 2 _ 108 _ hx.1 rfl
    have q3 := cell_of _ w.heap.size 3 _ 108 _ hx.1 rfl
    have q4 := cell_of _ w.heap.size 4 _ 108 _ hx.1 rfl
    have q5 := cell_of _ w.heap.size 5 _ 108 _ hx.1 rfl
    have q6 := cell_of _ w.heap.size 6 _ 108 _ hx.1 rfl
    have q7 := cell_of _ w.heap.size 7 _ 108 _ hx.1 rfl
    refine bodyPost_ret (w := st8 w4 w.heap.size (.slice p2 (inO m 16).length cp2) (.slice (some ⟨g3, 0, none⟩) m.ram.length cp3) (.slice (some ⟨g4, 0, none⟩) m.scr.length cp4) m) (v := .agg (imgC (.slice p2 (inO m 16).length cp2) (.slice (some ⟨g3, 0, none⟩) m.ram.length cp3) (.slice (some ⟨g4, 0, none⟩) m.scr.length cp4) m).toArray) ?_ rfl ⟨_, _, _, _, _, _, rfl, hx.2.1, hx.2.2⟩
    clear hx
    simp [results, Tryz.results38, go_sem, q0, q1, q2, q3, q4, q5, q6, q7, imgC]
end Go.Proofs.YtgponcjjnjpfkabGreat.M
