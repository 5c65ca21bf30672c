import Derived.Test.YtgponcjjnjpfkabGreatG12
import Derived.WalkKit
import Derived.ProofKit
import Derived.OpenShut
import Derived.ChangeOld
import Derived.Below
import Derived.Deep.Slices
import Derived.Deep.SlicePairs
import Derived.SizedLaws
/-! The law's does. -/
namespace Go.Proofs.YtgponcjjnjpfkabGreat.L
open Go.RowKit
open Go.Proofs
open P
set_option linter.unusedVariables false
set_option linter.unusedSimpArgs false
set_option maxHeartbeats 20000000
set_option maxRecDepth 100000
def DR (W W' : World) (B g bd br bm bx bq bz : Nat) (T : Nat) : Prop := ∃ F G ev qv D R m, WW W' B g bd br bm bx bq bz F G ev qv D R m ∧ (∀ x ∈ D, C.C x) ∧ (∀ q ∈ R, C.C q.2) ∧ m.tones.length ≤ T ∧ Below B W W'
theorem sl_keep {W W' : World} {lo : Nat} {p : Option Addr} {c : Nat} {X : List Int} (h : S.RowU W lo (.slice p X.length c) X) (k : ∀ i, lo ≤ i → i < W.heap.size → W'.heap[i]? = W.heap[i]?) : S.RowU W' lo (.slice p X.length c) X :=
  S.own_kept h fun g e hg => k g (h.lt g e).1 hg
theorem RXD.kp {W W' : World} {B bx bq bz : Nat} {G : Nat → Prop} {ev qv : Value} {D : List Int} {R : List (Int × Int)} {m : M.MS} (h : RXD W W' B bx bq bz G ev qv D R m) (i : Nat) (hi : i < W.heap.size) (n : ¬ (i = bx ∨ i = bq ∨ G i)) : W'.heap[i]? = W.heap[i]? := by
  obtain ⟨ev', qv', G', r, t, nw, nw', hG⟩ := h
  exact t.block i hi n
theorem slUN {W : World} {B : Nat} {p : Option Addr} {c : Nat} {l : List Int} (h : S.RowU W B (.slice p l.length c) l) : S.Sl S.eU 1 W p l := by
  obtain ⟨p', c', e, _, k⟩ := h.ls.ex
  cases e
  exact k
section
variable {W : World} {B g bd br bm bx bq bz : Nat} {F G : Nat → Prop} {ev qv : Value} {D : List Int} {R : List (Int × Int)} {m : M.MS}
theorem does_any (op : Int) (h : WW W B g bd br bm bx bq bz F G ev qv D R m) (hB : B ≤ W.heap.size) (hC : ∀ x ∈ D, C.C x) (hRC : ∀ q ∈ R, C.C q.2) (ht : m.tones.length ≤ 900000) :
    Calls Tryz.prog 7 #[.pointer (some ⟨g, 0, none⟩), .int .i64 op] W fun e W' => e = .returned (.bool true) ∧ DR W W' B g bd br bm bx bq bz (m.tones.length + 3) := by
  have hwf := M.HasM.wf h.p.m
  obtain ⟨F0, G0, h2⟩ : ∃ F0 G0, W2 W B g bd br bm bx bq bz F0 G0 ev qv D R m D R m := ⟨_, _, W2.make h⟩
  clear h
  have hDl : D.length ≤ 256 := h2.x.len
  obtain ⟨pe, ce, hev⟩ := S.ex_slice h2.x.row
  obtain ⟨N, hN⟩ : ∃ N, D.length = N := ⟨_, rfl⟩
  rw [hN] at hev
  subst hev
  obtain ⟨Q, hQ⟩ : ∃ Q, Q = D.take (D.length - 3) := ⟨_, rfl⟩
  obtain ⟨X, hX⟩ : ∃ X, X = D.drop (D.length - 3) := ⟨_, rfl⟩
  have hQX : D = Q ++ X := by rw [hQ, hX, List.take_append_drop]
  have hXl : X.length ≤ 3 := by rw [hX, List.length_drop]; omega
  have hQl : Q.length = N - 3 := by rw [hQ, List.length_take, hN]; omega
  have hXC : ∀ x ∈ X, C.C x := fun x e => hC x (by rw [hQX]; exact List.mem_append.2 (.inr e))
  have hNe : N = Q.length + X.length := by rw [← hN, hQX, List.length_append]
  obtain ⟨⟨c0, c1, c2⟩, c3, c4, c5⟩ := h2.c6
  have ce0 := S.cell_of W bx 0 _ _ _ h2.x.blk rfl
  have hr0 := S.own_empty W 31 1
  have hb0 : Below W.heap.size W (W.alloc (.cells #[] 31)) := (Below.refl _ _).alloc (Nat.le_refl _) _
  have d3 := bcell hb0 c3
  have de0 := bcell hb0 ce0
  obtain ⟨vx, hvx⟩ : ∃ vx, vx = Value.slice (if ce = Q.length then pe else pe.map (·.add Q.length)) X.length (ce - Q.length) := ⟨_, rfl⟩
  have hs0 : S.Cs (W.alloc (.cells #[] 31)) vx 1 X.length (S.en S.eU X) := by rw [hvx]; exact (ls_from (by rw [← hQX]; exact h2.x.row.ls.below hb0)).cs S.hU (by omega) S.oneU
  have hNT : ∀ i, W.heap.size ≤ i → ¬ TP bd br F0 i := fun i hi => by
    rintro (e | e | e)
    · have := S.lt_of h2.p.d.1; omega
    · have := S.lt_of h2.p.r.1; omega
    · have := h2.fl i e; omega
  have hNX : ∀ i, W.heap.size ≤ i → ¬ (i = bx ∨ i = bq ∨ G0 i) := fun i hi => by
    rintro (e | e | e)
    · have := S.lt_of h2.x.blk; omega
    · have := S.lt_of h2.y.blk; omega
    · have := h2.gl i e; omega
  have HNT := S.hid hNT
  have HNX := S.hid hNX
  clear hNT hNX
  have HXC := S.hid hXC
  have H2 := S.hid h2
  have HC := S.hid hC
  have HRC := S.hid hRC
  have HNQ := S.hid (And.intro hQl hNe)
  have HVX := S.hid hvx
  have hN256 : N ≤ 256 := by omega
  clear h2 hC hRC hXC hQ hX hQX hvx hN hDl c0 c1 c2 c4 c5 hQl hNe
  have y1 : wrap64 ((N : Int) - 3) = (N : Int) - 3 := by simp [wrap64]; omega
  have y2 : IntKind.i64.wrap ((N : Int) - 3) = (N : Int) - 3 := S.i64_id _ (by omega) (by omega)
  go_enter Tryz.func7, Tryz.ntmps7
  go_upto_region 2 with fail
  try simp only [Act.put, List.getElem_toArray, List.getElem_cons_zero, List.getElem_cons_succ, List.setIfInBounds_toArray, List.set_cons_zero, List.set_cons_succ]
  go_cut [6] (fun s6 wc => ∃ px cx, s6 = .slice px X.length cx ∧ S.RowU wc W.heap.size (.slice px X.length cx) X ∧ Below W.heap.size W wc)
  case first =>
    as_aux_lemma =>
      by_cases hq : 3 < N
      · have f0 : decide ((0 : Int) < (N : Int) - 3) = true := decide_eq_true (by omega)
        have hsl : ∀ W, (Instr.sliceAt 22 (.slice pe N ce) (some (.int .i64 ((N : Int) - 3))) none none).run Tryz.prog W = .ok vx W := fun W => by
          rw [show ((N : Int) - 3) = (Q.length : Int) by have := HNQ.out; omega, slice_fromU W pe N ce Q.length (by have := HNQ.out; omega), HVX.out, show N - Q.length = X.length by have := HNQ.out; omega]
        clear H2 HC HRC HXC
        go_wp2_with (first | (at_builtin; refine S.wpList_append_row _ rfl _ _ 22 31 _ 1 2 Tryz.underlying22 S.info32 rfl (by decide) rfl W.heap.size _ 0 [] rfl hr0 _ X.length (S.en S.eU X) rfl hs0 (by unfold S.room; omega) (by unfold maxLen; omega) hb0.size ?_))
        intro v1 w4 hr1 hg1
        have hb1 : Below W.heap.size W w4 := hg1.belowAll (fun g e => (hr0.lt g e).1) hb0 (Nat.le_refl _)
        replace hr1 : w4.ownsRow W.heap.size 31 1 v1 X.length (S.en S.eU X) := by simpa using hr1
        obtain ⟨px, cx, rfl⟩ := S.ex_slice hr1
        have HR1 := S.hid (And.intro (show S.RowU w4 W.heap.size (.slice px X.length cx) X from hr1) hb1)
        clear hr0 hs0 hg1 hb0 hb1 hr1 hsl
        go_wp2
        go_meet
        case rel => exact ⟨px, cx, rfl, HR1.out.1, HR1.out.2⟩
      · have f0 : decide ((0 : Int) < (N : Int) - 3) = false := decide_eq_false (by omega)
        have hsl : ∀ W, (Instr.sliceAt 22 (.slice pe N ce) (some (.int .i64 (0 : Int))) none none).run Tryz.prog W = .ok vx W := fun W => by
          rw [show (0 : Int) = (Q.length : Int) by have := HNQ.out; omega, slice_fromU W pe N ce Q.length (by have := HNQ.out; omega), HVX.out, show N - Q.length = X.length by have := HNQ.out; omega]
        clear H2 HC HRC HXC
        go_wp2_with (first | (at_builtin; refine S.wpList_append_row _ rfl _ _ 22 31 _ 1 2 Tryz.underlying22 S.info32 rfl (by decide) rfl W.heap.size _ 0 [] rfl hr0 _ X.length (S.en S.eU X) rfl hs0 (by unfold S.room; omega) (by unfold maxLen; omega) hb0.size ?_))
        intro v1 w4 hr1 hg1
        have hb1 : Below W.heap.size W w4 := hg1.belowAll (fun g e => (hr0.lt g e).1) hb0 (Nat.le_refl _)
        replace hr1 : w4.ownsRow W.heap.size 31 1 v1 X.length (S.en S.eU X) := by simpa using hr1
        obtain ⟨px, cx, rfl⟩ := S.ex_slice hr1
        have HR1 := S.hid (And.intro (show S.RowU w4 W.heap.size (.slice px X.length cx) X from hr1) hb1)
        clear hr0 hs0 hg1 hb0 hb1 hr1 hsl
        go_wp2
        go_meet
        case rel => exact ⟨px, cx, rfl, HR1.out.1, HR1.out.2⟩
  case rest =>
    obtain ⟨px, cx, rfl, hrow, hbc⟩ := hcut
    have HX := S.hid hrow
    have HBC := S.hid hbc
    have hB1 : B ≤ wc.heap.size := Nat.le_trans hB hbc.size
    clear hr0 hb0 d3 de0 hs0 hrow hbc y1 y2 c3 ce0
    have h3 := H2.out.below HBC.out
    have h3d := h3.below ((Below.refl _ wc).drew)
    have s0 := h3d.c6.1
    by_cases hp : plain op = true
    case neg =>
      as_aux_lemma =>
        have hp' : plain op = false := by simpa using hp
        have kd := do_not op hp' (some ⟨bd, 0, none⟩) (some ⟨br, 0, none⟩) (some ⟨bm, 0, none⟩) wc.drew
        have H3 := S.hid h3
        have HBd := S.hid ((Below.refl wc.heap.size wc).drew)
        clear h3 h3d H2
        go_upto_region 3 with fail
        try simp only [Act.put, List.getElem_toArray, List.getElem_cons_zero, List.getElem_cons_succ, List.setIfInBounds_toArray, List.set_cons_zero, List.set_cons_succ]
        refine wp_region_held_drew (S := (fun w' : World => w'.cell? ⟨g, 0, none⟩ = some (.pointer (some ⟨bd, 0, none⟩)) ∧ w'.cell? ⟨g, 1, none⟩ = some (.pointer (some ⟨br, 0, none⟩)) ∧ w'.cell? ⟨g, 2, none⟩ = some (.pointer (some ⟨bm, 0, none⟩)))) (by kernel_rfl) s0 (fun hHeld => ?_)
        clear s0
        refine wpAnyH_take (i := 0) (v := ?_) rfl (by kernel_rfl) (by kernel_rfl) (by kernel_rfl) (fun c a w h => h) (Or.inl ⟨by rfl, ?_⟩) hHeld ?_
        rotate_left
        · (intro w hSw; (try dsimp only at hSw); go_simp; try with_reducible rfl)
        simp only [Act.put, List.getElem_toArray, List.getElem_cons_zero, List.getElem_cons_succ, List.setIfInBounds_toArray, List.set_cons_zero, List.set_cons_succ]
        refine wpAnyH_take (i := 1) (v := ?_) rfl (by kernel_rfl) (by kernel_rfl) (by kernel_rfl) (fun c a w h => h) (Or.inl ⟨by rfl, ?_⟩) hHeld ?_
        rotate_left
        · (intro w hSw; (try dsimp only at hSw); go_simp; try with_reducible rfl)
        simp only [Act.put, List.getElem_toArray, List.getElem_cons_zero, List.getElem_cons_succ, List.setIfInBounds_toArray, List.set_cons_zero, List.set_cons_succ]
        refine wpAnyH_take (i := 2) (v := ?_) rfl (by kernel_rfl) (by kernel_rfl) (by kernel_rfl) (fun c a w h => h) (Or.inl ⟨by rfl, ?_⟩) hHeld ?_
        rotate_left
        · (intro w hSw; (try dsimp only at hSw); go_simp; try with_reducible rfl)
        simp only [Act.put, List.getElem_toArray, List.getElem_cons_zero, List.getElem_cons_succ, List.setIfInBounds_toArray, List.set_cons_zero, List.set_cons_succ]
        refine wpAnyH_take (i := 3) (v := ?_) rfl (by kernel_rfl) (by kernel_rfl) (by kernel_rfl) (fun c a w h => h) (Or.inl ⟨by rfl, ?_⟩) hHeld ?_
        rotate_left
        · (intro w hSw; (try dsimp only at hSw); go_simp; try with_reducible rfl)
        simp only [Act.put, List.getElem_toArray, List.getElem_cons_zero, List.getElem_cons_succ, List.setIfInBounds_toArray, List.set_cons_zero, List.set_cons_succ]
        refine wpAnyH_take (i := 4) (v := ?_) rfl (by kernel_rfl) (by kernel_rfl) (by kernel_rfl) (fun c a w h => h) (Or.inl ⟨by rfl, ?_⟩) hHeld ?_
        rotate_left
        · (intro w hSw; (try dsimp only at hSw); go_simp; try with_reducible rfl)
        simp only [Act.put, List.getElem_toArray, List.getElem_cons_zero, List.getElem_cons_succ, List.setIfInBounds_toArray, List.set_cons_zero, List.set_cons_succ]
        refine wpAnyH_take (i := 5) (v := ?_) rfl (by kernel_rfl) (by kernel_rfl) (by kernel_rfl) (fun c a w h => h) (Or.inl ⟨by rfl, ?_⟩) hHeld ?_
        rotate_left
        · (intro w hSw; (try dsimp only at hSw); go_simp; try with_reducible rfl)
        simp only [Act.put, List.getElem_toArray, List.getElem_cons_zero, List.getElem_cons_succ, List.setIfInBounds_toArray, List.set_cons_zero, List.set_cons_succ]
        refine wpAnyH_take (i := 6) (v := ?_) rfl (by kernel_rfl) (by kernel_rfl) (by kernel_rfl) (fun c a w h => h) (Or.inl ⟨by rfl, ?_⟩) hHeld ?_
        rotate_left
        · (intro w hSw; (try dsimp only at hSw); go_simp; try with_reducible rfl)
        simp only [Act.put, List.getElem_toArray, List.getElem_cons_zero, List.getElem_cons_succ, List.setIfInBounds_toArray, List.set_cons_zero, List.set_cons_succ]
        refine wpAnyH_take (i := 7) (v := ?_) rfl (by kernel_rfl) (by kernel_rfl) (by kernel_rfl) (fun c a w h => h) (Or.inl ⟨by rfl, ?_⟩) hHeld ?_
        rotate_left
        · (intro w hSw; (try dsimp only at hSw); go_simp; try with_reducible rfl)
        simp only [Act.put, List.getElem_toArray, List.getElem_cons_zero, List.getElem_cons_succ, List.setIfInBounds_toArray, List.set_cons_zero, List.set_cons_succ]
        refine wpAnyH_take (i := 8) (v := ?_) rfl (by kernel_rfl) (by kernel_rfl) (by kernel_rfl) (fun c a w h => h) (Or.inl ⟨by rfl, ?_⟩) hHeld ?_
        rotate_left
        · (intro w hSw; (try dsimp only at hSw); go_simp; try with_reducible rfl)
        simp only [Act.put, List.getElem_toArray, List.getElem_cons_zero, List.getElem_cons_succ, List.setIfInBounds_toArray, List.set_cons_zero, List.set_cons_succ]
        refine wpAnyH_take (i := 9) (v := ?_) rfl (by kernel_rfl) (by kernel_rfl) (by kernel_rfl) (fun c a w h => h) (Or.inl ⟨by rfl, ?_⟩) hHeld ?_
        rotate_left
        · (intro w hSw; (try dsimp only at hSw); go_simp; try with_reducible rfl)
        simp only [Act.put, List.getElem_toArray, List.getElem_cons_zero, List.getElem_cons_succ, List.setIfInBounds_toArray, List.set_cons_zero, List.set_cons_succ]
        refine wpAnyH_take (i := 10) (v := ?_) rfl (by kernel_rfl) (by kernel_rfl) (by kernel_rfl) (fun c a w h => h) (Or.inl ⟨by rfl, ?_⟩) hHeld ?_
        rotate_left
        · (intro w hSw; (try dsimp only at hSw); go_simp; try with_reducible rfl)
        simp only [Act.put, List.getElem_toArray, List.getElem_cons_zero, List.getElem_cons_succ, List.setIfInBounds_toArray, List.set_cons_zero, List.set_cons_succ]
        refine wpAnyH_take (i := 11) (v := ?_) rfl (by kernel_rfl) (by kernel_rfl) (by kernel_rfl) (fun c a w h => h) (Or.inl ⟨by rfl, ?_⟩) hHeld ?_
        rotate_left
        · (intro w hSw; (try dsimp only at hSw); go_simp; try with_reducible rfl)
        simp only [Act.put, List.getElem_toArray, List.getElem_cons_zero, List.getElem_cons_succ, List.setIfInBounds_toArray, List.set_cons_zero, List.set_cons_succ]
        refine wpAnyH_take (i := 12) (v := ?_) rfl (by kernel_rfl) (by kernel_rfl) (by kernel_rfl) (fun c a w h => h) (Or.inl ⟨by rfl, ?_⟩) hHeld ?_
        rotate_left
        · (intro w hSw; (try dsimp only at hSw); go_simp; try with_reducible rfl)
        simp only [Act.put, List.getElem_toArray, List.getElem_cons_zero, List.getElem_cons_succ, List.setIfInBounds_toArray, List.set_cons_zero, List.set_cons_succ]
        refine wpAnyH_ready (rs := [13]) (by kernel_rfl) (by simp) ?_
        refine AllReadyH.cons rfl (fun K hK => ?_) AllReadyH.nil
        go_simp
        refine kd.mono ?_
        rintro e w5 ⟨rfl, hb5⟩
        have hB5 := HBd.out.trans hb5
        have h5 := H3.out.below hB5
        have s5 := h5.c6.1
        have H5 := S.hid h5
        have HBb := S.hid hB5
        clear kd hb5 h5 HBd hB5
        refine hK.out _ _ s5 (fun hHeld => ?_)
        clear hK K
        try simp only [Act.put, List.getElem_toArray, List.getElem_cons_zero, List.getElem_cons_succ, List.setIfInBounds_toArray, List.set_cons_zero, List.set_cons_succ]
        refine wpAnyH_ready (rs := [14]) (by kernel_rfl) (by simp) ?_
        refine AllReadyH.cons rfl (fun K hK => ?_) AllReadyH.nil
        go_simp
        refine hK.out _ _ s5 (fun hHeld => ?_)
        clear hK K
        refine wpAnyH_done (by kernel_rfl) ?_ _
        clear hHeld
        try simp only [Act.put, List.getElem_toArray, List.getElem_cons_zero, List.getElem_cons_succ, List.setIfInBounds_toArray, List.set_cons_zero, List.set_cons_succ]
        have hB5d := HBb.out.drew
        have h5d := H3.out.below hB5d
        have s0 := h5d.c6.2
        have kr := rdo_not op hp' (some ⟨bx, 0, none⟩) (some ⟨bq, 0, none⟩) (some ⟨bz, 0, none⟩) w5.drew
        have HB5d := S.hid hB5d
        clear h5d s5 H5
        go_upto_region 4 with fail
        try simp only [Act.put, List.getElem_toArray, List.getElem_cons_zero, List.getElem_cons_succ, List.setIfInBounds_toArray, List.set_cons_zero, List.set_cons_succ]
        refine wp_region_held_drew (S := (fun w' : World => w'.cell? ⟨g, 3, none⟩ = some (.pointer (some ⟨bx, 0, none⟩)) ∧ w'.cell? ⟨g, 4, none⟩ = some (.pointer (some ⟨bq, 0, none⟩)) ∧ w'.cell? ⟨g, 5, none⟩ = some (.pointer (some ⟨bz, 0, none⟩)))) (by kernel_rfl) s0 (fun hHeld => ?_)
        clear s0
        refine wpAnyH_take (i := 0) (v := ?_) rfl (by kernel_rfl) (by kernel_rfl) (by kernel_rfl) (fun c a w h => h) (Or.inl ⟨by rfl, ?_⟩) hHeld ?_
        rotate_left
        · (intro w hSw; (try dsimp only at hSw); go_simp; try with_reducible rfl)
        simp only [Act.put, List.getElem_toArray, List.getElem_cons_zero, List.getElem_cons_succ, List.setIfInBounds_toArray, List.set_cons_zero, List.set_cons_succ]
        refine wpAnyH_take (i := 1) (v := ?_) rfl (by kernel_rfl) (by kernel_rfl) (by kernel_rfl) (fun c a w h => h) (Or.inl ⟨by rfl, ?_⟩) hHeld ?_
        rotate_left
        · (intro w hSw; (try dsimp only at hSw); go_simp; try with_reducible rfl)
        simp only [Act.put, List.getElem_toArray, List.getElem_cons_zero, List.getElem_cons_succ, List.setIfInBounds_toArray, List.set_cons_zero, List.set_cons_succ]
        refine wpAnyH_take (i := 2) (v := ?_) rfl (by kernel_rfl) (by kernel_rfl) (by kernel_rfl) (fun c a w h => h) (Or.inl ⟨by rfl, ?_⟩) hHeld ?_
        rotate_left
        · (intro w hSw; (try dsimp only at hSw); go_simp; try with_reducible rfl)
        simp only [Act.put, List.getElem_toArray, List.getElem_cons_zero, List.getElem_cons_succ, List.setIfInBounds_toArray, List.set_cons_zero, List.set_cons_succ]
        refine wpAnyH_take (i := 3) (v := ?_) rfl (by kernel_rfl) (by kernel_rfl) (by kernel_rfl) (fun c a w h => h) (Or.inl ⟨by rfl, ?_⟩) hHeld ?_
        rotate_left
        · (intro w hSw; (try dsimp only at hSw); go_simp; try with_reducible rfl)
        simp only [Act.put, List.getElem_toArray, List.getElem_cons_zero, List.getElem_cons_succ, List.setIfInBounds_toArray, List.set_cons_zero, List.set_cons_succ]
        refine wpAnyH_take (i := 4) (v := ?_) rfl (by kernel_rfl) (by kernel_rfl) (by kernel_rfl) (fun c a w h => h) (Or.inl ⟨by rfl, ?_⟩) hHeld ?_
        rotate_left
        · (intro w hSw; (try dsimp only at hSw); go_simp; try with_reducible rfl)
        simp only [Act.put, List.getElem_toArray, List.getElem_cons_zero, List.getElem_cons_succ, List.setIfInBounds_toArray, List.set_cons_zero, List.set_cons_succ]
        refine wpAnyH_take (i := 5) (v := ?_) rfl (by kernel_rfl) (by kernel_rfl) (by kernel_rfl) (fun c a w h => h) (Or.inl ⟨by rfl, ?_⟩) hHeld ?_
        rotate_left
        · (intro w hSw; (try dsimp only at hSw); go_simp; try with_reducible rfl)
        simp only [Act.put, List.getElem_toArray, List.getElem_cons_zero, List.getElem_cons_succ, List.setIfInBounds_toArray, List.set_cons_zero, List.set_cons_succ]
        refine wpAnyH_take (i := 6) (v := ?_) rfl (by kernel_rfl) (by kernel_rfl) (by kernel_rfl) (fun c a w h => h) (Or.inl ⟨by rfl, ?_⟩) hHeld ?_
        rotate_left
        · (intro w hSw; (try dsimp only at hSw); go_simp; try with_reducible rfl)
        simp only [Act.put, List.getElem_toArray, List.getElem_cons_zero, List.getElem_cons_succ, List.setIfInBounds_toArray, List.set_cons_zero, List.set_cons_succ]
        refine wpAnyH_take (i := 7) (v := ?_) rfl (by kernel_rfl) (by kernel_rfl) (by kernel_rfl) (fun c a w h => h) (Or.inl ⟨by rfl, ?_⟩) hHeld ?_
        rotate_left
        · (intro w hSw; (try dsimp only at hSw); go_simp; try with_reducible rfl)
        simp only [Act.put, List.getElem_toArray, List.getElem_cons_zero, List.getElem_cons_succ, List.setIfInBounds_toArray, List.set_cons_zero, List.set_cons_succ]
        refine wpAnyH_take (i := 8) (v := ?_) rfl (by kernel_rfl) (by kernel_rfl) (by kernel_rfl) (fun c a w h => h) (Or.inl ⟨by rfl, ?_⟩) hHeld ?_
        rotate_left
        · (intro w hSw; (try dsimp only at hSw); go_simp; try with_reducible rfl)
        simp only [Act.put, List.getElem_toArray, List.getElem_cons_zero, List.getElem_cons_succ, List.setIfInBounds_toArray, List.set_cons_zero, List.set_cons_succ]
        refine wpAnyH_take (i := 9) (v := ?_) rfl (by kernel_rfl) (by kernel_rfl) (by kernel_rfl) (fun c a w h => h) (Or.inl ⟨by rfl, ?_⟩) hHeld ?_
        rotate_left
        · (intro w hSw; (try dsimp only at hSw); go_simp; try with_reducible rfl)
        simp only [Act.put, List.getElem_toArray, List.getElem_cons_zero, List.getElem_cons_succ, List.setIfInBounds_toArray, List.set_cons_zero, List.set_cons_succ]
        refine wpAnyH_take (i := 10) (v := ?_) rfl (by kernel_rfl) (by kernel_rfl) (by kernel_rfl) (fun c a w h => h) (Or.inl ⟨by rfl, ?_⟩) hHeld ?_
        rotate_left
        · (intro w hSw; (try dsimp only at hSw); go_simp; try with_reducible rfl)
        simp only [Act.put, List.getElem_toArray, List.getElem_cons_zero, List.getElem_cons_succ, List.setIfInBounds_toArray, List.set_cons_zero, List.set_cons_succ]
        refine wpAnyH_take (i := 11) (v := ?_) rfl (by kernel_rfl) (by kernel_rfl) (by kernel_rfl) (fun c a w h => h) (Or.inl ⟨by rfl, ?_⟩) hHeld ?_
        rotate_left
        · (intro w hSw; (try dsimp only at hSw); go_simp; try with_reducible rfl)
        simp only [Act.put, List.getElem_toArray, List.getElem_cons_zero, List.getElem_cons_succ, List.setIfInBounds_toArray, List.set_cons_zero, List.set_cons_succ]
        refine wpAnyH_take (i := 12) (v := ?_) rfl (by kernel_rfl) (by kernel_rfl) (by kernel_rfl) (fun c a w h => h) (Or.inl ⟨by rfl, ?_⟩) hHeld ?_
        rotate_left
        · (intro w hSw; (try dsimp only at hSw); go_simp; try with_reducible rfl)
        simp only [Act.put, List.getElem_toArray, List.getElem_cons_zero, List.getElem_cons_succ, List.setIfInBounds_toArray, List.set_cons_zero, List.set_cons_succ]
        refine wpAnyH_ready (rs := [13]) (by kernel_rfl) (by simp) ?_
        refine AllReadyH.cons rfl (fun K hK => ?_) AllReadyH.nil
        go_simp
        refine kr.mono ?_
        rintro e w6 ⟨rfl, hb6⟩
        have hB6 := HB5d.out.trans (hb6.mono HB5d.out.size)
        have h6 := H3.out.below hB6
        have s6 := h6.c6.2
        have HX5 := S.hid (sl_keep HX.out (fun i h1 h2 => hB6.block i h2))
        have HSZ := S.hid (Nat.le_trans HBC.out.size hB6.size)
        have HB5 := S.hid ((HBC.out.mono hB).trans (hB6.mono hB1))
        have HW5 := S.hid h6.ww
        clear kr hb6 h6 hB6 HB5d hB5d
        refine hK.out _ _ s6 (fun hHeld => ?_)
        clear hK K
        try simp only [Act.put, List.getElem_toArray, List.getElem_cons_zero, List.getElem_cons_succ, List.setIfInBounds_toArray, List.set_cons_zero, List.set_cons_succ]
        refine wpAnyH_ready (rs := [14]) (by kernel_rfl) (by simp) ?_
        refine AllReadyH.cons rfl (fun K hK => ?_) AllReadyH.nil
        go_simp
        refine hK.out _ _ s6 (fun hHeld => ?_)
        clear hK K
        refine wpAnyH_done (by kernel_rfl) ?_ _
        clear hHeld
        try simp only [Act.put, List.getElem_toArray, List.getElem_cons_zero, List.getElem_cons_succ, List.setIfInBounds_toArray, List.set_cons_zero, List.set_cons_succ]
        have HC5 := HC
        have HR5 := HRC
        have HT5 := S.hid (show m.tones.length ≤ m.tones.length + 3 by omega)
        clear H3 HBb HX HBC s6 HC HRC
        have ks := stacks_any HW5.out
        go_wp2_with fail
        refine ks.mono ?_
        rintro e w6 ⟨rfl, hb6⟩
        have hW6 := HW5.out.below hb6
        have kn := near_any hW6 (by have := HT5.out; omega) px cx X hXl HXC.out (slUN (sl_keep HX5.out (fun i h1 h2 => hb6.block i h2)))
        have HB6 := S.hid (HB5.out.trans (hb6.mono (Nat.le_trans hB HSZ.out)))
        have HW6 := S.hid hW6
        clear ks hb6 hW6 HW5 HX5 HB5
        go_wp2_with fail
        refine kn.mono ?_
        rintro e w7 ⟨rfl, hb7⟩
        have hsz6 : B ≤ w6.heap.size := Nat.le_trans hB HB6.out.size
        have HF := S.hid (And.intro (HW6.out.below hb7) (HB6.out.trans (hb7.mono hsz6)))
        clear kn hb7 HW6 HB6
        go_wp2
        go_ret
        exact ⟨rfl, _, _, _, _, _, _, _, HF.out.1, HC5.out, HR5.out, HT5.out, HF.out.2⟩
    obtain ⟨n, rfl⟩ : ∃ n : Nat, op = (n : Int) := ⟨op.toNat, by unfold plain at hp; simp at hp; omega⟩
    have kd := do_pd2 (n : Int) hp HC.out (by omega) h3d.p
    have H3 := S.hid h3d
    clear h3 h3d H2
    obtain ⟨f, hf⟩ : ∃ f, f = P.fl (n : Int) D R := ⟨_, rfl⟩
    rw [← hf] at kd
    have HFQ := S.hid hf
    clear hf
    go_upto_region 3 with fail
    try simp only [Act.put, List.getElem_toArray, List.getElem_cons_zero, List.getElem_cons_succ, List.setIfInBounds_toArray, List.set_cons_zero, List.set_cons_succ]
    refine wp_region_held_drew (S := (fun w' : World => w'.cell? ⟨g, 0, none⟩ = some (.pointer (some ⟨bd, 0, none⟩)) ∧ w'.cell? ⟨g, 1, none⟩ = some (.pointer (some ⟨br, 0, none⟩)) ∧ w'.cell? ⟨g, 2, none⟩ = some (.pointer (some ⟨bm, 0, none⟩)))) (by kernel_rfl) s0 (fun hHeld => ?_)
    clear s0
    refine wpAnyH_take (i := 0) (v := ?_) rfl (by kernel_rfl) (by kernel_rfl) (by kernel_rfl) (fun c a w h => h) (Or.inl ⟨by rfl, ?_⟩) hHeld ?_
    rotate_left
    · (intro w hSw; (try dsimp only at hSw); go_simp; try with_reducible rfl)
    simp only [Act.put, List.getElem_toArray, List.getElem_cons_zero, List.getElem_cons_succ, List.setIfInBounds_toArray, List.set_cons_zero, List.set_cons_succ]
    refine wpAnyH_take (i := 1) (v := ?_) rfl (by kernel_rfl) (by kernel_rfl) (by kernel_rfl) (fun c a w h => h) (Or.inl ⟨by rfl, ?_⟩) hHeld ?_
    rotate_left
    · (intro w hSw; (try dsimp only at hSw); go_simp; try with_reducible rfl)
    simp only [Act.put, List.getElem_toArray, List.getElem_cons_zero, List.getElem_cons_succ, List.setIfInBounds_toArray, List.set_cons_zero, List.set_cons_succ]
    refine wpAnyH_take (i := 2) (v := ?_) rfl (by kernel_rfl) (by kernel_rfl) (by kernel_rfl) (fun c a w h => h) (Or.inl ⟨by rfl, ?_⟩) hHeld ?_
    rotate_left
    · (intro w hSw; (try dsimp only at hSw); go_simp; try with_reducible rfl)
    simp only [Act.put, List.getElem_toArray, List.getElem_cons_zero, List.getElem_cons_succ, List.setIfInBounds_toArray, List.set_cons_zero, List.set_cons_succ]
    refine wpAnyH_take (i := 3) (v := ?_) rfl (by kernel_rfl) (by kernel_rfl) (by kernel_rfl) (fun c a w h => h) (Or.inl ⟨by rfl, ?_⟩) hHeld ?_
    rotate_left
    · (intro w hSw; (try dsimp only at hSw); go_simp; try with_reducible rfl)
    simp only [Act.put, List.getElem_toArray, List.getElem_cons_zero, List.getElem_cons_succ, List.setIfInBounds_toArray, List.set_cons_zero, List.set_cons_succ]
    refine wpAnyH_take (i := 4) (v := ?_) rfl (by kernel_rfl) (by kernel_rfl) (by kernel_rfl) (fun c a w h => h) (Or.inl ⟨by rfl, ?_⟩) hHeld ?_
    rotate_left
    · (intro w hSw; (try dsimp only at hSw); go_simp; try with_reducible rfl)
    simp only [Act.put, List.getElem_toArray, List.getElem_cons_zero, List.getElem_cons_succ, List.setIfInBounds_toArray, List.set_cons_zero, List.set_cons_succ]
    refine wpAnyH_take (i := 5) (v := ?_) rfl (by kernel_rfl) (by kernel_rfl) (by kernel_rfl) (fun c a w h => h) (Or.inl ⟨by rfl, ?_⟩) hHeld ?_
    rotate_left
    · (intro w hSw; (try dsimp only at hSw); go_simp; try with_reducible rfl)
    simp only [Act.put, List.getElem_toArray, List.getElem_cons_zero, List.getElem_cons_succ, List.setIfInBounds_toArray, List.set_cons_zero, List.set_cons_succ]
    refine wpAnyH_take (i := 6) (v := ?_) rfl (by kernel_rfl) (by kernel_rfl) (by kernel_rfl) (fun c a w h => h) (Or.inl ⟨by rfl, ?_⟩) hHeld ?_
    rotate_left
    · (intro w hSw; (try dsimp only at hSw); go_simp; try with_reducible rfl)
    simp only [Act.put, List.getElem_toArray, List.getElem_cons_zero, List.getElem_cons_succ, List.setIfInBounds_toArray, List.set_cons_zero, List.set_cons_succ]
    refine wpAnyH_take (i := 7) (v := ?_) rfl (by kernel_rfl) (by kernel_rfl) (by kernel_rfl) (fun c a w h => h) (Or.inl ⟨by rfl, ?_⟩) hHeld ?_
    rotate_left
    · (intro w hSw; (try dsimp only at hSw); go_simp; try with_reducible rfl)
    simp only [Act.put, List.getElem_toArray, List.getElem_cons_zero, List.getElem_cons_succ, List.setIfInBounds_toArray, List.set_cons_zero, List.set_cons_succ]
    refine wpAnyH_take (i := 8) (v := ?_) rfl (by kernel_rfl) (by kernel_rfl) (by kernel_rfl) (fun c a w h => h) (Or.inl ⟨by rfl, ?_⟩) hHeld ?_
    rotate_left
    · (intro w hSw; (try dsimp only at hSw); go_simp; try with_reducible rfl)
    simp only [Act.put, List.getElem_toArray, List.getElem_cons_zero, List.getElem_cons_succ, List.setIfInBounds_toArray, List.set_cons_zero, List.set_cons_succ]
    refine wpAnyH_take (i := 9) (v := ?_) rfl (by kernel_rfl) (by kernel_rfl) (by kernel_rfl) (fun c a w h => h) (Or.inl ⟨by rfl, ?_⟩) hHeld ?_
    rotate_left
    · (intro w hSw; (try dsimp only at hSw); go_simp; try with_reducible rfl)
    simp only [Act.put, List.getElem_toArray, List.getElem_cons_zero, List.getElem_cons_succ, List.setIfInBounds_toArray, List.set_cons_zero, List.set_cons_succ]
    refine wpAnyH_take (i := 10) (v := ?_) rfl (by kernel_rfl) (by kernel_rfl) (by kernel_rfl) (fun c a w h => h) (Or.inl ⟨by rfl, ?_⟩) hHeld ?_
    rotate_left
    · (intro w hSw; (try dsimp only at hSw); go_simp; try with_reducible rfl)
    simp only [Act.put, List.getElem_toArray, List.getElem_cons_zero, List.getElem_cons_succ, List.setIfInBounds_toArray, List.set_cons_zero, List.set_cons_succ]
    refine wpAnyH_take (i := 11) (v := ?_) rfl (by kernel_rfl) (by kernel_rfl) (by kernel_rfl) (fun c a w h => h) (Or.inl ⟨by rfl, ?_⟩) hHeld ?_
    rotate_left
    · (intro w hSw; (try dsimp only at hSw); go_simp; try with_reducible rfl)
    simp only [Act.put, List.getElem_toArray, List.getElem_cons_zero, List.getElem_cons_succ, List.setIfInBounds_toArray, List.set_cons_zero, List.set_cons_succ]
    refine wpAnyH_take (i := 12) (v := ?_) rfl (by kernel_rfl) (by kernel_rfl) (by kernel_rfl) (fun c a w h => h) (Or.inl ⟨by rfl, ?_⟩) hHeld ?_
    rotate_left
    · (intro w hSw; (try dsimp only at hSw); go_simp; try with_reducible rfl)
    simp only [Act.put, List.getElem_toArray, List.getElem_cons_zero, List.getElem_cons_succ, List.setIfInBounds_toArray, List.set_cons_zero, List.set_cons_succ]
    refine wpAnyH_ready (rs := [13]) (by kernel_rfl) (by simp) ?_
    refine AllReadyH.cons rfl (fun K hK => ?_) AllReadyH.nil
    go_simp
    refine kd.mono ?_
    rintro e w5 ⟨rfl, hb5⟩
    have h5 := H3.out.left hB1 hb5
    have s5 := h5.c6.1
    have H5 := S.hid h5
    have HBb := S.hid (H3.out.pb hB1 hb5)
    have HX4 := S.hid (sl_keep HX.out (fun i h1 h2 => hb5.t.block i h2 (HNT.out i h1)))
    have HS5 := S.hid (Nat.le_trans hB1 hb5.t.size)
    have HSB5 := S.hid (show wc.heap.size ≤ w5.heap.size from hb5.t.size)
    clear kd hb5 h5
    refine hK.out _ _ s5 (fun hHeld => ?_)
    clear hK K
    try simp only [Act.put, List.getElem_toArray, List.getElem_cons_zero, List.getElem_cons_succ, List.setIfInBounds_toArray, List.set_cons_zero, List.set_cons_succ]
    refine wpAnyH_ready (rs := [14]) (by kernel_rfl) (by simp) ?_
    refine AllReadyH.cons rfl (fun K hK => ?_) AllReadyH.nil
    go_simp
    refine hK.out _ _ s5 (fun hHeld => ?_)
    clear hK K
    refine wpAnyH_done (by kernel_rfl) ?_ _
    clear hHeld
    try simp only [Act.put, List.getElem_toArray, List.getElem_cons_zero, List.getElem_cons_succ, List.setIfInBounds_toArray, List.set_cons_zero, List.set_cons_succ]
    have h5d := H5.out.below ((Below.refl _ w5).drew)
    have s0 := h5d.c6.2
    have kr := rdo_any n hp B bx bq bz _ _ qv D R m HC.out (by omega) w5.drew h5d.rf
    rw [← HFQ.out] at kr
    have H5d := S.hid h5d
    clear h5d s5 H5
    go_upto_region 4 with fail
    try simp only [Act.put, List.getElem_toArray, List.getElem_cons_zero, List.getElem_cons_succ, List.setIfInBounds_toArray, List.set_cons_zero, List.set_cons_succ]
    refine wp_region_held_drew (S := (fun w' : World => w'.cell? ⟨g, 3, none⟩ = some (.pointer (some ⟨bx, 0, none⟩)) ∧ w'.cell? ⟨g, 4, none⟩ = some (.pointer (some ⟨bq, 0, none⟩)) ∧ w'.cell? ⟨g, 5, none⟩ = some (.pointer (some ⟨bz, 0, none⟩)))) (by kernel_rfl) s0 (fun hHeld => ?_)
    clear s0
    refine wpAnyH_take (i := 0) (v := ?_) rfl (by kernel_rfl) (by kernel_rfl) (by kernel_rfl) (fun c a w h => h) (Or.inl ⟨by rfl, ?_⟩) hHeld ?_
    rotate_left
    · (intro w hSw; (try dsimp only at hSw); go_simp; try with_reducible rfl)
    simp only [Act.put, List.getElem_toArray, List.getElem_cons_zero, List.getElem_cons_succ, List.setIfInBounds_toArray, List.set_cons_zero, List.set_cons_succ]
    refine wpAnyH_take (i := 1) (v := ?_) rfl (by kernel_rfl) (by kernel_rfl) (by kernel_rfl) (fun c a w h => h) (Or.inl ⟨by rfl, ?_⟩) hHeld ?_
    rotate_left
    · (intro w hSw; (try dsimp only at hSw); go_simp; try with_reducible rfl)
    simp only [Act.put, List.getElem_toArray, List.getElem_cons_zero, List.getElem_cons_succ, List.setIfInBounds_toArray, List.set_cons_zero, List.set_cons_succ]
    refine wpAnyH_take (i := 2) (v := ?_) rfl (by kernel_rfl) (by kernel_rfl) (by kernel_rfl) (fun c a w h => h) (Or.inl ⟨by rfl, ?_⟩) hHeld ?_
    rotate_left
    · (intro w hSw; (try dsimp only at hSw); go_simp; try with_reducible rfl)
    simp only [Act.put, List.getElem_toArray, List.getElem_cons_zero, List.getElem_cons_succ, List.setIfInBounds_toArray, List.set_cons_zero, List.set_cons_succ]
    refine wpAnyH_take (i := 3) (v := ?_) rfl (by kernel_rfl) (by kernel_rfl) (by kernel_rfl) (fun c a w h => h) (Or.inl ⟨by rfl, ?_⟩) hHeld ?_
    rotate_left
    · (intro w hSw; (try dsimp only at hSw); go_simp; try with_reducible rfl)
    simp only [Act.put, List.getElem_toArray, List.getElem_cons_zero, List.getElem_cons_succ, List.setIfInBounds_toArray, List.set_cons_zero, List.set_cons_succ]
    refine wpAnyH_take (i := 4) (v := ?_) rfl (by kernel_rfl) (by kernel_rfl) (by kernel_rfl) (fun c a w h => h) (Or.inl ⟨by rfl, ?_⟩) hHeld ?_
    rotate_left
    · (intro w hSw; (try dsimp only at hSw); go_simp; try with_reducible rfl)
    simp only [Act.put, List.getElem_toArray, List.getElem_cons_zero, List.getElem_cons_succ, List.setIfInBounds_toArray, List.set_cons_zero, List.set_cons_succ]
    refine wpAnyH_take (i := 5) (v := ?_) rfl (by kernel_rfl) (by kernel_rfl) (by kernel_rfl) (fun c a w h => h) (Or.inl ⟨by rfl, ?_⟩) hHeld ?_
    rotate_left
    · (intro w hSw; (try dsimp only at hSw); go_simp; try with_reducible rfl)
    simp only [Act.put, List.getElem_toArray, List.getElem_cons_zero, List.getElem_cons_succ, List.setIfInBounds_toArray, List.set_cons_zero, List.set_cons_succ]
    refine wpAnyH_take (i := 6) (v := ?_) rfl (by kernel_rfl) (by kernel_rfl) (by kernel_rfl) (fun c a w h => h) (Or.inl ⟨by rfl, ?_⟩) hHeld ?_
    rotate_left
    · (intro w hSw; (try dsimp only at hSw); go_simp; try with_reducible rfl)
    simp only [Act.put, List.getElem_toArray, List.getElem_cons_zero, List.getElem_cons_succ, List.setIfInBounds_toArray, List.set_cons_zero, List.set_cons_succ]
    refine wpAnyH_take (i := 7) (v := ?_) rfl (by kernel_rfl) (by kernel_rfl) (by kernel_rfl) (fun c a w h => h) (Or.inl ⟨by rfl, ?_⟩) hHeld ?_
    rotate_left
    · (intro w hSw; (try dsimp only at hSw); go_simp; try with_reducible rfl)
    simp only [Act.put, List.getElem_toArray, List.getElem_cons_zero, List.getElem_cons_succ, List.setIfInBounds_toArray, List.set_cons_zero, List.set_cons_succ]
    refine wpAnyH_take (i := 8) (v := ?_) rfl (by kernel_rfl) (by kernel_rfl) (by kernel_rfl) (fun c a w h => h) (Or.inl ⟨by rfl, ?_⟩) hHeld ?_
    rotate_left
    · (intro w hSw; (try dsimp only at hSw); go_simp; try with_reducible rfl)
    simp only [Act.put, List.getElem_toArray, List.getElem_cons_zero, List.getElem_cons_succ, List.setIfInBounds_toArray, List.set_cons_zero, List.set_cons_succ]
    refine wpAnyH_take (i := 9) (v := ?_) rfl (by kernel_rfl) (by kernel_rfl) (by kernel_rfl) (fun c a w h => h) (Or.inl ⟨by rfl, ?_⟩) hHeld ?_
    rotate_left
    · (intro w hSw; (try dsimp only at hSw); go_simp; try with_reducible rfl)
    simp only [Act.put, List.getElem_toArray, List.getElem_cons_zero, List.getElem_cons_succ, List.setIfInBounds_toArray, List.set_cons_zero, List.set_cons_succ]
    refine wpAnyH_take (i := 10) (v := ?_) rfl (by kernel_rfl) (by kernel_rfl) (by kernel_rfl) (fun c a w h => h) (Or.inl ⟨by rfl, ?_⟩) hHeld ?_
    rotate_left
    · (intro w hSw; (try dsimp only at hSw); go_simp; try with_reducible rfl)
    simp only [Act.put, List.getElem_toArray, List.getElem_cons_zero, List.getElem_cons_succ, List.setIfInBounds_toArray, List.set_cons_zero, List.set_cons_succ]
    refine wpAnyH_take (i := 11) (v := ?_) rfl (by kernel_rfl) (by kernel_rfl) (by kernel_rfl) (fun c a w h => h) (Or.inl ⟨by rfl, ?_⟩) hHeld ?_
    rotate_left
    · (intro w hSw; (try dsimp only at hSw); go_simp; try with_reducible rfl)
    simp only [Act.put, List.getElem_toArray, List.getElem_cons_zero, List.getElem_cons_succ, List.setIfInBounds_toArray, List.set_cons_zero, List.set_cons_succ]
    refine wpAnyH_take (i := 12) (v := ?_) rfl (by kernel_rfl) (by kernel_rfl) (by kernel_rfl) (fun c a w h => h) (Or.inl ⟨by rfl, ?_⟩) hHeld ?_
    rotate_left
    · (intro w hSw; (try dsimp only at hSw); go_simp; try with_reducible rfl)
    simp only [Act.put, List.getElem_toArray, List.getElem_cons_zero, List.getElem_cons_succ, List.setIfInBounds_toArray, List.set_cons_zero, List.set_cons_succ]
    refine wpAnyH_ready (rs := [13]) (by kernel_rfl) (by simp) ?_
    refine AllReadyH.cons rfl (fun K hK => ?_) AllReadyH.nil
    go_simp
    refine kr.mono ?_
    rintro e w6 ⟨rfl, hb6⟩
    have h6 := H5d.out.right HS5.out hb6
    have HBr6 := S.hid (H5d.out.rb HS5.out hb6)
    have HX5 := S.hid (sl_keep HX4.out (fun i h1 h2 => RXD.kp hb6 i h2 (HNX.out i h1)))
    obtain ⟨G6, ev6, qv6, h6⟩ := h6
    have s6 := h6.c6.2
    have HSZ := S.hid (Nat.le_trans (Nat.le_trans HBC.out.size HSB5.out) HBr6.out.size)
    have HB5 := S.hid ((((HBC.out.mono hB).drew).trans HBb.out).drew.trans HBr6.out)
    have HW5 := S.hid h6.ww
    clear kr hb6 h6 HBr6
    refine hK.out _ _ s6 (fun hHeld => ?_)
    clear hK K
    try simp only [Act.put, List.getElem_toArray, List.getElem_cons_zero, List.getElem_cons_succ, List.setIfInBounds_toArray, List.set_cons_zero, List.set_cons_succ]
    refine wpAnyH_ready (rs := [14]) (by kernel_rfl) (by simp) ?_
    refine AllReadyH.cons rfl (fun K hK => ?_) AllReadyH.nil
    go_simp
    refine hK.out _ _ s6 (fun hHeld => ?_)
    clear hK K
    refine wpAnyH_done (by kernel_rfl) ?_ _
    clear hHeld
    try simp only [Act.put, List.getElem_toArray, List.getElem_cons_zero, List.getElem_cons_succ, List.setIfInBounds_toArray, List.set_cons_zero, List.set_cons_succ]
    have HC5 := S.hid (xD_C (n : Int) HC.out HRC.out hwf)
    have HR5 := S.hid (xR_C (n : Int) HC.out HRC.out)
    have HT5 := S.hid (xM_ton (n : Int) D R m)
    clear H3 HBb HX HBC s6 HC HRC HFQ H5d HX4 HS5
    have ks := stacks_any HW5.out
    go_wp2_with fail
    refine ks.mono ?_
    rintro e w6 ⟨rfl, hb6⟩
    have hW6 := HW5.out.below hb6
    have kn := near_any hW6 (by have := HT5.out; omega) px cx X hXl HXC.out (slUN (sl_keep HX5.out (fun i h1 h2 => hb6.block i h2)))
    have HB6 := S.hid (HB5.out.trans (hb6.mono (Nat.le_trans hB HSZ.out)))
    have HW6 := S.hid hW6
    clear ks hb6 hW6 HW5 HX5 HB5
    go_wp2_with fail
    refine kn.mono ?_
    rintro e w7 ⟨rfl, hb7⟩
    have hsz6 : B ≤ w6.heap.size := Nat.le_trans hB HB6.out.size
    have HF := S.hid (And.intro (HW6.out.below hb7) (HB6.out.trans (hb7.mono hsz6)))
    clear kn hb7 HW6 HB6
    go_wp2
    go_ret
    exact ⟨rfl, _, _, _, _, _, _, _, HF.out.1, HC5.out, HR5.out, HT5.out, HF.out.2⟩
end
end Go.Proofs.YtgponcjjnjpfkabGreat.L
/-! PrimEach. -/
namespace Go.Proofs.YtgponcjjnjpfkabGreat.L
open Go.RowKit
open Go.Proofs
open P
set_option linter.unusedVariables false
set_option linter.unusedSimpArgs false
set_option maxHeartbeats 20000000
set_option maxRecDepth 100000
def eI (x : Int) : List Value := [.int .i64 x]
theorem hI (a : Int) : (eI a).length = 1 := rfl
theorem oneI : ∀ l : List Int, ∀ u ∈ S.en eI l, u.oneCell' = true := by
  intro l
  induction l with
  | nil => intro u hu; simp [S.en] at hu
  | cons a l ih =>
    intro u hu
    have hu' : u = .int .i64 a ∨ u ∈ S.en eI l := by simpa [S.en, eI] using hu
    rcases hu' with rfl | hu'
    · rfl
    · exact ih u hu'
theorem infoI : (Tryz.prog.info? 3).map (fun i => (i.zero, i.size, i.bytes)) = some (some (.int .i64 0), 1, 8) := by kernel_rfl
theorem own_one (W : World) (x : Int) : (W.alloc (.cells #[.int .i64 x] 3)).ownsRow W.heap.size 3 1 (.slice (some ⟨W.heap.size, 0, none⟩) 1 1) 1 (S.en eI [x]) :=
  ⟨by simp [S.en, eI], .inr ⟨W.heap.size, 1, #[.int .i64 x], rfl, Nat.le_refl _, heap_alloc_new W _, Nat.le_refl _, by decide, by simp, by simp [S.en, eI]⟩⟩
theorem cs_one (W : World) (x : Int) : S.Cs (W.alloc (.cells #[.int .i64 x] 3)) (.slice (some ⟨W.heap.size, 0, none⟩) 1 1) 1 1 (S.en eI [x]) :=
  S.Ls.cs hI (by decide) oneI (l := [x]) (.inr ⟨_, _, rfl, Nat.le_refl _, sl_block hI _ _ 3 [x] (heap_alloc_new _ _)⟩)
theorem en_app1 (l : List Int) (x : Int) : S.en eI l ++ S.en eI [x] = S.en eI (l ++ [x]) := by rw [S.en_append]
theorem slI {W : World} {B : Nat} {p : Option Addr} {c : Nat} {l : List Int} (h : W.ownsRow B 3 1 (.slice p l.length c) l.length (S.en eI l)) (j : Nat) (hj : j < l.length) : ∃ b x, p = some ⟨b, 0, none⟩ ∧ W.cell? ⟨b, j, none⟩ = some (.int .i64 x) := by
  obtain ⟨p', c', e, _, k⟩ := (S.own_sl hI h).ex
  cases e
  obtain ⟨g, cap, e⟩ := S.own_pos h (by omega)
  cases e
  obtain ⟨b, o, e, f⟩ := k j l[j] (List.getElem?_eq_getElem hj)
  cases e
  have := f 0 (.int .i64 l[j]) rfl
  exact ⟨g, l[j], rfl, by simpa using this⟩
theorem inc_1 {n : Nat} (h : n < 1000) : wrap64 ((n : Int) - 1 + 1) = ((n + 1 : Nat) : Int) - 1 := by simp [wrap64]; omega
theorem E1 {v : Value} (k : Nat) (h : v = .int .i64 (k : Int)) : v = .int .i64 (((k + 1 : Nat) : Int) - 1) := by
  rw [h, show ((k + 1 : Nat) : Int) - 1 = (k : Int) by omega]
theorem msr1 (n : Nat) (a b : Value) (k : Nat) (ha : a = .int .i64 (((k + 1 : Nat) : Int) - 1)) (hb : b = .int .i64 ((k : Int) - 1)) (h : k < n) : n - (intOf a + 1).toNat < n - (intOf b + 1).toNat := by
  subst ha hb; simp only [intOf]; omega
theorem bel2e {W a b : World} (h : Below W.heap.size W a) (k : Below a.heap.size a b) : Below W.heap.size W b := h.trans (k.mono h.size)
theorem each_walk (p q : Option Addr) (c d : Nat) (data : List Int) (ret : List (Int × Int)) (hc : data.length ≤ c) (hd : ret.length ≤ d) (hpc : p = none → c = 0) (hpd : q = none → d = 0) (hr : data.length ≤ S.room) (hr2 : ret.length ≤ S.room) (hC : ∀ x ∈ data, C.C x) (hRC : ∀ t ∈ ret, C.C t.2) (op : Int) (w : World) (h1 : S.Sl S.eU 1 w p data) (h2 : S.Sl S.eK 2 w q ret) :
    Calls Tryz.prog 3 #[.slice p data.length c, .slice q ret.length d, .int .i64 op] w fun e w' => e = .returned (.bool true) ∧ Below w.heap.size w w' := by
  have hb : ∀ W, Below w.heap.size w W → Calls Tryz.prog 6 #[.slice p data.length c, .slice q ret.length d] W fun e w' => BornR W w' e (data.take 256) ((ret.take 128).map nk) := fun W k => born_any p q c d data ret hc hd hpc hpd hr hr2 W (h1.below k) (h2.below k)
  have hD : ∀ x ∈ data.take 256, C.C x := fun x hx => hC x (List.mem_of_mem_take hx)
  have hR : ∀ t ∈ (ret.take 128).map nk, C.C t.2 := fun t ht => by
    obtain ⟨u, hu, rfl⟩ := List.mem_map.1 ht
    exact hRC u (List.mem_of_mem_take hu)
  generalize data.take 256 = D at hb hD
  generalize (ret.take 128).map nk = R at hb hR
  have hfx := fixed_any w
  have HBO := S.hid hb
  have HD := S.hid hD
  have HR := S.hid hR
  clear h1 h2 hr hr2 hpc hpd hc hd hb hC hD hR hRC
  go_enter Tryz.func3, Tryz.ntmps3
  go_wp2_with fail
  refine hfx.mono ?_
  rintro e w0 ⟨rfl, hb0⟩
  have ho := own_one w0 op
  have ba : Below w.heap.size w (w0.alloc (.cells #[.int .i64 op] 3)) := hb0.alloc hb0.size _
  have HO := S.hid ho
  have HB0 := S.hid ba
  have HSZ0 := S.hid hb0.size
  clear hfx hb0 ho ba
  go_upto_region 4 with fail
  try simp only [Act.put, List.getElem_toArray, List.getElem_cons_zero, List.getElem_cons_succ, List.setIfInBounds_toArray, List.set_cons_zero, List.set_cons_succ]
  generalize (w0.alloc (.cells #[.int .i64 op] 3)) = w1 at *
  have HO1 := S.hid (show ∃ lo, w.heap.size ≤ lo ∧ w1.ownsRow lo 3 1 (.slice (some ⟨w0.heap.size, 0, none⟩) 1 1) 1 (S.en eI [op]) from ⟨w0.heap.size, HSZ0.out, HO.out⟩)
  go_wp2
  go_loopw [7, 8] (fun v i wr => ∃ (k : Nat) (l : List Int) (p1 : Option Addr) (c1 : Nat) (lo : Nat), k ≤ 67 ∧ i = .int .i64 ((k : Int) - 1) ∧ v = .slice p1 l.length c1 ∧ l.length = k + 1 ∧ wr.ownsRow lo 3 1 (.slice p1 l.length c1) l.length (S.en eI l) ∧ w.heap.size ≤ lo ∧ lo ≤ wr.heap.size ∧ Below w.heap.size w wr) (fun _ i _ => 67 - (intOf i + 1).toNat)
  case atStart =>
    obtain ⟨lo, h1, h2⟩ := HO1.out
    exact ⟨0, [op], _, _, lo, by omega, rfl, rfl, rfl, h2, h1, Nat.le_of_lt (by have := h2.lt _ rfl; omega), HB0.out⟩
  case round =>
    clear HO HO1 HB0
    obtain ⟨k, l, p1, c1, lo, hk, rfl, rfl, hl, hrow, hlo, hlo2, hB⟩ := hrel
    by_cases hlt : k < 67
    · have d1 : decide ((k : Int) - 1 < 66) = true := decide_eq_true (by omega)
      have w1' := inc_1 (show k < 1000 by omega)
      have hba : Below wr.heap.size wr (wr.alloc (.cells #[.int .i64 ((k : Int) - 1)] 3)) := (Below.refl _ _).alloc (Nat.le_refl _) _
      have hr0 : (wr.alloc (.cells #[.int .i64 ((k : Int) - 1)] 3)).ownsRow lo 3 1 (.slice p1 l.length c1) l.length (S.en eI l) := S.own_kept hrow fun g e hg => hba.block g hg
      have hs0 := cs_one wr ((k : Int) - 1)
      have hz : lo ≤ (wr.alloc (.cells #[.int .i64 ((k : Int) - 1)] 3)).heap.size := Nat.le_trans hlo2 hba.size
      have HBr := S.hid hB
      have HBA := S.hid hba
      have HL := S.hid hl
      have hl100 : l.length ≤ 100 := by omega
      clear hrow hB hba hl
      go_wp2_with (first | (at_builtin; refine S.wpList_append_row _ rfl _ _ 25 3 _ 1 8 Tryz.underlying25 infoI rfl (by decide) rfl lo _ l.length (S.en eI l) rfl hr0 _ 1 (S.en eI [(k : Int) - 1]) rfl hs0 (by unfold S.room; omega) (by unfold maxLen; omega) hz ?_))
      intro v1 w4 hr1 hg1
      have hb1 : Below w.heap.size w w4 := hg1.belowAll (fun g e => Nat.le_trans hlo (hr0.lt g e).1) (HBr.out.trans (HBA.out.mono HBr.out.size)) (Nat.le_refl _)
      have hsz : lo ≤ w4.heap.size := Nat.le_trans hz hg1.size
      obtain ⟨p2, c2, rfl⟩ := S.ex_slice hr1
      rw [en_app1] at hr1
      have hll : (l ++ [(k : Int) - 1]).length = l.length + 1 := by simp
      rw [← hll] at hr1 ⊢
      have HF := S.hid (And.intro hr1 (And.intro hb1 hsz))
      have HLL := S.hid hll
      clear hr0 hs0 hg1 hr1 hz hb1 hsz hll
      generalize l ++ [(k : Int) - 1] = l2 at *
      go_wp2
      go_roundw
      case rel =>
        first
          | exact ⟨k + 1, l2, _, _, lo, by omega, (E1 k (by first | rfl | (rw [w1'] <;> rfl))), rfl, by have := HLL.out; have := HL.out; omega, HF.out.1, hlo, HF.out.2.2, HF.out.2.1⟩
          | ((repeat apply Exists.intro); refine ⟨⟨k + 1, l2, _, _, lo, by omega, ?_, rfl, by have := HLL.out; have := HL.out; omega, HF.out.1, hlo, HF.out.2.2, HF.out.2.1⟩, rfl⟩; exact E1 k (by first | rfl | (rw [w1'] <;> rfl)))
      case measure => exact msr1 67 _ _ k (E1 k (by first | rfl | (rw [w1'] <;> rfl))) rfl hlt
    obtain rfl : k = 67 := by omega
    have d1 : decide (((67 : Nat) : Int) - 1 < 66) = false := by decide
    have HRW := S.hid hrow
    have HBr := S.hid hB
    have HLO := S.hid (And.intro hlo (And.intro hlo2 hl))
    obtain ⟨w7, hw7⟩ : ∃ w7, w7 = wr := ⟨_, rfl⟩
    subst hw7
    have hl2 : (l.length : Int) = 68 := by omega
    have HL2 := S.hid hl2
    clear hrow hB hlo hlo2 hl hl2 hk
    go_upto_region 8 with fail
    try simp only [Act.put, List.getElem_toArray, List.getElem_cons_zero, List.getElem_cons_succ, List.setIfInBounds_toArray, List.set_cons_zero, List.set_cons_succ]
    go_wp2
    go_loopw [9] (fun i wr => ∃ k : Nat, k ≤ l.length ∧ i = .int .i64 (k : Int) ∧ Below w7.heap.size w7 wr) (fun i _ => l.length - (intOf i).toNat)
    case atStart => exact ⟨0, Nat.zero_le _, rfl, Below.refl _ _⟩
    case round =>
      obtain ⟨k, hk, rfl, hB⟩ := hrel
      by_cases hlt : k < l.length
      · have d2 : decide ((k : Int) < (l.length : Int)) = true := decide_eq_true (by omega)
        have d2' : (k : Int) < (l.length : Int) := by omega
        have w1' := inc_n (show k < 1000 by have := HL2.out; omega)
        obtain ⟨b, x, rfl, hx⟩ := slI HRW.out k hlt
        have hBw := bel2e HBr.out hB
        have kb := HBO.out wr hBw
        have HB7 := S.hid hB
        have HBw := S.hid hBw
        have HX := S.hid hx
        clear hB hBw hx
        go_wp2_with fail
        refine kb.mono ?_
        rintro e w8 ⟨g, bd, br, bm, bx, bq, bz, F0, G0, ev, qv, rfl, hW, hb8⟩
        have kd := does_any x hW hb8.size HD.out HR.out (by decide)
        have hx8 := bcell (bel2e HB7.out hb8) HX.out
        have HB8 := S.hid hb8
        clear kb hW hb8
        go_wp2_with fail
        refine kd.mono ?_
        rintro e w9 ⟨rfl, F9, G9, ev9, qv9, D9, R9, m9, _, _, _, _, hb9⟩
        have HB9 := S.hid (bel2e HB7.out (HB8.out.trans hb9))
        clear kd hb9 hx8
        go_wp2
        go_roundw
        case rel =>
          first
            | exact ⟨k + 1, by omega, (by first | rfl | (rw [w1'] <;> rfl)), HB9.out⟩
            | ((repeat apply Exists.intro); refine ⟨⟨k + 1, by omega, ?_, HB9.out⟩, rfl⟩; first | rfl | (rw [w1'] <;> rfl))
        case measure => exact msrN l.length _ _ k (by first | rfl | (rw [w1'] <;> rfl)) rfl hlt
      · have d2 : decide ((k : Int) < (l.length : Int)) = false := decide_eq_false (by omega)
        have HF := S.hid (bel2e HBr.out hB)
        clear hB
        go_wp2
        go_ret
        exact ⟨rfl, HF.out⟩
end Go.Proofs.YtgponcjjnjpfkabGreat.L
/-! What arguments give a walk: lists of cells. -/
namespace Go.Proofs.YtgponcjjnjpfkabGreat.L
open Go.RowKit Go.ChangeShapes Go.WideShapes Go.ChangeAt
open Go.Proofs
set_option linter.unusedVariables false
set_option linter.unusedSimpArgs false
theorem add_none {a : Addr} {W : World} {v : Value} (h : W.cell? (a.add 0) = some v) : a.spot = none := by
  have := World.cell?_spot h
  simpa [Addr.add] using this
theorem add_at (b o k : Nat) : (⟨b, o, none⟩ : Addr).add k = ⟨b, o + k, none⟩ := Addr.add_lit _ _ _
theorem wf_C {x : Int} (h : (Lit.int .u16 x).wf = true) : C.C x := by
  have := bounds_u16 h
  unfold C.C; omega
set_option maxRecDepth 100000
set_option maxHeartbeats 2000000
section
variable {H : Type} {enc : TypeId × Value → H}
/-- Cells that came in. -/
theorem open_us0 {W : World} {fuel : Nat} {cs : List Value} {x : DataW H × List MemPlace} (h : DataW.trod enc Tryz.prog W 0 (fun _ => true) true fuel 22 cs = some x) :
    ∃ (l : List Int) (pp : Option Addr) (c : Nat), cs = [.slice pp l.length c] ∧ l.length ≤ c ∧ (pp = none → c = 0) ∧ S.Sl S.eU 1 W pp l ∧ ((x.1.weights Tryz.prog 22).all (· ≤ reachBytes) = true → l.length * 2 + 4096 ≤ S.room) ∧ ∀ z ∈ l, C.C z := by
  rcases open_ints Tryz.underlying22 Tryz.underlying31 (by kernel_rfl) h with ⟨hcs, hx⟩ | ⟨y, l, c, zs, hcs, _, hl, hm, hz, hx, hcell, hwz⟩
  · exact ⟨[], none, 0, hcs, by simp, fun _ => rfl, fun i a hi => by simp at hi, fun _ => by decide, by simp⟩
  · obtain ⟨x1, x2⟩ := x
    simp only [Prod.mk.injEq] at hx
    obtain ⟨rfl, rfl⟩ := hx
    simp only [if_true] at hz
    have hlen : (zs.take l).length = l := by simp; omega
    refine ⟨zs.take l, some y, c, by rw [hlen]; exact hcs, by rw [hlen]; exact hl, (fun e => by cases e), fun i z hi => ?_, fun hw => ?_, fun z hz => wf_C (hwz z (List.mem_of_mem_take hz))⟩
    · have hjl : i < l := by
        by_cases h : i < l
        · exact h
        · rw [List.getElem?_eq_none (by rw [hlen]; omega)] at hi; cases hi
      have hc := hcell i (by omega)
      rw [List.getElem?_take, if_pos hjl, List.getElem?_eq_getElem (by omega)] at hi
      simp only [Option.some.injEq] at hi
      subst hi
      have e : zs.getD i 0 = zs[i]'(by omega) := by simp [List.getD, List.getElem?_eq_getElem (show i < zs.length by omega)]
      rw [e] at hc
      have hsp : y.spot = none := add_none (hcell 0 (by omega))
      obtain ⟨b, o, sp⟩ := y
      simp only at hsp
      subst hsp
      rw [add_at] at hc
      refine ⟨b, o, rfl, fun j u hj => ?_⟩
      cases j with
      | zero => simp only [S.eU, List.getElem?_cons_zero, Option.some.injEq] at hj; subst hj; rw [Nat.mul_one, Nat.add_zero]; exact hc
      | succ j => simp [S.eU] at hj
    · rw [hlen]
      have hby : Tryz.prog.bytesOf 31 = 2 := by kernel_rfl
      simp only [DataW.weights, Tryz.underlying22, List.all_cons, hby, Bool.and_eq_true, decide_eq_true_eq] at hw
      have h2 : (lits (H := H) .u16 (zs.take l)).length = l := by simp [lits]; omega
      have h3 := hw.1
      rw [h2] at h3
      unfold reachBytes at h3
      unfold S.room
      omega
theorem open_us {W : World} {base : Nat} {v : Value} {d : DataW H} {p : List MemPlace} (hval : Value.okWide Tryz.prog W .any base 22 v) (h : DataW.Trod enc Tryz.prog W 0 (fun _ => true) true 22 v d p)
    (hw : (d.weights Tryz.prog 22).all (· ≤ reachBytes) = true) :
    ∃ (l : List Int) (pp : Option Addr) (c : Nat), v = .slice pp l.length c ∧ l.length ≤ c ∧ (pp = none → c = 0) ∧ S.Sl S.eU 1 W pp l ∧ l.length * 2 + 4096 ≤ S.room ∧ ∀ z ∈ l, C.C z := by
  obtain ⟨a, len, cap, rfl⟩ := okWide_slice Tryz.underlying22 hval
  obtain ⟨fuel, hf⟩ := h
  obtain ⟨l, pp, c, e1, e2, e5, e3, e4, e6⟩ := open_us0 hf
  simp [Value.cells] at e1
  obtain ⟨rfl, rfl, rfl⟩ := e1
  exact ⟨l, _, _, rfl, e2, e5, e3, e4 hw, e6⟩
theorem weights_all (P : Program) (e : TypeId) (D : Nat → DataW H) (q : Nat → Bool) : ∀ (is : List Nat), (DataW.weightsAll P e (is.map D)).all q = true → ∀ i ∈ is, ((D i).weights P e).all q = true := by
  intro is
  induction is with
  | nil => intro _ i hi; simp at hi
  | cons j is ih =>
    intro h i hi
    simp only [List.map_cons, DataW.weightsAll, List.all_append, Bool.and_eq_true] at h
    rcases List.mem_cons.1 hi with rfl | hi
    · exact h.1
    · exact ih h.2 i hi
theorem und43 : Tryz.prog.underlying 68 = some (.struct #[⟨ "Kind", 3, 0, false, "", "", 0⟩, ⟨ "Value", 31, 1, false, "", "", 8⟩]) := by kernel_rfl
/-- Cells with kinds that came in. -/
theorem open_ks0 {W : World} {fuel : Nat} {cs : List Value} {x : DataW H × List MemPlace} (h : DataW.trod enc Tryz.prog W 0 (fun _ => true) true fuel 23 cs = some x) :
    ∃ (l : List (Int × Int)) (pp : Option Addr) (c : Nat), cs = [.slice pp l.length c] ∧ l.length ≤ c ∧ (pp = none → c = 0) ∧ S.Sl S.eK 2 W pp l ∧ ((x.1.weights Tryz.prog 23).all (· ≤ reachBytes) = true → l.length * 16 + 4096 ≤ S.room) ∧ ∀ t ∈ l, C.C t.2 := by
  rcases Deep.open_slice_pairs Tryz.underlying23 und43 (by kernel_rfl) rfl rfl (by kernel_rfl) (by kernel_rfl) h with ⟨hcs, hx⟩ | ⟨y, len, c, m, n, V0, V1, D0, D1, P0, P1, hcs, _, hl, hm, hmm, hx, hel⟩
  · exact ⟨[], none, 0, hcs, by simp, fun _ => rfl, fun i a hi => by simp at hi, fun _ => by decide, by simp⟩
  · obtain ⟨x1, x2⟩ := x
    simp only [Prod.mk.injEq] at hx
    obtain ⟨rfl, rfl⟩ := hx
    simp only [if_true] at hmm
    have hsp0 : 0 < len → y.spot = none := fun hp => add_none (hel 0 (by omega)).1
    have hex : ∀ i, i < len → ∃ t : Int × Int, ∃ b o, some y = some (⟨b, o, none⟩ : Addr) ∧ W.cell? ⟨b, o + i * 2, none⟩ = some (.int .i64 t.1) ∧ W.cell? ⟨b, o + i * 2 + 1, none⟩ = some (.int .u16 t.2) ∧ C.C t.2 := by
      intro i hi
      obtain ⟨g0, g1, t0, t1⟩ := hel i (by omega)
      obtain ⟨k, e0, _, w0⟩ := DataW.trod_int Tryz.underlying3 t0
      obtain ⟨v, e1, _, w1⟩ := DataW.trod_int Tryz.underlying31 t1
      simp at e0 e1
      rw [e0] at g0
      rw [e1] at g1
      have hsp := hsp0 (by omega)
      obtain ⟨b, o, sp⟩ := y
      simp only at hsp
      subst hsp
      rw [add_at] at g0 g1
      exact ⟨(k, v), b, o, rfl, g0, by rw [Nat.add_assoc]; exact g1, wf_C w1⟩
    obtain ⟨f, hf2⟩ := Deep.choose_lt hex
    refine ⟨(List.range len).map f, some y, c, by simpa using hcs, by simpa using hl, (fun e => by cases e), fun i t hi => ?_, fun hw => ?_, fun t ht => ?_⟩
    · have hil : i < len := by
        by_cases h : i < len
        · exact h
        · rw [List.getElem?_eq_none (by simp; omega)] at hi; cases hi
      simp [hil] at hi
      subst hi
      obtain ⟨b, o, e1, e2, e3, _⟩ := hf2 i hil
      refine ⟨b, o, e1, fun j u hj => ?_⟩
      match j, hj with
      | 0, hj => simp only [S.eK, List.getElem?_cons_zero, Option.some.injEq] at hj; subst hj; exact e2
      | 1, hj => simp only [S.eK, List.getElem?_cons_succ, List.getElem?_cons_zero, Option.some.injEq] at hj; subst hj; exact e3
      | j + 2, hj => simp [S.eK] at hj
    · have hby : Tryz.prog.bytesOf 68 = 16 := by kernel_rfl
      simp only [DataW.weights, Tryz.underlying23, List.all_cons, List.all_append, Bool.and_eq_true, decide_eq_true_eq, hby, List.length_map, List.length_range] at hw
      have hw1 := hw.1
      unfold reachBytes at hw1
      simp only [List.length_map, List.length_range]
      unfold S.room
      omega
    · obtain ⟨i, hi, rfl⟩ := List.mem_map.1 ht
      obtain ⟨_, _, _, _, _, hC⟩ := hf2 i (by simpa using hi)
      exact hC
theorem open_ks {W : World} {base : Nat} {v : Value} {d : DataW H} {p : List MemPlace} (hval : Value.okWide Tryz.prog W .any base 23 v) (h : DataW.Trod enc Tryz.prog W 0 (fun _ => true) true 23 v d p)
    (hw : (d.weights Tryz.prog 23).all (· ≤ reachBytes) = true) :
    ∃ (l : List (Int × Int)) (pp : Option Addr) (c : Nat), v = .slice pp l.length c ∧ l.length ≤ c ∧ (pp = none → c = 0) ∧ S.Sl S.eK 2 W pp l ∧ l.length * 16 + 4096 ≤ S.room ∧ ∀ t ∈ l, C.C t.2 := by
  obtain ⟨a, len, cap, rfl⟩ := okWide_slice Tryz.underlying23 hval
  obtain ⟨fuel, hf⟩ := h
  obtain ⟨l, pp, c, e1, e2, e5, e3, e4, e6⟩ := open_ks0 hf
  simp [Value.cells] at e1
  obtain ⟨rfl, rfl, rfl⟩ := e1
  exact ⟨l, _, _, rfl, e2, e5, e3, e4 hw, e6⟩
end
end Go.Proofs.YtgponcjjnjpfkabGreat.L
