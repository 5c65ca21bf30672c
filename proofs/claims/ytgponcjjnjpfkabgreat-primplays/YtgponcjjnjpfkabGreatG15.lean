import Derived.Test.YtgponcjjnjpfkabGreatG14
import Derived.WalkKit
import Derived.ProofKit
import Derived.OpenShut
import Derived.ChangeOld
import Derived.Below
import Derived.Deep.Slices
import Derived.Deep.SlicePairs
import Derived.SizedLaws
/-! PrimPlays. -/
namespace Go.Proofs.YtgponcjjnjpfkabGreat.L
open Go.RowKit
open Go.Proofs
open P
set_option linter.unusedVariables false
set_option linter.unusedSimpArgs false
set_option maxHeartbeats 40000000
set_option maxRecDepth 100000
def PI (w wr : World) (g bd br bm bx bq bz : Nat) (T : Nat) : Prop := ∃ F G ev qv D R m, WW wr w.heap.size g bd br bm bx bq bz F G ev qv D R m ∧ (∀ x ∈ D, C.C x) ∧ (∀ q ∈ R, C.C q.2) ∧ m.tones.length ≤ T ∧ Below w.heap.size w wr
theorem slKN {W : World} {B : Nat} {p : Option Addr} {c : Nat} {l : List (Int × Int)} (h : S.RowK W B (.slice p l.length c) l) : S.Sl S.eK 2 W p l := by
  obtain ⟨p', c', e, _, k⟩ := (S.own_sl S.hK h).ex
  cases e
  exact k
theorem plays_walk (pp : Option Addr) (c : Nat) (ps : List OpD) (hlen : ps.length ≤ 140737488355328) (w : World) (hs : ScS w pp ps) :
    Calls Tryz.prog 4 #[.slice pp ps.length c] w fun e w' => e = .returned (.bool true) ∧ Below w.heap.size w w' := by
  have kb := born_any none none 0 0 [] [] (Nat.le_refl _) (Nat.le_refl _) (fun _ => rfl) (fun _ => rfl) (Nat.zero_le _) (Nat.zero_le _) w (fun i a h => by simp at h) (fun i a h => by simp at h)
  simp only [List.length_nil, List.take_nil, List.map_nil] at kb
  have HSC := S.hid hs
  clear hs
  go_enter Tryz.func4, Tryz.ntmps4
  go_wp2_with fail
  refine kb.mono ?_
  rintro e w1 ⟨g, bd, br, bm, bx, bq, bz, F0, G0, ev, qv, rfl, hW, hb1⟩
  have kf := fixed_any w1
  have HW := S.hid hW
  have HB1 := S.hid hb1
  clear kb hW hb1
  go_wp2_with fail
  refine kf.mono ?_
  rintro e w2 ⟨rfl, hb2⟩
  have HPI := S.hid (show PI w w2 g bd br bm bx bq bz 0 from ⟨F0, G0, ev, qv, [], [], mB, HW.out.below hb2, by simp, by simp, by decide, HB1.out.trans (hb2.mono HB1.out.size)⟩)
  clear kf hb2 HW HB1
  go_wp2
  go_loopw [4] (fun i wr => ∃ k : Nat, k ≤ ps.length ∧ k ≤ 300 ∧ i = .int .i64 (k : Int) ∧ PI w wr g bd br bm bx bq bz (3 * k)) (fun i _ => 300 - (intOf i).toNat)
  case atStart => exact ⟨0, Nat.zero_le _, Nat.zero_le _, rfl, HPI.out⟩
  case round =>
    clear HPI
    obtain ⟨k, hk, hk3, rfl, F, G, ev, qv, D, R, m, hW, hC, hRC, hT, hB⟩ := hrel
    by_cases hlt : k < ps.length ∧ k < 300
    case neg =>
      as_aux_lemma =>
        have ks := stacks_any hW
        have HW := S.hid hW
        have HBr := S.hid hB
        clear hW hC hRC hB HSC
        by_cases hl : k < ps.length
        · have d1 : decide ((k : Int) < (ps.length : Int)) = true := decide_eq_true (by omega)
          have d2 : decide ((k : Int) < 300) = false := decide_eq_false (by omega)
          go_wp2_with fail
          refine ks.mono ?_
          rintro e w8 ⟨rfl, hb8⟩
          have km := memories_any (HW.out.below hb8) (by omega)
          have HB8 := S.hid (HBr.out.trans (hb8.mono HBr.out.size))
          clear ks hb8
          go_wp2_with fail
          refine km.mono ?_
          rintro e w9 ⟨rfl, hb9⟩
          have HB9 := S.hid (HB8.out.trans (hb9.mono HB8.out.size))
          clear km hb9
          go_wp2
          go_ret
          exact ⟨rfl, HB9.out⟩
        · have d1 : decide ((k : Int) < (ps.length : Int)) = false := decide_eq_false (by omega)
          go_wp2_with fail
          refine ks.mono ?_
          rintro e w8 ⟨rfl, hb8⟩
          have km := memories_any (HW.out.below hb8) (by omega)
          have HB8 := S.hid (HBr.out.trans (hb8.mono HBr.out.size))
          clear ks hb8
          go_wp2_with fail
          refine km.mono ?_
          rintro e w9 ⟨rfl, hb9⟩
          have HB9 := S.hid (HB8.out.trans (hb9.mono HB8.out.size))
          clear km hb9
          go_wp2
          go_ret
          exact ⟨rfl, HB9.out⟩
    obtain ⟨hl, hl3⟩ := hlt
    have d1 : decide ((k : Int) < (ps.length : Int)) = true := decide_eq_true (by omega)
    have d1' : (k : Int) < (ps.length : Int) := by omega
    have d2 : decide ((k : Int) < 300) = true := decide_eq_true (by omega)
    have w1' := inc_n (show k < 1000 by omega)
    obtain ⟨⟨b, o, rfl, e0, e1, e2, e3, e4, e5⟩, ⟨hlx, hly⟩, ⟨hz1, hz2⟩, htC, htR, hat⟩ := HSC.out k ps[k] (List.getElem?_eq_getElem hl)
    generalize ps[k] = t at *
    obtain ⟨tk, ta, tv, tu, tl, tm, tat, tx⟩ := t
    simp only at e0 e1 e2 e3 e4 e5 hlx hly hz1 hz2 htC htR hat
    obtain ⟨pv, cv, hpv, _, _⟩ := hlx.ex
    obtain ⟨pu, cu, hpu, _, _⟩ := hly.ex
    subst hpv hpu
    have a0 := bcell hB e0
    have a1 := bcell hB e1
    have a2 := bcell hB e2
    have a3 := bcell hB e3
    have a4 := bcell hB e4
    have a5 := bcell hB e5
    have hba : Below wr.heap.size wr (wr.alloc (.cells [.int .i64 tk, .int .i64 ta, .slice pv tl.length cv, .slice pu tm.length cu, .int .u16 tat, .int .u8 (M.bt tx)].toArray 33)) := (Below.refl _ _).alloc (Nat.le_refl _) _
    have hrow := heap_alloc_new wr (.cells [.int .i64 tk, .int .i64 ta, .slice pv tl.length cv, .slice pu tm.length cu, .int .u16 tat, .int .u8 (M.bt tx)].toArray 33)
    have hB2 : Below w.heap.size w (wr.alloc (.cells [.int .i64 tk, .int .i64 ta, .slice pv tl.length cv, .slice pu tm.length cu, .int .u16 tat, .int .u8 (M.bt tx)].toArray 33)) := hB.trans (hba.mono hB.size)
    have HLX := S.hid (And.intro hlx (And.intro hly (And.intro hz1 (And.intro hz2 (And.intro htC (And.intro htR hat))))))
    obtain ⟨F1, G1, hw2⟩ : ∃ F1 G1, W2 wr w.heap.size g bd br bm bx bq bz F1 G1 ev qv D R m D R m := ⟨_, _, W2.make hW⟩
    have hNT : ∀ i, wr.heap.size ≤ i → ¬ TP bd br F1 i := fun i hi => by
      rintro (e | e | e)
      · have := S.lt_of hw2.p.d.1; omega
      · have := S.lt_of hw2.p.r.1; omega
      · have := hw2.fl i e; omega
    have hNX : ∀ i, wr.heap.size ≤ i → ¬ (i = bx ∨ i = bq ∨ G1 i) := fun i hi => by
      rintro (e | e | e)
      · have := S.lt_of hw2.x.blk; omega
      · have := S.lt_of hw2.y.blk; omega
      · have := hw2.gl i e; omega
    have HNT := S.hid (hNT wr.heap.size (Nat.le_refl _))
    have HNX := S.hid (hNX wr.heap.size (Nat.le_refl _))
    have HW2 := S.hid (hw2.below hba)
    have HRW := S.hid hrow
    have HB2 := S.hid hB2
    have HCC := S.hid (And.intro hC hRC)
    have hwf := M.HasM.wf hW.p.m
    clear e0 e1 e2 e3 e4 e5 hlx hly hz1 hz2 htC htR hat hba hrow hw2 hNT hNX hC hRC hW
    go_upto_region 9 with fail
    try simp only [Act.put, List.getElem_toArray, List.getElem_cons_zero, List.getElem_cons_succ, List.setIfInBounds_toArray, List.set_cons_zero, List.set_cons_succ]
    generalize hb5 : wr.heap.size = b5 at *
    generalize (wr.alloc (.cells [.int .i64 tk, .int .i64 ta, .slice pv tl.length cv, .slice pu tm.length cu, .int .u16 tat, .int .u8 (M.bt tx)].toArray 33)) = W5 at *
    clear hb5 a0 a1 a2 a3 a4 a5
    have c0 := S.cell_of W5 b5 0 _ _ _ HRW.out rfl
    by_cases k1 : tk = 1
    case pos =>
      as_aux_lemma =>
        subst k1
        have c1 := S.cell_of W5 b5 1 _ _ _ HRW.out rfl
        have kd := does_any ta HW2.out.ww HB2.out.size HCC.out.1 HCC.out.2 (by omega)
        clear HW2 HRW HLX HNT HNX
        go_wp2_with fail
        refine kd.mono ?_
        rintro e w6 ⟨rfl, F6, G6, ev6, qv6, D6, R6, m6, hw6, hC6, hR6, hT6, hb6⟩
        have HPI := S.hid (show PI w w6 g bd br bm bx bq bz (3 * (k + 1)) from ⟨F6, G6, ev6, qv6, D6, R6, m6, hw6, hC6, hR6, by omega, HB2.out.trans hb6⟩)
        clear kd hw6 hC6 hR6 hT6 hb6
        go_wp2
        go_roundw
        case rel =>
          first
            | exact ⟨k + 1, by omega, by omega, (by first | rfl | (rw [w1'] <;> rfl)), HPI.out⟩
            | ((repeat apply Exists.intro); refine ⟨⟨k + 1, by omega, by omega, ?_, HPI.out⟩, rfl⟩; first | rfl | (rw [w1'] <;> rfl))
        case measure => exact msrN 300 _ _ k (by first | rfl | (rw [w1'] <;> rfl)) rfl hl3
    have f1 : (tk == 1) = false := beq_eq_false_iff_ne.mpr k1
    by_cases k2 : tk = 2
    case pos =>
      as_aux_lemma =>
        subst k2
        have hsA : ∀ W', Below W5.heap.size W5 W' → (fun w' : World => w'.cell? ⟨g, 0, none⟩ = some (.pointer (some ⟨bd, 0, none⟩)) ∧ w'.cell? ⟨b5, 2, none⟩ = some (.slice pv tl.length cv)) W' := fun W' j => (And.intro (HW2.out.below j).c6.1.1 (S.cell_of _ b5 2 _ _ _ ((j.block b5 (S.lt_of HRW.out)).trans HRW.out) rfl))
        have s0 := hsA _ ((Below.refl _ W5).drew)
        have HSA := S.hid hsA
        have s1 := hsA _ (bda W5 (.cells #[] 31))
        have hr0 := S.own_empty W5.drew 31 1
        have hbz := bda W5 (.cells #[] 31)
        have hs0 : S.Cs (W5.drew.alloc (.cells #[] 31)) (.slice pv tl.length cv) 1 tl.length (S.en S.eU tl) := (HLX.out.1.below (HB2.out.trans (hbz.mono HB2.out.size))).cs S.hU (by decide) S.oneU
        have hroom := HLX.out.2.2.1
        have HBZ := S.hid hbz
        clear hsA
        by_cases hq : D.length + tl.length ≤ 256
        case pos =>
          as_aux_lemma =>
            go_upto_region 13 with fail
            try simp only [Act.put, List.getElem_toArray, List.getElem_cons_zero, List.getElem_cons_succ, List.setIfInBounds_toArray, List.set_cons_zero, List.set_cons_succ]
            refine wp_region_held_drew (S := (fun w' : World => w'.cell? ⟨g, 0, none⟩ = some (.pointer (some ⟨bd, 0, none⟩)) ∧ w'.cell? ⟨b5, 2, none⟩ = some (.slice pv tl.length cv))) (by kernel_rfl) s0 (fun hHeld => ?_)
            clear s0
            refine wpAnyH_take (i := 0) (v := ?_) rfl (by kernel_rfl) (by kernel_rfl) (by kernel_rfl) (fun c a w h => h) (Or.inl ⟨by rfl, ?_⟩) hHeld ?_
            rotate_left
            · (intro w hSw; (try dsimp only at hSw); go_simp; try with_reducible rfl)
            simp only [Act.put, List.getElem_toArray, List.getElem_cons_zero, List.getElem_cons_succ, List.setIfInBounds_toArray, List.set_cons_zero, List.set_cons_succ]
            refine wpAnyH_take (i := 1) (v := ?_) rfl (by kernel_rfl) (by kernel_rfl) (by kernel_rfl) (fun c a w h => h) (Or.inl ⟨by rfl, ?_⟩) hHeld ?_
            rotate_left
            · (intro w hSw; (try dsimp only at hSw); go_simp; try with_reducible rfl)
            simp only [Act.put, List.getElem_toArray, List.getElem_cons_zero, List.getElem_cons_succ, List.setIfInBounds_toArray, List.set_cons_zero, List.set_cons_succ]
            refine wpAnyH_take (i := 2) (v := ?_) rfl (by kernel_rfl) (by kernel_rfl) (by kernel_rfl) (fun c a w h => h) (Or.inl ⟨by rfl, ?_⟩) hHeld ?_
            rotate_left
            · (intro w hSw; (try dsimp only at hSw); go_simp; try with_reducible rfl)
            simp only [Act.put, List.getElem_toArray, List.getElem_cons_zero, List.getElem_cons_succ, List.setIfInBounds_toArray, List.set_cons_zero, List.set_cons_succ]
            refine wpAnyH_take (i := 3) (v := ?_) rfl (by kernel_rfl) (by kernel_rfl) (by kernel_rfl) (fun c a w h => h) (Or.inl ⟨by rfl, ?_⟩) hHeld ?_
            rotate_left
            · (intro w hSw; (try dsimp only at hSw); go_simp; try with_reducible rfl)
            simp only [Act.put, List.getElem_toArray, List.getElem_cons_zero, List.getElem_cons_succ, List.setIfInBounds_toArray, List.set_cons_zero, List.set_cons_succ]
            refine wpAnyH_take (i := 5) (v := ?_) rfl (by kernel_rfl) (by kernel_rfl) (by kernel_rfl) (fun c a w h => h) (Or.inl ⟨by rfl, ?_⟩) hHeld ?_
            rotate_left
            · (intro w hSw; (try dsimp only at hSw); go_simp; try with_reducible rfl)
            simp only [Act.put, List.getElem_toArray, List.getElem_cons_zero, List.getElem_cons_succ, List.setIfInBounds_toArray, List.set_cons_zero, List.set_cons_succ]
            refine wpAnyH_take (i := 6) (v := ?_) rfl (by kernel_rfl) (by kernel_rfl) (by kernel_rfl) (fun c a w h => h) (Or.inl ⟨by rfl, ?_⟩) hHeld ?_
            rotate_left
            · (intro w hSw; (try dsimp only at hSw); go_simp; try with_reducible rfl)
            simp only [Act.put, List.getElem_toArray, List.getElem_cons_zero, List.getElem_cons_succ, List.setIfInBounds_toArray, List.set_cons_zero, List.set_cons_succ]
            refine wpAnyH_ready (rs := [4]) (by kernel_rfl) (by simp) ?_
            refine AllReadyH.cons rfl (fun K hK => ?_) AllReadyH.nil
            go_simp
            refine hK.out _ _ s1 (fun hHeld => ?_)
            clear hK K
            try simp only [Act.put, List.getElem_toArray, List.getElem_cons_zero, List.getElem_cons_succ, List.setIfInBounds_toArray, List.set_cons_zero, List.set_cons_succ]
            refine wpAnyH_ready (rs := [7]) (by kernel_rfl) (by simp) ?_
            refine AllReadyH.cons rfl (fun K hK => ?_) AllReadyH.nil
            rw [if_pos (by rfl)]
            refine S.wp_append_row _ _ _ 22 31 _ 1 2 Tryz.underlying22 S.info32 rfl (by decide) rfl W5.heap.size _ 0 [] rfl hr0 _ tl.length (S.en S.eU tl) rfl hs0 (by unfold S.room at hroom ⊢; omega) (by unfold S.room at hroom; unfold maxLen; omega) HBZ.out.size (fun v1 w4 hr1 hg1 => ?_)
            have hb4 : Below W5.heap.size W5 w4 := hg1.belowAll (fun gg ee => (hr0.lt gg ee).1) HBZ.out (Nat.le_refl _)
            replace hr1 : w4.ownsRow W5.heap.size 31 1 v1 tl.length (S.en S.eU tl) := by simpa using hr1
            obtain ⟨p1, c1, hv1⟩ := S.ex_slice hr1
            subst hv1
            have s4 := HSA.out w4 hb4
            have h4 := HW2.out.below hb4
            have hB4 : w.heap.size ≤ w4.heap.size := Nat.le_trans HB2.out.size hb4.size
            have HR1 := S.hid (slUN (show S.RowU w4 W5.heap.size (.slice p1 tl.length c1) tl from hr1))
            have H4 := S.hid h4
            have HB4 := S.hid hb4
            clear hr0 hs0 hr1 hg1 h4 hb4
            refine hK.out _ _ s4 (fun hHeld => ?_)
            clear hK K
            try simp only [Act.put, List.getElem_toArray, List.getElem_cons_zero, List.getElem_cons_succ, List.setIfInBounds_toArray, List.set_cons_zero, List.set_cons_succ]
            have kd := S.dpush_yes bd D tl p1 c1 w4 H4.out.p.d HR1.out hq
            refine wpAnyH_ready (rs := [8]) (by kernel_rfl) (by simp) ?_
            refine AllReadyH.cons rfl (fun K hK => ?_) AllReadyH.nil
            go_simp
            refine kd.mono ?_
            rintro e w6 ⟨rfl, hd, ha⟩
            have hP := H4.out.p.put hd ha
            have h6 := H4.out.left hB4 hP
            have hr6 : w6.heap[b5]? = _ := (hP.t.block b5 (Nat.lt_of_lt_of_le (S.lt_of HRW.out) HB4.out.size) HNT.out).trans ((HB4.out.block b5 (S.lt_of HRW.out)).trans HRW.out)
            have s6 := (And.intro h6.c6.1.1 (S.cell_of _ b5 2 _ _ _ hr6 rfl))
            have HB6 := S.hid ((HB2.out.trans (HB4.out.mono HB2.out.size)).trans (H4.out.pb hB4 hP))
            have HS6 := S.hid (Nat.le_trans hB4 hP.t.size)
            have H6 := S.hid h6
            have HRW6 := S.hid hr6
            clear kd hd ha hP h6 hr6 H4 HR1 s4 s1
            refine hK.out _ _ s6 (fun hHeld => ?_)
            clear hK K
            try simp only [Act.put, List.getElem_toArray, List.getElem_cons_zero, List.getElem_cons_succ, List.setIfInBounds_toArray, List.set_cons_zero, List.set_cons_succ]
            refine wpAnyH_ready (rs := [9]) (by kernel_rfl) (by simp) ?_
            refine AllReadyH.cons rfl (fun K hK => ?_) AllReadyH.nil
            go_simp
            refine hK.out _ _ s6 (fun hHeld => ?_)
            clear hK K
            refine wpAnyH_done (by kernel_rfl) ?_ _
            clear hHeld
            try simp only [Act.put, List.getElem_toArray, List.getElem_cons_zero, List.getElem_cons_succ, List.setIfInBounds_toArray, List.set_cons_zero, List.set_cons_succ]
            clear s6 HB4 HBZ HSA HRW HW2 hroom
            have h6d := H6.out.below ((Below.refl _ w6).drew)
            have hr6d : w6.drew.heap[b5]? = _ := HRW6.out
            have s0 : (fun w' : World => w'.cell? ⟨g, 3, none⟩ = some (.pointer (some ⟨bx, 0, none⟩)) ∧ w'.cell? ⟨b5, 2, none⟩ = some (.slice pv tl.length cv)) w6.drew := (And.intro h6d.c6.2.1 (S.cell_of _ b5 2 _ _ _ hr6d rfl))
            have kr := S.epush_at bx w.heap.size ev D tl (.slice pv tl.length cv) w6.drew h6d.x (HLX.out.1.below HB6.out.drew) hq
            have H6d := S.hid h6d
            clear h6d hr6d H6
            go_upto_region 14 with fail
            try simp only [Act.put, List.getElem_toArray, List.getElem_cons_zero, List.getElem_cons_succ, List.setIfInBounds_toArray, List.set_cons_zero, List.set_cons_succ]
            refine wp_region_held_drew (S := (fun w' : World => w'.cell? ⟨g, 3, none⟩ = some (.pointer (some ⟨bx, 0, none⟩)) ∧ w'.cell? ⟨b5, 2, none⟩ = some (.slice pv tl.length cv))) (by kernel_rfl) s0 (fun hHeld => ?_)
            clear s0
            refine wpAnyH_take (i := 0) (v := ?_) rfl (by kernel_rfl) (by kernel_rfl) (by kernel_rfl) (fun c a w h => h) (Or.inl ⟨by rfl, ?_⟩) hHeld ?_
            rotate_left
            · (intro w hSw; (try dsimp only at hSw); go_simp; try with_reducible rfl)
            simp only [Act.put, List.getElem_toArray, List.getElem_cons_zero, List.getElem_cons_succ, List.setIfInBounds_toArray, List.set_cons_zero, List.set_cons_succ]
            refine wpAnyH_take (i := 1) (v := ?_) rfl (by kernel_rfl) (by kernel_rfl) (by kernel_rfl) (fun c a w h => h) (Or.inl ⟨by rfl, ?_⟩) hHeld ?_
            rotate_left
            · (intro w hSw; (try dsimp only at hSw); go_simp; try with_reducible rfl)
            simp only [Act.put, List.getElem_toArray, List.getElem_cons_zero, List.getElem_cons_succ, List.setIfInBounds_toArray, List.set_cons_zero, List.set_cons_succ]
            refine wpAnyH_take (i := 2) (v := ?_) rfl (by kernel_rfl) (by kernel_rfl) (by kernel_rfl) (fun c a w h => h) (Or.inl ⟨by rfl, ?_⟩) hHeld ?_
            rotate_left
            · (intro w hSw; (try dsimp only at hSw); go_simp; try with_reducible rfl)
            simp only [Act.put, List.getElem_toArray, List.getElem_cons_zero, List.getElem_cons_succ, List.setIfInBounds_toArray, List.set_cons_zero, List.set_cons_succ]
            refine wpAnyH_take (i := 3) (v := ?_) rfl (by kernel_rfl) (by kernel_rfl) (by kernel_rfl) (fun c a w h => h) (Or.inl ⟨by rfl, ?_⟩) hHeld ?_
            rotate_left
            · (intro w hSw; (try dsimp only at hSw); go_simp; try with_reducible rfl)
            simp only [Act.put, List.getElem_toArray, List.getElem_cons_zero, List.getElem_cons_succ, List.setIfInBounds_toArray, List.set_cons_zero, List.set_cons_succ]
            refine wpAnyH_take (i := 4) (v := ?_) rfl (by kernel_rfl) (by kernel_rfl) (by kernel_rfl) (fun c a w h => h) (Or.inl ⟨by rfl, ?_⟩) hHeld ?_
            rotate_left
            · (intro w hSw; (try dsimp only at hSw); go_simp; try with_reducible rfl)
            simp only [Act.put, List.getElem_toArray, List.getElem_cons_zero, List.getElem_cons_succ, List.setIfInBounds_toArray, List.set_cons_zero, List.set_cons_succ]
            refine wpAnyH_take (i := 5) (v := ?_) rfl (by kernel_rfl) (by kernel_rfl) (by kernel_rfl) (fun c a w h => h) (Or.inl ⟨by rfl, ?_⟩) hHeld ?_
            rotate_left
            · (intro w hSw; (try dsimp only at hSw); go_simp; try with_reducible rfl)
            simp only [Act.put, List.getElem_toArray, List.getElem_cons_zero, List.getElem_cons_succ, List.setIfInBounds_toArray, List.set_cons_zero, List.set_cons_succ]
            refine wpAnyH_ready (rs := [6]) (by kernel_rfl) (by simp) ?_
            refine AllReadyH.cons rfl (fun K hK => ?_) AllReadyH.nil
            go_simp
            refine kr.mono ?_
            rintro e w7 ⟨rfl, hev, ha⟩
            have hX := RF.pushD H6d.out.rf hev ha
            have h7 := H6d.out.right HS6.out hX
            have HB7 := S.hid (HB6.out.drew.trans (H6d.out.rb HS6.out hX))
            have hr7 : w7.heap[b5]? = _ := (RXD.kp hX b5 (S.lt_of HRW6.out) HNX.out).trans HRW6.out
            obtain ⟨G7, ev7, qv7, h7⟩ := h7
            have s7 := (And.intro h7.c6.2.1 (S.cell_of _ b5 2 _ _ _ hr7 rfl))
            have HPI := S.hid (show PI w w7 g bd br bm bx bq bz (3 * (k + 1)) from ⟨_, _, _, _, (D ++ tl), R, m, h7.ww, (fun x hx => (List.mem_append.1 hx).elim (HCC.out.1 x) (HLX.out.2.2.2.2.1 x)), HCC.out.2, by omega, HB7.out⟩)
            clear kr hev ha hX h7 hr7
            refine hK.out _ _ s7 (fun hHeld => ?_)
            clear hK K
            try simp only [Act.put, List.getElem_toArray, List.getElem_cons_zero, List.getElem_cons_succ, List.setIfInBounds_toArray, List.set_cons_zero, List.set_cons_succ]
            refine wpAnyH_ready (rs := [7]) (by kernel_rfl) (by simp) ?_
            refine AllReadyH.cons rfl (fun K hK => ?_) AllReadyH.nil
            go_simp
            refine hK.out _ _ s7 (fun hHeld => ?_)
            clear hK K
            refine wpAnyH_done (by kernel_rfl) ?_ _
            clear hHeld
            try simp only [Act.put, List.getElem_toArray, List.getElem_cons_zero, List.getElem_cons_succ, List.setIfInBounds_toArray, List.set_cons_zero, List.set_cons_succ]
            clear s7 HRW6 HB6 HS6 HLX HNT HNX HCC HB2
            go_wp2
            go_roundw
            case rel =>
              first
                | exact ⟨k + 1, by omega, by omega, (by first | rfl | (rw [w1'] <;> rfl)), HPI.out⟩
                | ((repeat apply Exists.intro); refine ⟨⟨k + 1, by omega, by omega, ?_, HPI.out⟩, rfl⟩; first | rfl | (rw [w1'] <;> rfl))
            case measure => exact msrN 300 _ _ k (by first | rfl | (rw [w1'] <;> rfl)) rfl hl3
        go_upto_region 13 with fail
        try simp only [Act.put, List.getElem_toArray, List.getElem_cons_zero, List.getElem_cons_succ, List.setIfInBounds_toArray, List.set_cons_zero, List.set_cons_succ]
        refine wp_region_held_drew (S := (fun w' : World => w'.cell? ⟨g, 0, none⟩ = some (.pointer (some ⟨bd, 0, none⟩)) ∧ w'.cell? ⟨b5, 2, none⟩ = some (.slice pv tl.length cv))) (by kernel_rfl) s0 (fun hHeld => ?_)
        clear s0
        refine wpAnyH_take (i := 0) (v := ?_) rfl (by kernel_rfl) (by kernel_rfl) (by kernel_rfl) (fun c a w h => h) (Or.inl ⟨by rfl, ?_⟩) hHeld ?_
        rotate_left
        · (intro w hSw; (try dsimp only at hSw); go_simp; try with_reducible rfl)
        simp only [Act.put, List.getElem_toArray, List.getElem_cons_zero, List.getElem_cons_succ, List.setIfInBounds_toArray, List.set_cons_zero, List.set_cons_succ]
        refine wpAnyH_take (i := 1) (v := ?_) rfl (by kernel_rfl) (by kernel_rfl) (by kernel_rfl) (fun c a w h => h) (Or.inl ⟨by rfl, ?_⟩) hHeld ?_
        rotate_left
        · (intro w hSw; (try dsimp only at hSw); go_simp; try with_reducible rfl)
        simp only [Act.put, List.getElem_toArray, List.getElem_cons_zero, List.getElem_cons_succ, List.setIfInBounds_toArray, List.set_cons_zero, List.set_cons_succ]
        refine wpAnyH_take (i := 2) (v := ?_) rfl (by kernel_rfl) (by kernel_rfl) (by kernel_rfl) (fun c a w h => h) (Or.inl ⟨by rfl, ?_⟩) hHeld ?_
        rotate_left
        · (intro w hSw; (try dsimp only at hSw); go_simp; try with_reducible rfl)
        simp only [Act.put, List.getElem_toArray, List.getElem_cons_zero, List.getElem_cons_succ, List.setIfInBounds_toArray, List.set_cons_zero, List.set_cons_succ]
        refine wpAnyH_take (i := 3) (v := ?_) rfl (by kernel_rfl) (by kernel_rfl) (by kernel_rfl) (fun c a w h => h) (Or.inl ⟨by rfl, ?_⟩) hHeld ?_
        rotate_left
        · (intro w hSw; (try dsimp only at hSw); go_simp; try with_reducible rfl)
        simp only [Act.put, List.getElem_toArray, List.getElem_cons_zero, List.getElem_cons_succ, List.setIfInBounds_toArray, List.set_cons_zero, List.set_cons_succ]
        refine wpAnyH_take (i := 5) (v := ?_) rfl (by kernel_rfl) (by kernel_rfl) (by kernel_rfl) (fun c a w h => h) (Or.inl ⟨by rfl, ?_⟩) hHeld ?_
        rotate_left
        · (intro w hSw; (try dsimp only at hSw); go_simp; try with_reducible rfl)
        simp only [Act.put, List.getElem_toArray, List.getElem_cons_zero, List.getElem_cons_succ, List.setIfInBounds_toArray, List.set_cons_zero, List.set_cons_succ]
        refine wpAnyH_take (i := 6) (v := ?_) rfl (by kernel_rfl) (by kernel_rfl) (by kernel_rfl) (fun c a w h => h) (Or.inl ⟨by rfl, ?_⟩) hHeld ?_
        rotate_left
        · (intro w hSw; (try dsimp only at hSw); go_simp; try with_reducible rfl)
        simp only [Act.put, List.getElem_toArray, List.getElem_cons_zero, List.getElem_cons_succ, List.setIfInBounds_toArray, List.set_cons_zero, List.set_cons_succ]
        refine wpAnyH_ready (rs := [4]) (by kernel_rfl) (by simp) ?_
        refine AllReadyH.cons rfl (fun K hK => ?_) AllReadyH.nil
        go_simp
        refine hK.out _ _ s1 (fun hHeld => ?_)
        clear hK K
        try simp only [Act.put, List.getElem_toArray, List.getElem_cons_zero, List.getElem_cons_succ, List.setIfInBounds_toArray, List.set_cons_zero, List.set_cons_succ]
        refine wpAnyH_ready (rs := [7]) (by kernel_rfl) (by simp) ?_
        refine AllReadyH.cons rfl (fun K hK => ?_) AllReadyH.nil
        rw [if_pos (by rfl)]
        refine S.wp_append_row _ _ _ 22 31 _ 1 2 Tryz.underlying22 S.info32 rfl (by decide) rfl W5.heap.size _ 0 [] rfl hr0 _ tl.length (S.en S.eU tl) rfl hs0 (by unfold S.room at hroom ⊢; omega) (by unfold S.room at hroom; unfold maxLen; omega) HBZ.out.size (fun v1 w4 hr1 hg1 => ?_)
        have hb4 : Below W5.heap.size W5 w4 := hg1.belowAll (fun gg ee => (hr0.lt gg ee).1) HBZ.out (Nat.le_refl _)
        replace hr1 : w4.ownsRow W5.heap.size 31 1 v1 tl.length (S.en S.eU tl) := by simpa using hr1
        obtain ⟨p1, c1, hv1⟩ := S.ex_slice hr1
        subst hv1
        have s4 := HSA.out w4 hb4
        have h4 := HW2.out.below hb4
        have hB4 : w.heap.size ≤ w4.heap.size := Nat.le_trans HB2.out.size hb4.size
        have HR1 := S.hid (slUN (show S.RowU w4 W5.heap.size (.slice p1 tl.length c1) tl from hr1))
        have H4 := S.hid h4
        have HB4 := S.hid hb4
        clear hr0 hs0 hr1 hg1 h4 hb4
        refine hK.out _ _ s4 (fun hHeld => ?_)
        clear hK K
        try simp only [Act.put, List.getElem_toArray, List.getElem_cons_zero, List.getElem_cons_succ, List.setIfInBounds_toArray, List.set_cons_zero, List.set_cons_succ]
        have kd := S.dpush_no bd D tl p1 c1 w4 H4.out.p.d (by omega) (by unfold S.room at hroom ⊢; omega)
        refine wpAnyH_ready (rs := [8]) (by kernel_rfl) (by simp) ?_
        refine AllReadyH.cons rfl (fun K hK => ?_) AllReadyH.nil
        go_simp
        refine kd.mono ?_
        rintro e w6 ⟨rfl, hw6⟩
        subst hw6
        have hr6 : w6.heap[b5]? = _ := (HB4.out.block b5 (S.lt_of HRW.out)).trans HRW.out
        have s6 := s4
        have HB6 := S.hid (HB2.out.trans (HB4.out.mono HB2.out.size))
        have HS6 := S.hid hB4
        have H6 := H4
        have HRW6 := S.hid hr6
        clear kd hr6 HR1 s1
        refine hK.out _ _ s6 (fun hHeld => ?_)
        clear hK K
        try simp only [Act.put, List.getElem_toArray, List.getElem_cons_zero, List.getElem_cons_succ, List.setIfInBounds_toArray, List.set_cons_zero, List.set_cons_succ]
        refine wpAnyH_ready (rs := [9]) (by kernel_rfl) (by simp) ?_
        refine AllReadyH.cons rfl (fun K hK => ?_) AllReadyH.nil
        go_simp
        refine hK.out _ _ s6 (fun hHeld => ?_)
        clear hK K
        refine wpAnyH_done (by kernel_rfl) ?_ _
        clear hHeld
        try simp only [Act.put, List.getElem_toArray, List.getElem_cons_zero, List.getElem_cons_succ, List.setIfInBounds_toArray, List.set_cons_zero, List.set_cons_succ]
        clear s6 s4 HB4 HBZ HSA HRW HW2
        have hroom2 : tl.length ≤ S.room := by unfold S.room at hroom ⊢; omega
        have h6d := H6.out.below ((Below.refl _ w6).drew)
        have hr6d : w6.drew.heap[b5]? = _ := HRW6.out
        have s0 : (fun w' : World => w'.cell? ⟨g, 3, none⟩ = some (.pointer (some ⟨bx, 0, none⟩)) ∧ w'.cell? ⟨b5, 2, none⟩ = some (.slice pv tl.length cv)) w6.drew := (And.intro h6d.c6.2.1 (S.cell_of _ b5 2 _ _ _ hr6d rfl))
        have kr := S.epush_no bx w.heap.size ev D tl pv cv w6.drew h6d.x (by omega) hroom2
        have HPI := S.hid (show PI w w6.drew g bd br bm bx bq bz (3 * (k + 1)) from ⟨_, _, _, _, D, R, m, h6d.ww, HCC.out.1, HCC.out.2, by omega, HB6.out.drew⟩)
        have s7 := s0
        clear h6d hr6d H6
        go_upto_region 14 with fail
        try simp only [Act.put, List.getElem_toArray, List.getElem_cons_zero, List.getElem_cons_succ, List.setIfInBounds_toArray, List.set_cons_zero, List.set_cons_succ]
        refine wp_region_held_drew (S := (fun w' : World => w'.cell? ⟨g, 3, none⟩ = some (.pointer (some ⟨bx, 0, none⟩)) ∧ w'.cell? ⟨b5, 2, none⟩ = some (.slice pv tl.length cv))) (by kernel_rfl) s0 (fun hHeld => ?_)
        clear s0
        refine wpAnyH_take (i := 0) (v := ?_) rfl (by kernel_rfl) (by kernel_rfl) (by kernel_rfl) (fun c a w h => h) (Or.inl ⟨by rfl, ?_⟩) hHeld ?_
        rotate_left
        · (intro w hSw; (try dsimp only at hSw); go_simp; try with_reducible rfl)
        simp only [Act.put, List.getElem_toArray, List.getElem_cons_zero, List.getElem_cons_succ, List.setIfInBounds_toArray, List.set_cons_zero, List.set_cons_succ]
        refine wpAnyH_take (i := 1) (v := ?_) rfl (by kernel_rfl) (by kernel_rfl) (by kernel_rfl) (fun c a w h => h) (Or.inl ⟨by rfl, ?_⟩) hHeld ?_
        rotate_left
        · (intro w hSw; (try dsimp only at hSw); go_simp; try with_reducible rfl)
        simp only [Act.put, List.getElem_toArray, List.getElem_cons_zero, List.getElem_cons_succ, List.setIfInBounds_toArray, List.set_cons_zero, List.set_cons_succ]
        refine wpAnyH_take (i := 2) (v := ?_) rfl (by kernel_rfl) (by kernel_rfl) (by kernel_rfl) (fun c a w h => h) (Or.inl ⟨by rfl, ?_⟩) hHeld ?_
        rotate_left
        · (intro w hSw; (try dsimp only at hSw); go_simp; try with_reducible rfl)
        simp only [Act.put, List.getElem_toArray, List.getElem_cons_zero, List.getElem_cons_succ, List.setIfInBounds_toArray, List.set_cons_zero, List.set_cons_succ]
        refine wpAnyH_take (i := 3) (v := ?_) rfl (by kernel_rfl) (by kernel_rfl) (by kernel_rfl) (fun c a w h => h) (Or.inl ⟨by rfl, ?_⟩) hHeld ?_
        rotate_left
        · (intro w hSw; (try dsimp only at hSw); go_simp; try with_reducible rfl)
        simp only [Act.put, List.getElem_toArray, List.getElem_cons_zero, List.getElem_cons_succ, List.setIfInBounds_toArray, List.set_cons_zero, List.set_cons_succ]
        refine wpAnyH_take (i := 4) (v := ?_) rfl (by kernel_rfl) (by kernel_rfl) (by kernel_rfl) (fun c a w h => h) (Or.inl ⟨by rfl, ?_⟩) hHeld ?_
        rotate_left
        · (intro w hSw; (try dsimp only at hSw); go_simp; try with_reducible rfl)
        simp only [Act.put, List.getElem_toArray, List.getElem_cons_zero, List.getElem_cons_succ, List.setIfInBounds_toArray, List.set_cons_zero, List.set_cons_succ]
        refine wpAnyH_take (i := 5) (v := ?_) rfl (by kernel_rfl) (by kernel_rfl) (by kernel_rfl) (fun c a w h => h) (Or.inl ⟨by rfl, ?_⟩) hHeld ?_
        rotate_left
        · (intro w hSw; (try dsimp only at hSw); go_simp; try with_reducible rfl)
        simp only [Act.put, List.getElem_toArray, List.getElem_cons_zero, List.getElem_cons_succ, List.setIfInBounds_toArray, List.set_cons_zero, List.set_cons_succ]
        refine wpAnyH_ready (rs := [6]) (by kernel_rfl) (by simp) ?_
        refine AllReadyH.cons rfl (fun K hK => ?_) AllReadyH.nil
        go_simp
        refine kr.mono ?_
        rintro e w7 ⟨rfl, hw7⟩
        subst hw7
        clear kr
        refine hK.out _ _ s7 (fun hHeld => ?_)
        clear hK K
        try simp only [Act.put, List.getElem_toArray, List.getElem_cons_zero, List.getElem_cons_succ, List.setIfInBounds_toArray, List.set_cons_zero, List.set_cons_succ]
        refine wpAnyH_ready (rs := [7]) (by kernel_rfl) (by simp) ?_
        refine AllReadyH.cons rfl (fun K hK => ?_) AllReadyH.nil
        go_simp
        refine hK.out _ _ s7 (fun hHeld => ?_)
        clear hK K
        refine wpAnyH_done (by kernel_rfl) ?_ _
        clear hHeld
        try simp only [Act.put, List.getElem_toArray, List.getElem_cons_zero, List.getElem_cons_succ, List.setIfInBounds_toArray, List.set_cons_zero, List.set_cons_succ]
        clear s7 HRW6 HB6 HS6 HLX HNT HNX HCC HB2
        go_wp2
        go_roundw
        case rel =>
          first
            | exact ⟨k + 1, by omega, by omega, (by first | rfl | (rw [w1'] <;> rfl)), HPI.out⟩
            | ((repeat apply Exists.intro); refine ⟨⟨k + 1, by omega, by omega, ?_, HPI.out⟩, rfl⟩; first | rfl | (rw [w1'] <;> rfl))
        case measure => exact msrN 300 _ _ k (by first | rfl | (rw [w1'] <;> rfl)) rfl hl3
    have f2 : (tk == 2) = false := beq_eq_false_iff_ne.mpr k2
    by_cases k3 : tk = 3
    case pos =>
      as_aux_lemma =>
        subst k3
        have hsA : ∀ W', Below W5.heap.size W5 W' → (fun w' : World => w'.cell? ⟨g, 1, none⟩ = some (.pointer (some ⟨br, 0, none⟩)) ∧ w'.cell? ⟨b5, 3, none⟩ = some (.slice pu tm.length cu)) W' := fun W' j => (And.intro (HW2.out.below j).c6.1.2.1 (S.cell_of _ b5 3 _ _ _ ((j.block b5 (S.lt_of HRW.out)).trans HRW.out) rfl))
        have s0 := hsA _ ((Below.refl _ W5).drew)
        have HSA := S.hid hsA
        have s1 := hsA _ (bda W5 (.cells #[] 68))
        have hr0 := S.own_empty W5.drew 68 2
        have hbz := bda W5 (.cells #[] 68)
        have hs0 : S.Cs (W5.drew.alloc (.cells #[] 68)) (.slice pu tm.length cu) 2 tm.length (S.en S.eK tm) := (HLX.out.2.1.below (HB2.out.trans (hbz.mono HB2.out.size))).cs S.hK (by decide) S.oneK
        have hroom := HLX.out.2.2.2.1
        have HBZ := S.hid hbz
        clear hsA
        by_cases hq : R.length + tm.length ≤ 128
        case pos =>
          as_aux_lemma =>
            go_upto_region 17 with fail
            try simp only [Act.put, List.getElem_toArray, List.getElem_cons_zero, List.getElem_cons_succ, List.setIfInBounds_toArray, List.set_cons_zero, List.set_cons_succ]
            refine wp_region_held_drew (S := (fun w' : World => w'.cell? ⟨g, 1, none⟩ = some (.pointer (some ⟨br, 0, none⟩)) ∧ w'.cell? ⟨b5, 3, none⟩ = some (.slice pu tm.length cu))) (by kernel_rfl) s0 (fun hHeld => ?_)
            clear s0
            refine wpAnyH_take (i := 0) (v := ?_) rfl (by kernel_rfl) (by kernel_rfl) (by kernel_rfl) (fun c a w h => h) (Or.inl ⟨by rfl, ?_⟩) hHeld ?_
            rotate_left
            · (intro w hSw; (try dsimp only at hSw); go_simp; try with_reducible rfl)
            simp only [Act.put, List.getElem_toArray, List.getElem_cons_zero, List.getElem_cons_succ, List.setIfInBounds_toArray, List.set_cons_zero, List.set_cons_succ]
            refine wpAnyH_take (i := 1) (v := ?_) rfl (by kernel_rfl) (by kernel_rfl) (by kernel_rfl) (fun c a w h => h) (Or.inl ⟨by rfl, ?_⟩) hHeld ?_
            rotate_left
            · (intro w hSw; (try dsimp only at hSw); go_simp; try with_reducible rfl)
            simp only [Act.put, List.getElem_toArray, List.getElem_cons_zero, List.getElem_cons_succ, List.setIfInBounds_toArray, List.set_cons_zero, List.set_cons_succ]
            refine wpAnyH_take (i := 2) (v := ?_) rfl (by kernel_rfl) (by kernel_rfl) (by kernel_rfl) (fun c a w h => h) (Or.inl ⟨by rfl, ?_⟩) hHeld ?_
            rotate_left
            · (intro w hSw; (try dsimp only at hSw); go_simp; try with_reducible rfl)
            simp only [Act.put, List.getElem_toArray, List.getElem_cons_zero, List.getElem_cons_succ, List.setIfInBounds_toArray, List.set_cons_zero, List.set_cons_succ]
            refine wpAnyH_take (i := 3) (v := ?_) rfl (by kernel_rfl) (by kernel_rfl) (by kernel_rfl) (fun c a w h => h) (Or.inl ⟨by rfl, ?_⟩) hHeld ?_
            rotate_left
            · (intro w hSw; (try dsimp only at hSw); go_simp; try with_reducible rfl)
            simp only [Act.put, List.getElem_toArray, List.getElem_cons_zero, List.getElem_cons_succ, List.setIfInBounds_toArray, List.set_cons_zero, List.set_cons_succ]
            refine wpAnyH_take (i := 5) (v := ?_) rfl (by kernel_rfl) (by kernel_rfl) (by kernel_rfl) (fun c a w h => h) (Or.inl ⟨by rfl, ?_⟩) hHeld ?_
            rotate_left
            · (intro w hSw; (try dsimp only at hSw); go_simp; try with_reducible rfl)
            simp only [Act.put, List.getElem_toArray, List.getElem_cons_zero, List.getElem_cons_succ, List.setIfInBounds_toArray, List.set_cons_zero, List.set_cons_succ]
            refine wpAnyH_take (i := 6) (v := ?_) rfl (by kernel_rfl) (by kernel_rfl) (by kernel_rfl) (fun c a w h => h) (Or.inl ⟨by rfl, ?_⟩) hHeld ?_
            rotate_left
            · (intro w hSw; (try dsimp only at hSw); go_simp; try with_reducible rfl)
            simp only [Act.put, List.getElem_toArray, List.getElem_cons_zero, List.getElem_cons_succ, List.setIfInBounds_toArray, List.set_cons_zero, List.set_cons_succ]
            refine wpAnyH_ready (rs := [4]) (by kernel_rfl) (by simp) ?_
            refine AllReadyH.cons rfl (fun K hK => ?_) AllReadyH.nil
            go_simp
            refine hK.out _ _ s1 (fun hHeld => ?_)
            clear hK K
            try simp only [Act.put, List.getElem_toArray, List.getElem_cons_zero, List.getElem_cons_succ, List.setIfInBounds_toArray, List.set_cons_zero, List.set_cons_succ]
            refine wpAnyH_ready (rs := [7]) (by kernel_rfl) (by simp) ?_
            refine AllReadyH.cons rfl (fun K hK => ?_) AllReadyH.nil
            rw [if_pos (by rfl)]
            refine S.wp_append_row _ _ _ 23 68 _ 2 16 Tryz.underlying23 S.info43 rfl (by decide) rfl W5.heap.size _ 0 [] rfl hr0 _ tm.length (S.en S.eK tm) rfl hs0 (by unfold S.room at hroom ⊢; omega) (by unfold S.room at hroom; unfold maxLen; omega) HBZ.out.size (fun v1 w4 hr1 hg1 => ?_)
            have hb4 : Below W5.heap.size W5 w4 := hg1.belowAll (fun gg ee => (hr0.lt gg ee).1) HBZ.out (Nat.le_refl _)
            replace hr1 : w4.ownsRow W5.heap.size 68 2 v1 tm.length (S.en S.eK tm) := by simpa using hr1
            obtain ⟨p1, c1, hv1⟩ := S.ex_slice hr1
            subst hv1
            have s4 := HSA.out w4 hb4
            have h4 := HW2.out.below hb4
            have hB4 : w.heap.size ≤ w4.heap.size := Nat.le_trans HB2.out.size hb4.size
            have HR1 := S.hid (slKN (show S.RowK w4 W5.heap.size (.slice p1 tm.length c1) tm from hr1))
            have H4 := S.hid h4
            have HB4 := S.hid hb4
            clear hr0 hs0 hr1 hg1 h4 hb4
            refine hK.out _ _ s4 (fun hHeld => ?_)
            clear hK K
            try simp only [Act.put, List.getElem_toArray, List.getElem_cons_zero, List.getElem_cons_succ, List.setIfInBounds_toArray, List.set_cons_zero, List.set_cons_succ]
            have kd := S.rpush_yes br R tm p1 c1 w4 H4.out.p.r HR1.out hq
            refine wpAnyH_ready (rs := [8]) (by kernel_rfl) (by simp) ?_
            refine AllReadyH.cons rfl (fun K hK => ?_) AllReadyH.nil
            go_simp
            refine kd.mono ?_
            rintro e w6 ⟨rfl, hd, ha⟩
            have hP := H4.out.p.save hd ha
            have h6 := H4.out.left hB4 hP
            have hr6 : w6.heap[b5]? = _ := (hP.t.block b5 (Nat.lt_of_lt_of_le (S.lt_of HRW.out) HB4.out.size) HNT.out).trans ((HB4.out.block b5 (S.lt_of HRW.out)).trans HRW.out)
            have s6 := (And.intro h6.c6.1.2.1 (S.cell_of _ b5 3 _ _ _ hr6 rfl))
            have HB6 := S.hid ((HB2.out.trans (HB4.out.mono HB2.out.size)).trans (H4.out.pb hB4 hP))
            have HS6 := S.hid (Nat.le_trans hB4 hP.t.size)
            have H6 := S.hid h6
            have HRW6 := S.hid hr6
            clear kd hd ha hP h6 hr6 H4 HR1 s4 s1
            refine hK.out _ _ s6 (fun hHeld => ?_)
            clear hK K
            try simp only [Act.put, List.getElem_toArray, List.getElem_cons_zero, List.getElem_cons_succ, List.setIfInBounds_toArray, List.set_cons_zero, List.set_cons_succ]
            refine wpAnyH_ready (rs := [9]) (by kernel_rfl) (by simp) ?_
            refine AllReadyH.cons rfl (fun K hK => ?_) AllReadyH.nil
            go_simp
            refine hK.out _ _ s6 (fun hHeld => ?_)
            clear hK K
            refine wpAnyH_done (by kernel_rfl) ?_ _
            clear hHeld
            try simp only [Act.put, List.getElem_toArray, List.getElem_cons_zero, List.getElem_cons_succ, List.setIfInBounds_toArray, List.set_cons_zero, List.set_cons_succ]
            clear s6 HB4 HBZ HSA HRW HW2 hroom
            have h6d := H6.out.below ((Below.refl _ w6).drew)
            have hr6d : w6.drew.heap[b5]? = _ := HRW6.out
            have s0 : (fun w' : World => w'.cell? ⟨g, 4, none⟩ = some (.pointer (some ⟨bq, 0, none⟩)) ∧ w'.cell? ⟨b5, 3, none⟩ = some (.slice pu tm.length cu)) w6.drew := (And.intro h6d.c6.2.2.1 (S.cell_of _ b5 3 _ _ _ hr6d rfl))
            have kr := S.qpush_at bq w.heap.size qv R tm (.slice pu tm.length cu) w6.drew h6d.y (HLX.out.2.1.below HB6.out.drew) hq
            have H6d := S.hid h6d
            clear h6d hr6d H6
            go_upto_region 18 with fail
            try simp only [Act.put, List.getElem_toArray, List.getElem_cons_zero, List.getElem_cons_succ, List.setIfInBounds_toArray, List.set_cons_zero, List.set_cons_succ]
            refine wp_region_held_drew (S := (fun w' : World => w'.cell? ⟨g, 4, none⟩ = some (.pointer (some ⟨bq, 0, none⟩)) ∧ w'.cell? ⟨b5, 3, none⟩ = some (.slice pu tm.length cu))) (by kernel_rfl) s0 (fun hHeld => ?_)
            clear s0
            refine wpAnyH_take (i := 0) (v := ?_) rfl (by kernel_rfl) (by kernel_rfl) (by kernel_rfl) (fun c a w h => h) (Or.inl ⟨by rfl, ?_⟩) hHeld ?_
            rotate_left
            · (intro w hSw; (try dsimp only at hSw); go_simp; try with_reducible rfl)
            simp only [Act.put, List.getElem_toArray, List.getElem_cons_zero, List.getElem_cons_succ, List.setIfInBounds_toArray, List.set_cons_zero, List.set_cons_succ]
            refine wpAnyH_take (i := 1) (v := ?_) rfl (by kernel_rfl) (by kernel_rfl) (by kernel_rfl) (fun c a w h => h) (Or.inl ⟨by rfl, ?_⟩) hHeld ?_
            rotate_left
            · (intro w hSw; (try dsimp only at hSw); go_simp; try with_reducible rfl)
            simp only [Act.put, List.getElem_toArray, List.getElem_cons_zero, List.getElem_cons_succ, List.setIfInBounds_toArray, List.set_cons_zero, List.set_cons_succ]
            refine wpAnyH_take (i := 2) (v := ?_) rfl (by kernel_rfl) (by kernel_rfl) (by kernel_rfl) (fun c a w h => h) (Or.inl ⟨by rfl, ?_⟩) hHeld ?_
            rotate_left
            · (intro w hSw; (try dsimp only at hSw); go_simp; try with_reducible rfl)
            simp only [Act.put, List.getElem_toArray, List.getElem_cons_zero, List.getElem_cons_succ, List.setIfInBounds_toArray, List.set_cons_zero, List.set_cons_succ]
            refine wpAnyH_take (i := 3) (v := ?_) rfl (by kernel_rfl) (by kernel_rfl) (by kernel_rfl) (fun c a w h => h) (Or.inl ⟨by rfl, ?_⟩) hHeld ?_
            rotate_left
            · (intro w hSw; (try dsimp only at hSw); go_simp; try with_reducible rfl)
            simp only [Act.put, List.getElem_toArray, List.getElem_cons_zero, List.getElem_cons_succ, List.setIfInBounds_toArray, List.set_cons_zero, List.set_cons_succ]
            refine wpAnyH_take (i := 4) (v := ?_) rfl (by kernel_rfl) (by kernel_rfl) (by kernel_rfl) (fun c a w h => h) (Or.inl ⟨by rfl, ?_⟩) hHeld ?_
            rotate_left
            · (intro w hSw; (try dsimp only at hSw); go_simp; try with_reducible rfl)
            simp only [Act.put, List.getElem_toArray, List.getElem_cons_zero, List.getElem_cons_succ, List.setIfInBounds_toArray, List.set_cons_zero, List.set_cons_succ]
            refine wpAnyH_take (i := 5) (v := ?_) rfl (by kernel_rfl) (by kernel_rfl) (by kernel_rfl) (fun c a w h => h) (Or.inl ⟨by rfl, ?_⟩) hHeld ?_
            rotate_left
            · (intro w hSw; (try dsimp only at hSw); go_simp; try with_reducible rfl)
            simp only [Act.put, List.getElem_toArray, List.getElem_cons_zero, List.getElem_cons_succ, List.setIfInBounds_toArray, List.set_cons_zero, List.set_cons_succ]
            refine wpAnyH_ready (rs := [6]) (by kernel_rfl) (by simp) ?_
            refine AllReadyH.cons rfl (fun K hK => ?_) AllReadyH.nil
            go_simp
            refine kr.mono ?_
            rintro e w7 ⟨rfl, hev, ha⟩
            have hX := RF.pushR H6d.out.rf hev ha
            have h7 := H6d.out.right HS6.out hX
            have HB7 := S.hid (HB6.out.drew.trans (H6d.out.rb HS6.out hX))
            have hr7 : w7.heap[b5]? = _ := (RXD.kp hX b5 (S.lt_of HRW6.out) HNX.out).trans HRW6.out
            obtain ⟨G7, ev7, qv7, h7⟩ := h7
            have s7 := (And.intro h7.c6.2.2.1 (S.cell_of _ b5 3 _ _ _ hr7 rfl))
            have HPI := S.hid (show PI w w7 g bd br bm bx bq bz (3 * (k + 1)) from ⟨_, _, _, _, D, (R ++ tm), m, h7.ww, HCC.out.1, (fun x hx => (List.mem_append.1 hx).elim (HCC.out.2 x) (HLX.out.2.2.2.2.2.1 x)), by omega, HB7.out⟩)
            clear kr hev ha hX h7 hr7
            refine hK.out _ _ s7 (fun hHeld => ?_)
            clear hK K
            try simp only [Act.put, List.getElem_toArray, List.getElem_cons_zero, List.getElem_cons_succ, List.setIfInBounds_toArray, List.set_cons_zero, List.set_cons_succ]
            refine wpAnyH_ready (rs := [7]) (by kernel_rfl) (by simp) ?_
            refine AllReadyH.cons rfl (fun K hK => ?_) AllReadyH.nil
            go_simp
            refine hK.out _ _ s7 (fun hHeld => ?_)
            clear hK K
            refine wpAnyH_done (by kernel_rfl) ?_ _
            clear hHeld
            try simp only [Act.put, List.getElem_toArray, List.getElem_cons_zero, List.getElem_cons_succ, List.setIfInBounds_toArray, List.set_cons_zero, List.set_cons_succ]
            clear s7 HRW6 HB6 HS6 HLX HNT HNX HCC HB2
            go_wp2
            go_roundw
            case rel =>
              first
                | exact ⟨k + 1, by omega, by omega, (by first | rfl | (rw [w1'] <;> rfl)), HPI.out⟩
                | ((repeat apply Exists.intro); refine ⟨⟨k + 1, by omega, by omega, ?_, HPI.out⟩, rfl⟩; first | rfl | (rw [w1'] <;> rfl))
            case measure => exact msrN 300 _ _ k (by first | rfl | (rw [w1'] <;> rfl)) rfl hl3
        go_upto_region 17 with fail
        try simp only [Act.put, List.getElem_toArray, List.getElem_cons_zero, List.getElem_cons_succ, List.setIfInBounds_toArray, List.set_cons_zero, List.set_cons_succ]
        refine wp_region_held_drew (S := (fun w' : World => w'.cell? ⟨g, 1, none⟩ = some (.pointer (some ⟨br, 0, none⟩)) ∧ w'.cell? ⟨b5, 3, none⟩ = some (.slice pu tm.length cu))) (by kernel_rfl) s0 (fun hHeld => ?_)
        clear s0
        refine wpAnyH_take (i := 0) (v := ?_) rfl (by kernel_rfl) (by kernel_rfl) (by kernel_rfl) (fun c a w h => h) (Or.inl ⟨by rfl, ?_⟩) hHeld ?_
        rotate_left
        · (intro w hSw; (try dsimp only at hSw); go_simp; try with_reducible rfl)
        simp only [Act.put, List.getElem_toArray, List.getElem_cons_zero, List.getElem_cons_succ, List.setIfInBounds_toArray, List.set_cons_zero, List.set_cons_succ]
        refine wpAnyH_take (i := 1) (v := ?_) rfl (by kernel_rfl) (by kernel_rfl) (by kernel_rfl) (fun c a w h => h) (Or.inl ⟨by rfl, ?_⟩) hHeld ?_
        rotate_left
        · (intro w hSw; (try dsimp only at hSw); go_simp; try with_reducible rfl)
        simp only [Act.put, List.getElem_toArray, List.getElem_cons_zero, List.getElem_cons_succ, List.setIfInBounds_toArray, List.set_cons_zero, List.set_cons_succ]
        refine wpAnyH_take (i := 2) (v := ?_) rfl (by kernel_rfl) (by kernel_rfl) (by kernel_rfl) (fun c a w h => h) (Or.inl ⟨by rfl, ?_⟩) hHeld ?_
        rotate_left
        · (intro w hSw; (try dsimp only at hSw); go_simp; try with_reducible rfl)
        simp only [Act.put, List.getElem_toArray, List.getElem_cons_zero, List.getElem_cons_succ, List.setIfInBounds_toArray, List.set_cons_zero, List.set_cons_succ]
        refine wpAnyH_take (i := 3) (v := ?_) rfl (by kernel_rfl) (by kernel_rfl) (by kernel_rfl) (fun c a w h => h) (Or.inl ⟨by rfl, ?_⟩) hHeld ?_
        rotate_left
        · (intro w hSw; (try dsimp only at hSw); go_simp; try with_reducible rfl)
        simp only [Act.put, List.getElem_toArray, List.getElem_cons_zero, List.getElem_cons_succ, List.setIfInBounds_toArray, List.set_cons_zero, List.set_cons_succ]
        refine wpAnyH_take (i := 5) (v := ?_) rfl (by kernel_rfl) (by kernel_rfl) (by kernel_rfl) (fun c a w h => h) (Or.inl ⟨by rfl, ?_⟩) hHeld ?_
        rotate_left
        · (intro w hSw; (try dsimp only at hSw); go_simp; try with_reducible rfl)
        simp only [Act.put, List.getElem_toArray, List.getElem_cons_zero, List.getElem_cons_succ, List.setIfInBounds_toArray, List.set_cons_zero, List.set_cons_succ]
        refine wpAnyH_take (i := 6) (v := ?_) rfl (by kernel_rfl) (by kernel_rfl) (by kernel_rfl) (fun c a w h => h) (Or.inl ⟨by rfl, ?_⟩) hHeld ?_
        rotate_left
        · (intro w hSw; (try dsimp only at hSw); go_simp; try with_reducible rfl)
        simp only [Act.put, List.getElem_toArray, List.getElem_cons_zero, List.getElem_cons_succ, List.setIfInBounds_toArray, List.set_cons_zero, List.set_cons_succ]
        refine wpAnyH_ready (rs := [4]) (by kernel_rfl) (by simp) ?_
        refine AllReadyH.cons rfl (fun K hK => ?_) AllReadyH.nil
        go_simp
        refine hK.out _ _ s1 (fun hHeld => ?_)
        clear hK K
        try simp only [Act.put, List.getElem_toArray, List.getElem_cons_zero, List.getElem_cons_succ, List.setIfInBounds_toArray, List.set_cons_zero, List.set_cons_succ]
        refine wpAnyH_ready (rs := [7]) (by kernel_rfl) (by simp) ?_
        refine AllReadyH.cons rfl (fun K hK => ?_) AllReadyH.nil
        rw [if_pos (by rfl)]
        refine S.wp_append_row _ _ _ 23 68 _ 2 16 Tryz.underlying23 S.info43 rfl (by decide) rfl W5.heap.size _ 0 [] rfl hr0 _ tm.length (S.en S.eK tm) rfl hs0 (by unfold S.room at hroom ⊢; omega) (by unfold S.room at hroom; unfold maxLen; omega) HBZ.out.size (fun v1 w4 hr1 hg1 => ?_)
        have hb4 : Below W5.heap.size W5 w4 := hg1.belowAll (fun gg ee => (hr0.lt gg ee).1) HBZ.out (Nat.le_refl _)
        replace hr1 : w4.ownsRow W5.heap.size 68 2 v1 tm.length (S.en S.eK tm) := by simpa using hr1
        obtain ⟨p1, c1, hv1⟩ := S.ex_slice hr1
        subst hv1
        have s4 := HSA.out w4 hb4
        have h4 := HW2.out.below hb4
        have hB4 : w.heap.size ≤ w4.heap.size := Nat.le_trans HB2.out.size hb4.size
        have HR1 := S.hid (slKN (show S.RowK w4 W5.heap.size (.slice p1 tm.length c1) tm from hr1))
        have H4 := S.hid h4
        have HB4 := S.hid hb4
        clear hr0 hs0 hr1 hg1 h4 hb4
        refine hK.out _ _ s4 (fun hHeld => ?_)
        clear hK K
        try simp only [Act.put, List.getElem_toArray, List.getElem_cons_zero, List.getElem_cons_succ, List.setIfInBounds_toArray, List.set_cons_zero, List.set_cons_succ]
        have kd := S.rpush_no br R tm p1 c1 w4 H4.out.p.r (by omega) (by unfold S.room at hroom ⊢; omega)
        refine wpAnyH_ready (rs := [8]) (by kernel_rfl) (by simp) ?_
        refine AllReadyH.cons rfl (fun K hK => ?_) AllReadyH.nil
        go_simp
        refine kd.mono ?_
        rintro e w6 ⟨rfl, hw6⟩
        subst hw6
        have hr6 : w6.heap[b5]? = _ := (HB4.out.block b5 (S.lt_of HRW.out)).trans HRW.out
        have s6 := s4
        have HB6 := S.hid (HB2.out.trans (HB4.out.mono HB2.out.size))
        have HS6 := S.hid hB4
        have H6 := H4
        have HRW6 := S.hid hr6
        clear kd hr6 HR1 s1
        refine hK.out _ _ s6 (fun hHeld => ?_)
        clear hK K
        try simp only [Act.put, List.getElem_toArray, List.getElem_cons_zero, List.getElem_cons_succ, List.setIfInBounds_toArray, List.set_cons_zero, List.set_cons_succ]
        refine wpAnyH_ready (rs := [9]) (by kernel_rfl) (by simp) ?_
        refine AllReadyH.cons rfl (fun K hK => ?_) AllReadyH.nil
        go_simp
        refine hK.out _ _ s6 (fun hHeld => ?_)
        clear hK K
        refine wpAnyH_done (by kernel_rfl) ?_ _
        clear hHeld
        try simp only [Act.put, List.getElem_toArray, List.getElem_cons_zero, List.getElem_cons_succ, List.setIfInBounds_toArray, List.set_cons_zero, List.set_cons_succ]
        clear s6 s4 HB4 HBZ HSA HRW HW2
        have hroom2 : tm.length ≤ S.room := by unfold S.room at hroom ⊢; omega
        have h6d := H6.out.below ((Below.refl _ w6).drew)
        have hr6d : w6.drew.heap[b5]? = _ := HRW6.out
        have s0 : (fun w' : World => w'.cell? ⟨g, 4, none⟩ = some (.pointer (some ⟨bq, 0, none⟩)) ∧ w'.cell? ⟨b5, 3, none⟩ = some (.slice pu tm.length cu)) w6.drew := (And.intro h6d.c6.2.2.1 (S.cell_of _ b5 3 _ _ _ hr6d rfl))
        have kr := S.qpush_no bq w.heap.size qv R tm pu cu w6.drew h6d.y (by omega) hroom2
        have HPI := S.hid (show PI w w6.drew g bd br bm bx bq bz (3 * (k + 1)) from ⟨_, _, _, _, D, R, m, h6d.ww, HCC.out.1, HCC.out.2, by omega, HB6.out.drew⟩)
        have s7 := s0
        clear h6d hr6d H6
        go_upto_region 18 with fail
        try simp only [Act.put, List.getElem_toArray, List.getElem_cons_zero, List.getElem_cons_succ, List.setIfInBounds_toArray, List.set_cons_zero, List.set_cons_succ]
        refine wp_region_held_drew (S := (fun w' : World => w'.cell? ⟨g, 4, none⟩ = some (.pointer (some ⟨bq, 0, none⟩)) ∧ w'.cell? ⟨b5, 3, none⟩ = some (.slice pu tm.length cu))) (by kernel_rfl) s0 (fun hHeld => ?_)
        clear s0
        refine wpAnyH_take (i := 0) (v := ?_) rfl (by kernel_rfl) (by kernel_rfl) (by kernel_rfl) (fun c a w h => h) (Or.inl ⟨by rfl, ?_⟩) hHeld ?_
        rotate_left
        · (intro w hSw; (try dsimp only at hSw); go_simp; try with_reducible rfl)
        simp only [Act.put, List.getElem_toArray, List.getElem_cons_zero, List.getElem_cons_succ, List.setIfInBounds_toArray, List.set_cons_zero, List.set_cons_succ]
        refine wpAnyH_take (i := 1) (v := ?_) rfl (by kernel_rfl) (by kernel_rfl) (by kernel_rfl) (fun c a w h => h) (Or.inl ⟨by rfl, ?_⟩) hHeld ?_
        rotate_left
        · (intro w hSw; (try dsimp only at hSw); go_simp; try with_reducible rfl)
        simp only [Act.put, List.getElem_toArray, List.getElem_cons_zero, List.getElem_cons_succ, List.setIfInBounds_toArray, List.set_cons_zero, List.set_cons_succ]
        refine wpAnyH_take (i := 2) (v := ?_) rfl (by kernel_rfl) (by kernel_rfl) (by kernel_rfl) (fun c a w h => h) (Or.inl ⟨by rfl, ?_⟩) hHeld ?_
        rotate_left
        · (intro w hSw; (try dsimp only at hSw); go_simp; try with_reducible rfl)
        simp only [Act.put, List.getElem_toArray, List.getElem_cons_zero, List.getElem_cons_succ, List.setIfInBounds_toArray, List.set_cons_zero, List.set_cons_succ]
        refine wpAnyH_take (i := 3) (v := ?_) rfl (by kernel_rfl) (by kernel_rfl) (by kernel_rfl) (fun c a w h => h) (Or.inl ⟨by rfl, ?_⟩) hHeld ?_
        rotate_left
        · (intro w hSw; (try dsimp only at hSw); go_simp; try with_reducible rfl)
        simp only [Act.put, List.getElem_toArray, List.getElem_cons_zero, List.getElem_cons_succ, List.setIfInBounds_toArray, List.set_cons_zero, List.set_cons_succ]
        refine wpAnyH_take (i := 4) (v := ?_) rfl (by kernel_rfl) (by kernel_rfl) (by kernel_rfl) (fun c a w h => h) (Or.inl ⟨by rfl, ?_⟩) hHeld ?_
        rotate_left
        · (intro w hSw; (try dsimp only at hSw); go_simp; try with_reducible rfl)
        simp only [Act.put, List.getElem_toArray, List.getElem_cons_zero, List.getElem_cons_succ, List.setIfInBounds_toArray, List.set_cons_zero, List.set_cons_succ]
        refine wpAnyH_take (i := 5) (v := ?_) rfl (by kernel_rfl) (by kernel_rfl) (by kernel_rfl) (fun c a w h => h) (Or.inl ⟨by rfl, ?_⟩) hHeld ?_
        rotate_left
        · (intro w hSw; (try dsimp only at hSw); go_simp; try with_reducible rfl)
        simp only [Act.put, List.getElem_toArray, List.getElem_cons_zero, List.getElem_cons_succ, List.setIfInBounds_toArray, List.set_cons_zero, List.set_cons_succ]
        refine wpAnyH_ready (rs := [6]) (by kernel_rfl) (by simp) ?_
        refine AllReadyH.cons rfl (fun K hK => ?_) AllReadyH.nil
        go_simp
        refine kr.mono ?_
        rintro e w7 ⟨rfl, hw7⟩
        subst hw7
        clear kr
        refine hK.out _ _ s7 (fun hHeld => ?_)
        clear hK K
        try simp only [Act.put, List.getElem_toArray, List.getElem_cons_zero, List.getElem_cons_succ, List.setIfInBounds_toArray, List.set_cons_zero, List.set_cons_succ]
        refine wpAnyH_ready (rs := [7]) (by kernel_rfl) (by simp) ?_
        refine AllReadyH.cons rfl (fun K hK => ?_) AllReadyH.nil
        go_simp
        refine hK.out _ _ s7 (fun hHeld => ?_)
        clear hK K
        refine wpAnyH_done (by kernel_rfl) ?_ _
        clear hHeld
        try simp only [Act.put, List.getElem_toArray, List.getElem_cons_zero, List.getElem_cons_succ, List.setIfInBounds_toArray, List.set_cons_zero, List.set_cons_succ]
        clear s7 HRW6 HB6 HS6 HLX HNT HNX HCC HB2
        go_wp2
        go_roundw
        case rel =>
          first
            | exact ⟨k + 1, by omega, by omega, (by first | rfl | (rw [w1'] <;> rfl)), HPI.out⟩
            | ((repeat apply Exists.intro); refine ⟨⟨k + 1, by omega, by omega, ?_, HPI.out⟩, rfl⟩; first | rfl | (rw [w1'] <;> rfl))
        case measure => exact msrN 300 _ _ k (by first | rfl | (rw [w1'] <;> rfl)) rfl hl3
    have f3 : (tk == 3) = false := beq_eq_false_iff_ne.mpr k3
    by_cases k4 : tk = 4
    case pos =>
      as_aux_lemma =>
        subst k4
        have h5d := HW2.out.below ((Below.refl _ W5).drew)
        have hr5d : W5.drew.heap[b5]? = _ := HRW.out
        have s0 : (fun w' : World => w'.cell? ⟨g, 2, none⟩ = some (.pointer (some ⟨bm, 0, none⟩)) ∧ w'.cell? ⟨b5, 4, none⟩ = some (.int .u16 tat) ∧ w'.cell? ⟨b5, 5, none⟩ = some (.int .u8 (M.bt tx))) W5.drew := (And.intro h5d.c6.1.2.2 (And.intro (S.cell_of _ b5 4 _ _ _ hr5d rfl) (S.cell_of _ b5 5 _ _ _ hr5d rfl)))
        have hat := HLX.out.2.2.2.2.2.2
        have kd := M.store_any bm tat hat.1 hat.2 tx W5.drew h5d.p.m (by omega)
        have H5d := S.hid h5d
        clear h5d hr5d HW2
        go_upto_region 21 with fail
        try simp only [Act.put, List.getElem_toArray, List.getElem_cons_zero, List.getElem_cons_succ, List.setIfInBounds_toArray, List.set_cons_zero, List.set_cons_succ]
        refine wp_region_held_drew (S := (fun w' : World => w'.cell? ⟨g, 2, none⟩ = some (.pointer (some ⟨bm, 0, none⟩)) ∧ w'.cell? ⟨b5, 4, none⟩ = some (.int .u16 tat) ∧ w'.cell? ⟨b5, 5, none⟩ = some (.int .u8 (M.bt tx)))) (by kernel_rfl) s0 (fun hHeld => ?_)
        clear s0
        refine wpAnyH_take (i := 0) (v := ?_) rfl (by kernel_rfl) (by kernel_rfl) (by kernel_rfl) (fun c a w h => h) (Or.inl ⟨by rfl, ?_⟩) hHeld ?_
        rotate_left
        · (intro w hSw; (try dsimp only at hSw); go_simp; try with_reducible rfl)
        simp only [Act.put, List.getElem_toArray, List.getElem_cons_zero, List.getElem_cons_succ, List.setIfInBounds_toArray, List.set_cons_zero, List.set_cons_succ]
        refine wpAnyH_take (i := 1) (v := ?_) rfl (by kernel_rfl) (by kernel_rfl) (by kernel_rfl) (fun c a w h => h) (Or.inl ⟨by rfl, ?_⟩) hHeld ?_
        rotate_left
        · (intro w hSw; (try dsimp only at hSw); go_simp; try with_reducible rfl)
        simp only [Act.put, List.getElem_toArray, List.getElem_cons_zero, List.getElem_cons_succ, List.setIfInBounds_toArray, List.set_cons_zero, List.set_cons_succ]
        refine wpAnyH_take (i := 2) (v := ?_) rfl (by kernel_rfl) (by kernel_rfl) (by kernel_rfl) (fun c a w h => h) (Or.inl ⟨by rfl, ?_⟩) hHeld ?_
        rotate_left
        · (intro w hSw; (try dsimp only at hSw); go_simp; try with_reducible rfl)
        simp only [Act.put, List.getElem_toArray, List.getElem_cons_zero, List.getElem_cons_succ, List.setIfInBounds_toArray, List.set_cons_zero, List.set_cons_succ]
        refine wpAnyH_take (i := 3) (v := ?_) rfl (by kernel_rfl) (by kernel_rfl) (by kernel_rfl) (fun c a w h => h) (Or.inl ⟨by rfl, ?_⟩) hHeld ?_
        rotate_left
        · (intro w hSw; (try dsimp only at hSw); go_simp; try with_reducible rfl)
        simp only [Act.put, List.getElem_toArray, List.getElem_cons_zero, List.getElem_cons_succ, List.setIfInBounds_toArray, List.set_cons_zero, List.set_cons_succ]
        refine wpAnyH_take (i := 4) (v := ?_) rfl (by kernel_rfl) (by kernel_rfl) (by kernel_rfl) (fun c a w h => h) (Or.inl ⟨by rfl, ?_⟩) hHeld ?_
        rotate_left
        · (intro w hSw; (try dsimp only at hSw); go_simp; try with_reducible rfl)
        simp only [Act.put, List.getElem_toArray, List.getElem_cons_zero, List.getElem_cons_succ, List.setIfInBounds_toArray, List.set_cons_zero, List.set_cons_succ]
        refine wpAnyH_take (i := 5) (v := ?_) rfl (by kernel_rfl) (by kernel_rfl) (by kernel_rfl) (fun c a w h => h) (Or.inl ⟨by rfl, ?_⟩) hHeld ?_
        rotate_left
        · (intro w hSw; (try dsimp only at hSw); go_simp; try with_reducible rfl)
        simp only [Act.put, List.getElem_toArray, List.getElem_cons_zero, List.getElem_cons_succ, List.setIfInBounds_toArray, List.set_cons_zero, List.set_cons_succ]
        refine wpAnyH_take (i := 6) (v := ?_) rfl (by kernel_rfl) (by kernel_rfl) (by kernel_rfl) (fun c a w h => h) (Or.inl ⟨by rfl, ?_⟩) hHeld ?_
        rotate_left
        · (intro w hSw; (try dsimp only at hSw); go_simp; try with_reducible rfl)
        simp only [Act.put, List.getElem_toArray, List.getElem_cons_zero, List.getElem_cons_succ, List.setIfInBounds_toArray, List.set_cons_zero, List.set_cons_succ]
        refine wpAnyH_take (i := 7) (v := ?_) rfl (by kernel_rfl) (by kernel_rfl) (by kernel_rfl) (fun c a w h => h) (Or.inl ⟨by rfl, ?_⟩) hHeld ?_
        rotate_left
        · (intro w hSw; (try dsimp only at hSw); go_simp; try with_reducible rfl)
        simp only [Act.put, List.getElem_toArray, List.getElem_cons_zero, List.getElem_cons_succ, List.setIfInBounds_toArray, List.set_cons_zero, List.set_cons_succ]
        refine wpAnyH_ready (rs := [8]) (by kernel_rfl) (by simp) ?_
        refine AllReadyH.cons rfl (fun K hK => ?_) AllReadyH.nil
        go_simp
        refine kd.mono ?_
        rintro e w6 ⟨rfl, hd⟩
        have hP := H5d.out.p.mem hd
        have h6 := H5d.out.left HB2.out.size hP
        have hr6 : w6.heap[b5]? = _ := (hP.t.block b5 (S.lt_of HRW.out) HNT.out).trans HRW.out
        have s6 := (And.intro h6.c6.1.2.2 (And.intro (S.cell_of _ b5 4 _ _ _ hr6 rfl) (S.cell_of _ b5 5 _ _ _ hr6 rfl)))
        have HB6 := S.hid (HB2.out.drew.trans (H5d.out.pb HB2.out.size hP))
        have HS6 := S.hid (show w.heap.size ≤ w6.heap.size from Nat.le_trans HB2.out.size hP.t.size)
        have H6 := S.hid h6
        have HRW6 := S.hid hr6
        clear kd hd hP h6 hr6
        refine hK.out _ _ s6 (fun hHeld => ?_)
        clear hK K
        refine wpAnyH_done (by kernel_rfl) ?_ _
        clear hHeld
        try simp only [Act.put, List.getElem_toArray, List.getElem_cons_zero, List.getElem_cons_succ, List.setIfInBounds_toArray, List.set_cons_zero, List.set_cons_succ]
        clear s6 HRW H5d
        have h6d := H6.out.below ((Below.refl _ w6).drew)
        have hr6d : w6.drew.heap[b5]? = _ := HRW6.out
        have s0 : (fun w' : World => w'.cell? ⟨g, 5, none⟩ = some (.pointer (some ⟨bz, 0, none⟩)) ∧ w'.cell? ⟨b5, 4, none⟩ = some (.int .u16 tat) ∧ w'.cell? ⟨b5, 5, none⟩ = some (.int .u8 (M.bt tx))) w6.drew := (And.intro h6d.c6.2.2.2 (And.intro (S.cell_of _ b5 4 _ _ _ hr6d rfl) (S.cell_of _ b5 5 _ _ _ hr6d rfl)))
        have kr := M.rstore_any bz tat hat.1 hat.2 tx w6.drew h6d.z (by omega)
        have H6d := S.hid h6d
        clear h6d hr6d H6
        go_upto_region 22 with fail
        try simp only [Act.put, List.getElem_toArray, List.getElem_cons_zero, List.getElem_cons_succ, List.setIfInBounds_toArray, List.set_cons_zero, List.set_cons_succ]
        refine wp_region_held_drew (S := (fun w' : World => w'.cell? ⟨g, 5, none⟩ = some (.pointer (some ⟨bz, 0, none⟩)) ∧ w'.cell? ⟨b5, 4, none⟩ = some (.int .u16 tat) ∧ w'.cell? ⟨b5, 5, none⟩ = some (.int .u8 (M.bt tx)))) (by kernel_rfl) s0 (fun hHeld => ?_)
        clear s0
        refine wpAnyH_take (i := 0) (v := ?_) rfl (by kernel_rfl) (by kernel_rfl) (by kernel_rfl) (fun c a w h => h) (Or.inl ⟨by rfl, ?_⟩) hHeld ?_
        rotate_left
        · (intro w hSw; (try dsimp only at hSw); go_simp; try with_reducible rfl)
        simp only [Act.put, List.getElem_toArray, List.getElem_cons_zero, List.getElem_cons_succ, List.setIfInBounds_toArray, List.set_cons_zero, List.set_cons_succ]
        refine wpAnyH_take (i := 1) (v := ?_) rfl (by kernel_rfl) (by kernel_rfl) (by kernel_rfl) (fun c a w h => h) (Or.inl ⟨by rfl, ?_⟩) hHeld ?_
        rotate_left
        · (intro w hSw; (try dsimp only at hSw); go_simp; try with_reducible rfl)
        simp only [Act.put, List.getElem_toArray, List.getElem_cons_zero, List.getElem_cons_succ, List.setIfInBounds_toArray, List.set_cons_zero, List.set_cons_succ]
        refine wpAnyH_take (i := 2) (v := ?_) rfl (by kernel_rfl) (by kernel_rfl) (by kernel_rfl) (fun c a w h => h) (Or.inl ⟨by rfl, ?_⟩) hHeld ?_
        rotate_left
        · (intro w hSw; (try dsimp only at hSw); go_simp; try with_reducible rfl)
        simp only [Act.put, List.getElem_toArray, List.getElem_cons_zero, List.getElem_cons_succ, List.setIfInBounds_toArray, List.set_cons_zero, List.set_cons_succ]
        refine wpAnyH_take (i := 3) (v := ?_) rfl (by kernel_rfl) (by kernel_rfl) (by kernel_rfl) (fun c a w h => h) (Or.inl ⟨by rfl, ?_⟩) hHeld ?_
        rotate_left
        · (intro w hSw; (try dsimp only at hSw); go_simp; try with_reducible rfl)
        simp only [Act.put, List.getElem_toArray, List.getElem_cons_zero, List.getElem_cons_succ, List.setIfInBounds_toArray, List.set_cons_zero, List.set_cons_succ]
        refine wpAnyH_take (i := 4) (v := ?_) rfl (by kernel_rfl) (by kernel_rfl) (by kernel_rfl) (fun c a w h => h) (Or.inl ⟨by rfl, ?_⟩) hHeld ?_
        rotate_left
        · (intro w hSw; (try dsimp only at hSw); go_simp; try with_reducible rfl)
        simp only [Act.put, List.getElem_toArray, List.getElem_cons_zero, List.getElem_cons_succ, List.setIfInBounds_toArray, List.set_cons_zero, List.set_cons_succ]
        refine wpAnyH_take (i := 5) (v := ?_) rfl (by kernel_rfl) (by kernel_rfl) (by kernel_rfl) (fun c a w h => h) (Or.inl ⟨by rfl, ?_⟩) hHeld ?_
        rotate_left
        · (intro w hSw; (try dsimp only at hSw); go_simp; try with_reducible rfl)
        simp only [Act.put, List.getElem_toArray, List.getElem_cons_zero, List.getElem_cons_succ, List.setIfInBounds_toArray, List.set_cons_zero, List.set_cons_succ]
        refine wpAnyH_take (i := 6) (v := ?_) rfl (by kernel_rfl) (by kernel_rfl) (by kernel_rfl) (fun c a w h => h) (Or.inl ⟨by rfl, ?_⟩) hHeld ?_
        rotate_left
        · (intro w hSw; (try dsimp only at hSw); go_simp; try with_reducible rfl)
        simp only [Act.put, List.getElem_toArray, List.getElem_cons_zero, List.getElem_cons_succ, List.setIfInBounds_toArray, List.set_cons_zero, List.set_cons_succ]
        refine wpAnyH_take (i := 7) (v := ?_) rfl (by kernel_rfl) (by kernel_rfl) (by kernel_rfl) (fun c a w h => h) (Or.inl ⟨by rfl, ?_⟩) hHeld ?_
        rotate_left
        · (intro w hSw; (try dsimp only at hSw); go_simp; try with_reducible rfl)
        simp only [Act.put, List.getElem_toArray, List.getElem_cons_zero, List.getElem_cons_succ, List.setIfInBounds_toArray, List.set_cons_zero, List.set_cons_succ]
        refine wpAnyH_ready (rs := [8]) (by kernel_rfl) (by simp) ?_
        refine AllReadyH.cons rfl (fun K hK => ?_) AllReadyH.nil
        go_simp
        refine kr.mono ?_
        rintro e w7 ⟨rfl, hd⟩
        have hX := RF.mem H6d.out.rf hd
        have h7 := H6d.out.right HS6.out hX
        have HB7 := S.hid (HB6.out.drew.trans (H6d.out.rb HS6.out hX))
        have hr7 := (RXD.kp hX b5 (S.lt_of HRW6.out) HNX.out).trans HRW6.out
        obtain ⟨G7, ev7, qv7, h7⟩ := h7
        have s7 := (And.intro h7.c6.2.2.2 (And.intro (S.cell_of _ b5 4 _ _ _ hr7 rfl) (S.cell_of _ b5 5 _ _ _ hr7 rfl)))
        have HPI := S.hid (show PI w _ g bd br bm bx bq bz (3 * (k + 1)) from ⟨_, _, _, _, D, R, _, h7.ww, HCC.out.1, HCC.out.2, (by have := st_tonesK m tat tx; omega), HB7.out⟩)
        clear kr hd hX h7 hr7
        refine hK.out _ _ s7 (fun hHeld => ?_)
        clear hK K
        refine wpAnyH_done (by kernel_rfl) ?_ _
        clear hHeld
        try simp only [Act.put, List.getElem_toArray, List.getElem_cons_zero, List.getElem_cons_succ, List.setIfInBounds_toArray, List.set_cons_zero, List.set_cons_succ]
        clear s7 HRW6 HB6 HS6 HLX HNT HNX HCC HB2 H6d
        go_wp2
        go_roundw
        case rel =>
          first
            | exact ⟨k + 1, by omega, by omega, (by first | rfl | (rw [w1'] <;> rfl)), HPI.out⟩
            | ((repeat apply Exists.intro); refine ⟨⟨k + 1, by omega, by omega, ?_, HPI.out⟩, rfl⟩; first | rfl | (rw [w1'] <;> rfl))
        case measure => exact msrN 300 _ _ k (by first | rfl | (rw [w1'] <;> rfl)) rfl hl3
    have f4 : (tk == 4) = false := beq_eq_false_iff_ne.mpr k4
    by_cases k5 : tk = 5
    case pos =>
      as_aux_lemma =>
        subst k5
        have h5d := HW2.out.below ((Below.refl _ W5).drew)
        have hr5d : W5.drew.heap[b5]? = _ := HRW.out
        have s0 : (fun w' : World => w'.cell? ⟨g, 2, none⟩ = some (.pointer (some ⟨bm, 0, none⟩)) ∧ w'.cell? ⟨b5, 5, none⟩ = some (.int .u8 (M.bt tx))) W5.drew := (And.intro h5d.c6.1.2.2 (S.cell_of _ b5 5 _ _ _ hr5d rfl))
        have hat := HLX.out.2.2.2.2.2.2
        have kd := M.begin_any bm tx W5.drew h5d.p.m
        have H5d := S.hid h5d
        clear h5d hr5d HW2
        go_upto_region 24 with fail
        try simp only [Act.put, List.getElem_toArray, List.getElem_cons_zero, List.getElem_cons_succ, List.setIfInBounds_toArray, List.set_cons_zero, List.set_cons_succ]
        refine wp_region_held_drew (S := (fun w' : World => w'.cell? ⟨g, 2, none⟩ = some (.pointer (some ⟨bm, 0, none⟩)) ∧ w'.cell? ⟨b5, 5, none⟩ = some (.int .u8 (M.bt tx)))) (by kernel_rfl) s0 (fun hHeld => ?_)
        clear s0
        refine wpAnyH_take (i := 0) (v := ?_) rfl (by kernel_rfl) (by kernel_rfl) (by kernel_rfl) (fun c a w h => h) (Or.inl ⟨by rfl, ?_⟩) hHeld ?_
        rotate_left
        · (intro w hSw; (try dsimp only at hSw); go_simp; try with_reducible rfl)
        simp only [Act.put, List.getElem_toArray, List.getElem_cons_zero, List.getElem_cons_succ, List.setIfInBounds_toArray, List.set_cons_zero, List.set_cons_succ]
        refine wpAnyH_take (i := 1) (v := ?_) rfl (by kernel_rfl) (by kernel_rfl) (by kernel_rfl) (fun c a w h => h) (Or.inl ⟨by rfl, ?_⟩) hHeld ?_
        rotate_left
        · (intro w hSw; (try dsimp only at hSw); go_simp; try with_reducible rfl)
        simp only [Act.put, List.getElem_toArray, List.getElem_cons_zero, List.getElem_cons_succ, List.setIfInBounds_toArray, List.set_cons_zero, List.set_cons_succ]
        refine wpAnyH_take (i := 2) (v := ?_) rfl (by kernel_rfl) (by kernel_rfl) (by kernel_rfl) (fun c a w h => h) (Or.inl ⟨by rfl, ?_⟩) hHeld ?_
        rotate_left
        · (intro w hSw; (try dsimp only at hSw); go_simp; try with_reducible rfl)
        simp only [Act.put, List.getElem_toArray, List.getElem_cons_zero, List.getElem_cons_succ, List.setIfInBounds_toArray, List.set_cons_zero, List.set_cons_succ]
        refine wpAnyH_take (i := 3) (v := ?_) rfl (by kernel_rfl) (by kernel_rfl) (by kernel_rfl) (fun c a w h => h) (Or.inl ⟨by rfl, ?_⟩) hHeld ?_
        rotate_left
        · (intro w hSw; (try dsimp only at hSw); go_simp; try with_reducible rfl)
        simp only [Act.put, List.getElem_toArray, List.getElem_cons_zero, List.getElem_cons_succ, List.setIfInBounds_toArray, List.set_cons_zero, List.set_cons_succ]
        refine wpAnyH_take (i := 4) (v := ?_) rfl (by kernel_rfl) (by kernel_rfl) (by kernel_rfl) (fun c a w h => h) (Or.inl ⟨by rfl, ?_⟩) hHeld ?_
        rotate_left
        · (intro w hSw; (try dsimp only at hSw); go_simp; try with_reducible rfl)
        simp only [Act.put, List.getElem_toArray, List.getElem_cons_zero, List.getElem_cons_succ, List.setIfInBounds_toArray, List.set_cons_zero, List.set_cons_succ]
        refine wpAnyH_take (i := 5) (v := ?_) rfl (by kernel_rfl) (by kernel_rfl) (by kernel_rfl) (fun c a w h => h) (Or.inl ⟨by rfl, ?_⟩) hHeld ?_
        rotate_left
        · (intro w hSw; (try dsimp only at hSw); go_simp; try with_reducible rfl)
        simp only [Act.put, List.getElem_toArray, List.getElem_cons_zero, List.getElem_cons_succ, List.setIfInBounds_toArray, List.set_cons_zero, List.set_cons_succ]
        refine wpAnyH_ready (rs := [6]) (by kernel_rfl) (by simp) ?_
        refine AllReadyH.cons rfl (fun K hK => ?_) AllReadyH.nil
        go_simp
        refine kd.mono ?_
        rintro e w6 ⟨rfl, hd⟩
        have hP := H5d.out.p.mem hd
        have h6 := H5d.out.left HB2.out.size hP
        have hr6 : w6.heap[b5]? = _ := (hP.t.block b5 (S.lt_of HRW.out) HNT.out).trans HRW.out
        have s6 := (And.intro h6.c6.1.2.2 (S.cell_of _ b5 5 _ _ _ hr6 rfl))
        have HB6 := S.hid (HB2.out.drew.trans (H5d.out.pb HB2.out.size hP))
        have HS6 := S.hid (show w.heap.size ≤ w6.heap.size from Nat.le_trans HB2.out.size hP.t.size)
        have H6 := S.hid h6
        have HRW6 := S.hid hr6
        clear kd hd hP h6 hr6
        refine hK.out _ _ s6 (fun hHeld => ?_)
        clear hK K
        refine wpAnyH_done (by kernel_rfl) ?_ _
        clear hHeld
        try simp only [Act.put, List.getElem_toArray, List.getElem_cons_zero, List.getElem_cons_succ, List.setIfInBounds_toArray, List.set_cons_zero, List.set_cons_succ]
        clear s6 HRW H5d
        have h6d := H6.out.below ((Below.refl _ w6).drew)
        have hr6d : w6.drew.heap[b5]? = _ := HRW6.out
        have s0 : (fun w' : World => w'.cell? ⟨g, 5, none⟩ = some (.pointer (some ⟨bz, 0, none⟩)) ∧ w'.cell? ⟨b5, 5, none⟩ = some (.int .u8 (M.bt tx))) w6.drew := (And.intro h6d.c6.2.2.2 (S.cell_of _ b5 5 _ _ _ hr6d rfl))
        have kr := M.rbegin_any bz tx w6.drew h6d.z
        have H6d := S.hid h6d
        clear h6d hr6d H6
        go_upto_region 25 with fail
        try simp only [Act.put, List.getElem_toArray, List.getElem_cons_zero, List.getElem_cons_succ, List.setIfInBounds_toArray, List.set_cons_zero, List.set_cons_succ]
        refine wp_region_held_drew (S := (fun w' : World => w'.cell? ⟨g, 5, none⟩ = some (.pointer (some ⟨bz, 0, none⟩)) ∧ w'.cell? ⟨b5, 5, none⟩ = some (.int .u8 (M.bt tx)))) (by kernel_rfl) s0 (fun hHeld => ?_)
        clear s0
        refine wpAnyH_take (i := 0) (v := ?_) rfl (by kernel_rfl) (by kernel_rfl) (by kernel_rfl) (fun c a w h => h) (Or.inl ⟨by rfl, ?_⟩) hHeld ?_
        rotate_left
        · (intro w hSw; (try dsimp only at hSw); go_simp; try with_reducible rfl)
        simp only [Act.put, List.getElem_toArray, List.getElem_cons_zero, List.getElem_cons_succ, List.setIfInBounds_toArray, List.set_cons_zero, List.set_cons_succ]
        refine wpAnyH_take (i := 1) (v := ?_) rfl (by kernel_rfl) (by kernel_rfl) (by kernel_rfl) (fun c a w h => h) (Or.inl ⟨by rfl, ?_⟩) hHeld ?_
        rotate_left
        · (intro w hSw; (try dsimp only at hSw); go_simp; try with_reducible rfl)
        simp only [Act.put, List.getElem_toArray, List.getElem_cons_zero, List.getElem_cons_succ, List.setIfInBounds_toArray, List.set_cons_zero, List.set_cons_succ]
        refine wpAnyH_take (i := 2) (v := ?_) rfl (by kernel_rfl) (by kernel_rfl) (by kernel_rfl) (fun c a w h => h) (Or.inl ⟨by rfl, ?_⟩) hHeld ?_
        rotate_left
        · (intro w hSw; (try dsimp only at hSw); go_simp; try with_reducible rfl)
        simp only [Act.put, List.getElem_toArray, List.getElem_cons_zero, List.getElem_cons_succ, List.setIfInBounds_toArray, List.set_cons_zero, List.set_cons_succ]
        refine wpAnyH_take (i := 3) (v := ?_) rfl (by kernel_rfl) (by kernel_rfl) (by kernel_rfl) (fun c a w h => h) (Or.inl ⟨by rfl, ?_⟩) hHeld ?_
        rotate_left
        · (intro w hSw; (try dsimp only at hSw); go_simp; try with_reducible rfl)
        simp only [Act.put, List.getElem_toArray, List.getElem_cons_zero, List.getElem_cons_succ, List.setIfInBounds_toArray, List.set_cons_zero, List.set_cons_succ]
        refine wpAnyH_take (i := 4) (v := ?_) rfl (by kernel_rfl) (by kernel_rfl) (by kernel_rfl) (fun c a w h => h) (Or.inl ⟨by rfl, ?_⟩) hHeld ?_
        rotate_left
        · (intro w hSw; (try dsimp only at hSw); go_simp; try with_reducible rfl)
        simp only [Act.put, List.getElem_toArray, List.getElem_cons_zero, List.getElem_cons_succ, List.setIfInBounds_toArray, List.set_cons_zero, List.set_cons_succ]
        refine wpAnyH_take (i := 5) (v := ?_) rfl (by kernel_rfl) (by kernel_rfl) (by kernel_rfl) (fun c a w h => h) (Or.inl ⟨by rfl, ?_⟩) hHeld ?_
        rotate_left
        · (intro w hSw; (try dsimp only at hSw); go_simp; try with_reducible rfl)
        simp only [Act.put, List.getElem_toArray, List.getElem_cons_zero, List.getElem_cons_succ, List.setIfInBounds_toArray, List.set_cons_zero, List.set_cons_succ]
        refine wpAnyH_ready (rs := [6]) (by kernel_rfl) (by simp) ?_
        refine AllReadyH.cons rfl (fun K hK => ?_) AllReadyH.nil
        go_simp
        refine kr.mono ?_
        rintro e w7 ⟨rfl, hd⟩
        have hX := RF.mem H6d.out.rf hd
        have h7 := H6d.out.right HS6.out hX
        have HB7 := S.hid (HB6.out.drew.trans (H6d.out.rb HS6.out hX))
        have hr7 := (RXD.kp hX b5 (S.lt_of HRW6.out) HNX.out).trans HRW6.out
        obtain ⟨G7, ev7, qv7, h7⟩ := h7
        have s7 := (And.intro h7.c6.2.2.2 (S.cell_of _ b5 5 _ _ _ hr7 rfl))
        have HPI := S.hid (show PI w _ g bd br bm bx bq bz (3 * (k + 1)) from ⟨_, _, _, _, D, R, _, h7.ww, HCC.out.1, HCC.out.2, (by show (M.bg m (M.bt tx)).tones.length ≤ _; simp [M.bg]), HB7.out⟩)
        clear kr hd hX h7 hr7
        refine hK.out _ _ s7 (fun hHeld => ?_)
        clear hK K
        refine wpAnyH_done (by kernel_rfl) ?_ _
        clear hHeld
        try simp only [Act.put, List.getElem_toArray, List.getElem_cons_zero, List.getElem_cons_succ, List.setIfInBounds_toArray, List.set_cons_zero, List.set_cons_succ]
        clear s7 HRW6 HB6 HS6 HLX HNT HNX HCC HB2 H6d
        go_wp2
        go_roundw
        case rel =>
          first
            | exact ⟨k + 1, by omega, by omega, (by first | rfl | (rw [w1'] <;> rfl)), HPI.out⟩
            | ((repeat apply Exists.intro); refine ⟨⟨k + 1, by omega, by omega, ?_, HPI.out⟩, rfl⟩; first | rfl | (rw [w1'] <;> rfl))
        case measure => exact msrN 300 _ _ k (by first | rfl | (rw [w1'] <;> rfl)) rfl hl3
    have f5 : (tk == 5) = false := beq_eq_false_iff_ne.mpr k5
    by_cases k6 : tk = 6
    case pos =>
      as_aux_lemma =>
        subst k6
        have h5d := HW2.out.below ((Below.refl _ W5).drew)
        have hr5d : W5.drew.heap[b5]? = _ := HRW.out
        have s0 : (fun w' : World => w'.cell? ⟨g, 2, none⟩ = some (.pointer (some ⟨bm, 0, none⟩)) ∧ w'.cell? ⟨b5, 4, none⟩ = some (.int .u16 tat)) W5.drew := (And.intro h5d.c6.1.2.2 (S.cell_of _ b5 4 _ _ _ hr5d rfl))
        have hat := HLX.out.2.2.2.2.2.2
        have hv : IntKind.i64.wrap tat = tat := S.i64_id _ (by have := hat.1; omega) (by have := hat.2; omega)
        have hv2 : wrap64 tat = tat := by have h1 := hat.1; have h2 := hat.2; simp [wrap64]; omega
        have kd := M.at_any bm tat W5.drew h5d.p.m
        have H5d := S.hid h5d
        clear h5d hr5d HW2
        go_upto_region 27 with fail
        try simp only [Act.put, List.getElem_toArray, List.getElem_cons_zero, List.getElem_cons_succ, List.setIfInBounds_toArray, List.set_cons_zero, List.set_cons_succ]
        refine wp_region_held_drew (S := (fun w' : World => w'.cell? ⟨g, 2, none⟩ = some (.pointer (some ⟨bm, 0, none⟩)) ∧ w'.cell? ⟨b5, 4, none⟩ = some (.int .u16 tat))) (by kernel_rfl) s0 (fun hHeld => ?_)
        clear s0
        refine wpAnyH_take (i := 0) (v := ?_) rfl (by kernel_rfl) (by kernel_rfl) (by kernel_rfl) (fun c a w h => h) (Or.inl ⟨by rfl, ?_⟩) hHeld ?_
        rotate_left
        · (intro w hSw; (try dsimp only at hSw); go_simp; try with_reducible rfl)
        simp only [Act.put, List.getElem_toArray, List.getElem_cons_zero, List.getElem_cons_succ, List.setIfInBounds_toArray, List.set_cons_zero, List.set_cons_succ]
        refine wpAnyH_take (i := 1) (v := ?_) rfl (by kernel_rfl) (by kernel_rfl) (by kernel_rfl) (fun c a w h => h) (Or.inl ⟨by rfl, ?_⟩) hHeld ?_
        rotate_left
        · (intro w hSw; (try dsimp only at hSw); go_simp; try with_reducible rfl)
        simp only [Act.put, List.getElem_toArray, List.getElem_cons_zero, List.getElem_cons_succ, List.setIfInBounds_toArray, List.set_cons_zero, List.set_cons_succ]
        refine wpAnyH_take (i := 2) (v := ?_) rfl (by kernel_rfl) (by kernel_rfl) (by kernel_rfl) (fun c a w h => h) (Or.inl ⟨by rfl, ?_⟩) hHeld ?_
        rotate_left
        · (intro w hSw; (try dsimp only at hSw); go_simp; try with_reducible rfl)
        simp only [Act.put, List.getElem_toArray, List.getElem_cons_zero, List.getElem_cons_succ, List.setIfInBounds_toArray, List.set_cons_zero, List.set_cons_succ]
        refine wpAnyH_take (i := 3) (v := ?_) rfl (by kernel_rfl) (by kernel_rfl) (by kernel_rfl) (fun c a w h => h) (Or.inl ⟨by rfl, ?_⟩) hHeld ?_
        rotate_left
        · (intro w hSw; (try dsimp only at hSw); go_simp; try with_reducible rfl)
        simp only [Act.put, List.getElem_toArray, List.getElem_cons_zero, List.getElem_cons_succ, List.setIfInBounds_toArray, List.set_cons_zero, List.set_cons_succ]
        refine wpAnyH_take (i := 4) (v := ?_) rfl (by kernel_rfl) (by kernel_rfl) (by kernel_rfl) (fun c a w h => h) (Or.inl ⟨by rfl, ?_⟩) hHeld ?_
        rotate_left
        · (intro w hSw; (try dsimp only at hSw); go_simp; try with_reducible rfl)
        simp only [Act.put, List.getElem_toArray, List.getElem_cons_zero, List.getElem_cons_succ, List.setIfInBounds_toArray, List.set_cons_zero, List.set_cons_succ]
        refine wpAnyH_take (i := 5) (v := ?_) rfl (by kernel_rfl) (by kernel_rfl) (by kernel_rfl) (fun c a w h => h) (Or.inl ⟨by rfl, ?_⟩) hHeld ?_
        rotate_left
        · (intro w hSw; (try dsimp only at hSw); go_simp; try with_reducible rfl)
        simp only [Act.put, List.getElem_toArray, List.getElem_cons_zero, List.getElem_cons_succ, List.setIfInBounds_toArray, List.set_cons_zero, List.set_cons_succ]
        refine wpAnyH_take (i := 6) (v := ?_) rfl (by kernel_rfl) (by kernel_rfl) (by kernel_rfl) (fun c a w h => h) (Or.inl ⟨by rfl, ?_⟩) hHeld ?_
        rotate_left
        · (intro w hSw; (try dsimp only at hSw); go_simp; try with_reducible rfl)
        simp only [Act.put, List.getElem_toArray, List.getElem_cons_zero, List.getElem_cons_succ, List.setIfInBounds_toArray, List.set_cons_zero, List.set_cons_succ]
        refine wpAnyH_ready (rs := [7]) (by kernel_rfl) (by simp) ?_
        refine AllReadyH.cons rfl (fun K hK => ?_) AllReadyH.nil
        go_simp
        refine kd.mono ?_
        rintro e w6 ⟨rfl, hd⟩
        have hP := H5d.out.p.mem hd
        have h6 := H5d.out.left HB2.out.size hP
        have hr6 : w6.heap[b5]? = _ := (hP.t.block b5 (S.lt_of HRW.out) HNT.out).trans HRW.out
        have s6 := (And.intro h6.c6.1.2.2 (S.cell_of _ b5 4 _ _ _ hr6 rfl))
        have HB6 := S.hid (HB2.out.drew.trans (H5d.out.pb HB2.out.size hP))
        have HS6 := S.hid (show w.heap.size ≤ w6.heap.size from Nat.le_trans HB2.out.size hP.t.size)
        have H6 := S.hid h6
        have HRW6 := S.hid hr6
        clear kd hd hP h6 hr6
        refine hK.out _ _ s6 (fun hHeld => ?_)
        clear hK K
        refine wpAnyH_done (by kernel_rfl) ?_ _
        clear hHeld
        try simp only [Act.put, List.getElem_toArray, List.getElem_cons_zero, List.getElem_cons_succ, List.setIfInBounds_toArray, List.set_cons_zero, List.set_cons_succ]
        clear s6 HRW H5d
        have h6d := H6.out.below ((Below.refl _ w6).drew)
        have hr6d : w6.drew.heap[b5]? = _ := HRW6.out
        have s0 : (fun w' : World => w'.cell? ⟨g, 5, none⟩ = some (.pointer (some ⟨bz, 0, none⟩)) ∧ w'.cell? ⟨b5, 4, none⟩ = some (.int .u16 tat)) w6.drew := (And.intro h6d.c6.2.2.2 (S.cell_of _ b5 4 _ _ _ hr6d rfl))
        obtain ⟨⟨uc, hcy⟩, hfz, hd⟩ := M.rcycle bz tat w6.drew h6d.z
        have H6d := S.hid h6d
        have hX := RF.mem H6d.out.rf hd
        have h7 := H6d.out.right HS6.out hX
        have HB7 := S.hid (HB6.out.drew.trans (H6d.out.rb HS6.out hX))
        have hr7 := (RXD.kp hX b5 (S.lt_of HRW6.out) HNX.out).trans HRW6.out
        obtain ⟨G7, ev7, qv7, h7⟩ := h7
        have s7 := (And.intro h7.c6.2.2.2 (S.cell_of _ b5 4 _ _ _ hr7 rfl))
        have HPI := S.hid (show PI w _ g bd br bm bx bq bz (3 * (k + 1)) from ⟨_, _, _, _, D, R, _, h7.ww, HCC.out.1, HCC.out.2, (by show m.tones.length ≤ _; omega), HB7.out⟩)
        clear h6d hr6d H6 hd hX h7 hr7
        go_upto_region 28 with fail
        try simp only [Act.put, List.getElem_toArray, List.getElem_cons_zero, List.getElem_cons_succ, List.setIfInBounds_toArray, List.set_cons_zero, List.set_cons_succ]
        refine wp_region_held_drew (S := (fun w' : World => w'.cell? ⟨g, 5, none⟩ = some (.pointer (some ⟨bz, 0, none⟩)) ∧ w'.cell? ⟨b5, 4, none⟩ = some (.int .u16 tat))) (by kernel_rfl) s0 (fun hHeld => ?_)
        clear s0
        refine wpAnyH_take (i := 0) (v := ?_) rfl (by kernel_rfl) (by kernel_rfl) (by kernel_rfl) (fun c a w h => h) (Or.inl ⟨by rfl, ?_⟩) hHeld ?_
        rotate_left
        · (intro w hSw; (try dsimp only at hSw); go_simp; try with_reducible rfl)
        simp only [Act.put, List.getElem_toArray, List.getElem_cons_zero, List.getElem_cons_succ, List.setIfInBounds_toArray, List.set_cons_zero, List.set_cons_succ]
        refine wpAnyH_take (i := 1) (v := ?_) rfl (by kernel_rfl) (by kernel_rfl) (by kernel_rfl) (fun c a w h => h) (Or.inl ⟨by rfl, ?_⟩) hHeld ?_
        rotate_left
        · (intro w hSw; (try dsimp only at hSw); go_simp; try with_reducible rfl)
        simp only [Act.put, List.getElem_toArray, List.getElem_cons_zero, List.getElem_cons_succ, List.setIfInBounds_toArray, List.set_cons_zero, List.set_cons_succ]
        refine wpAnyH_take (i := 2) (v := ?_) rfl (by kernel_rfl) (by kernel_rfl) (by kernel_rfl) (fun c a w h => h) (Or.inl ⟨by rfl, ?_⟩) hHeld ?_
        rotate_left
        · (intro w hSw; (try dsimp only at hSw); go_simp; try with_reducible rfl)
        simp only [Act.put, List.getElem_toArray, List.getElem_cons_zero, List.getElem_cons_succ, List.setIfInBounds_toArray, List.set_cons_zero, List.set_cons_succ]
        refine wpAnyH_take (i := 3) (v := ?_) rfl (by kernel_rfl) (by kernel_rfl) (by kernel_rfl) (fun c a w h => h) (Or.inl ⟨by rfl, ?_⟩) hHeld ?_
        rotate_left
        · (intro w hSw; (try dsimp only at hSw); go_simp; try with_reducible rfl)
        simp only [Act.put, List.getElem_toArray, List.getElem_cons_zero, List.getElem_cons_succ, List.setIfInBounds_toArray, List.set_cons_zero, List.set_cons_succ]
        refine wpAnyH_take (i := 4) (v := ?_) rfl (by kernel_rfl) (by kernel_rfl) (by kernel_rfl) (fun c a w h => h) (Or.inl ⟨by rfl, ?_⟩) hHeld ?_
        rotate_left
        · (intro w hSw; (try dsimp only at hSw); go_simp; try with_reducible rfl)
        simp only [Act.put, List.getElem_toArray, List.getElem_cons_zero, List.getElem_cons_succ, List.setIfInBounds_toArray, List.set_cons_zero, List.set_cons_succ]
        refine wpAnyH_take (i := 5) (v := ?_) rfl (by kernel_rfl) (by kernel_rfl) (by kernel_rfl) (fun c a w h => h) (Or.inl ⟨by rfl, ?_⟩) hHeld ?_
        rotate_left
        · (intro w hSw; (try dsimp only at hSw); go_simp; try with_reducible rfl)
        simp only [Act.put, List.getElem_toArray, List.getElem_cons_zero, List.getElem_cons_succ, List.setIfInBounds_toArray, List.set_cons_zero, List.set_cons_succ]
        refine wpAnyH_take (i := 6) (v := ?_) rfl (by kernel_rfl) (by kernel_rfl) (by kernel_rfl) (fun c a w h => h) (Or.inl ⟨by rfl, ?_⟩) hHeld ?_
        rotate_left
        · (intro w hSw; (try dsimp only at hSw); go_simp; try with_reducible rfl)
        simp only [Act.put, List.getElem_toArray, List.getElem_cons_zero, List.getElem_cons_succ, List.setIfInBounds_toArray, List.set_cons_zero, List.set_cons_succ]
        refine wpAnyH_take (i := 7) (v := ?_) rfl (by kernel_rfl) (by kernel_rfl) (by kernel_rfl) (fun c a w h => h) (Or.inl ⟨by rfl, ?_⟩) hHeld ?_
        rotate_left
        · (intro w hSw; (try dsimp only at hSw); go_simp; try with_reducible rfl)
        simp only [Act.put, List.getElem_toArray, List.getElem_cons_zero, List.getElem_cons_succ, List.setIfInBounds_toArray, List.set_cons_zero, List.set_cons_succ]
        refine wpAnyH_take (i := 8) (v := ?_) rfl (by kernel_rfl) (by kernel_rfl) (by kernel_rfl) (fun c a w h => h) (Or.inl ⟨by rfl, ?_⟩) hHeld ?_
        rotate_left
        · (intro w hSw; (try dsimp only at hSw); go_simp; try with_reducible rfl)
        simp only [Act.put, List.getElem_toArray, List.getElem_cons_zero, List.getElem_cons_succ, List.setIfInBounds_toArray, List.set_cons_zero, List.set_cons_succ]
        refine wpAnyH_ready (rs := [9]) (by kernel_rfl) (by simp) ?_
        refine AllReadyH.cons rfl (fun K hK => ?_) AllReadyH.nil
        go_simp
        refine hK.out _ _ s7 (fun hHeld => ?_)
        clear hK K
        refine wpAnyH_done (by kernel_rfl) ?_ _
        clear hHeld
        try simp only [Act.put, List.getElem_toArray, List.getElem_cons_zero, List.getElem_cons_succ, List.setIfInBounds_toArray, List.set_cons_zero, List.set_cons_succ]
        clear s7 HRW6 HB6 HS6 HLX HNT HNX HCC HB2 H6d
        go_wp2
        go_roundw
        case rel =>
          first
            | exact ⟨k + 1, by omega, by omega, (by first | rfl | (rw [w1'] <;> rfl)), HPI.out⟩
            | ((repeat apply Exists.intro); refine ⟨⟨k + 1, by omega, by omega, ?_, HPI.out⟩, rfl⟩; first | rfl | (rw [w1'] <;> rfl))
        case measure => exact msrN 300 _ _ k (by first | rfl | (rw [w1'] <;> rfl)) rfl hl3
    have f6 : (tk == 6) = false := beq_eq_false_iff_ne.mpr k6
    as_aux_lemma =>
      have HPI := S.hid (show PI w W5 g bd br bm bx bq bz (3 * (k + 1)) from ⟨_, _, _, _, D, R, m, HW2.out.ww, HCC.out.1, HCC.out.2, by omega, HB2.out⟩)
      clear HW2 HRW HLX HNT HNX HCC HB2
      go_wp2
      go_roundw
      case rel =>
        first
          | exact ⟨k + 1, by omega, by omega, (by first | rfl | (rw [w1'] <;> rfl)), HPI.out⟩
          | ((repeat apply Exists.intro); refine ⟨⟨k + 1, by omega, by omega, ?_, HPI.out⟩, rfl⟩; first | rfl | (rw [w1'] <;> rfl))
      case measure => exact msrN 300 _ _ k (by first | rfl | (rw [w1'] <;> rfl)) rfl hl3
end Go.Proofs.YtgponcjjnjpfkabGreat.L
/-! What arguments give a walk: lists of cells. -/
namespace Go.Proofs.YtgponcjjnjpfkabGreat.L
open Go.RowKit Go.ChangeShapes Go.WideShapes Go.ChangeAt
open Go.Proofs
set_option linter.unusedVariables false
set_option linter.unusedSimpArgs false
theorem add_none {a : Addr} {W : World} {v : Value} (h : W.cell? (a.add 0) = some v) : a.spot = none := by
  have := World.cell?_spot h
  simpa [Addr.add] using this
theorem add_at (b o k : Nat) : (⟨b, o, none⟩ : Addr).add k = ⟨b, o + k, none⟩ := Addr.add_lit _ _ _
theorem wf_C {x : Int} (h : (Lit.int .u16 x).wf = true) : C.C x := by
  have := bounds_u16 h
  unfold C.C; omega
set_option maxRecDepth 100000
set_option maxHeartbeats 2000000
section
variable {H : Type} {enc : TypeId × Value → H}
/-- Cells that came in. -/
theorem open_us0 {W : World} {fuel : Nat} {cs : List Value} {x : DataW H × List MemPlace} (h : DataW.trod enc Tryz.prog W 0 (fun _ => true) true fuel 22 cs = some x) :
    ∃ (l : List Int) (pp : Option Addr) (c : Nat), cs = [.slice pp l.length c] ∧ l.length ≤ c ∧ (pp = none → c = 0) ∧ S.Sl S.eU 1 W pp l ∧ ((x.1.weights Tryz.prog 22).all (· ≤ reachBytes) = true → l.length * 2 + 4096 ≤ S.room) ∧ ∀ z ∈ l, C.C z := by
  rcases open_ints Tryz.underlying22 Tryz.underlying31 (by kernel_rfl) h with ⟨hcs, hx⟩ | ⟨y, l, c, zs, hcs, _, hl, hm, hz, hx, hcell, hwz⟩
  · exact ⟨[], none, 0, hcs, by simp, fun _ => rfl, fun i a hi => by simp at hi, fun _ => by decide, by simp⟩
  · obtain ⟨x1, x2⟩ := x
    simp only [Prod.mk.injEq] at hx
    obtain ⟨rfl, rfl⟩ := hx
    simp only [if_true] at hz
    have hlen : (zs.take l).length = l := by simp; omega
    refine ⟨zs.take l, some y, c, by rw [hlen]; exact hcs, by rw [hlen]; exact hl, (fun e => by cases e), fun i z hi => ?_, fun hw => ?_, fun z hz => wf_C (hwz z (List.mem_of_mem_take hz))⟩
    · have hjl : i < l := by
        by_cases h : i < l
        · exact h
        · rw [List.getElem?_eq_none (by rw [hlen]; omega)] at hi; cases hi
      have hc := hcell i (by omega)
      rw [List.getElem?_take, if_pos hjl, List.getElem?_eq_getElem (by omega)] at hi
      simp only [Option.some.injEq] at hi
      subst hi
      have e : zs.getD i 0 = zs[i]'(by omega) := by simp [List.getD, List.getElem?_eq_getElem (show i < zs.length by omega)]
      rw [e] at hc
      have hsp : y.spot = none := add_none (hcell 0 (by omega))
      obtain ⟨b, o, sp⟩ := y
      simp only at hsp
      subst hsp
      rw [add_at] at hc
      refine ⟨b, o, rfl, fun j u hj => ?_⟩
      cases j with
      | zero => simp only [S.eU, List.getElem?_cons_zero, Option.some.injEq] at hj; subst hj; rw [Nat.mul_one, Nat.add_zero]; exact hc
      | succ j => simp [S.eU] at hj
    · rw [hlen]
      have hby : Tryz.prog.bytesOf 31 = 2 := by kernel_rfl
      simp only [DataW.weights, Tryz.underlying22, List.all_cons, hby, Bool.and_eq_true, decide_eq_true_eq] at hw
      have h2 : (lits (H := H) .u16 (zs.take l)).length = l := by simp [lits]; omega
      have h3 := hw.1
      rw [h2] at h3
      unfold reachBytes at h3
      unfold S.room
      omega
theorem open_us {W : World} {base : Nat} {v : Value} {d : DataW H} {p : List MemPlace} (hval : Value.okWide Tryz.prog W .any base 22 v) (h : DataW.Trod enc Tryz.prog W 0 (fun _ => true) true 22 v d p)
    (hw : (d.weights Tryz.prog 22).all (· ≤ reachBytes) = true) :
    ∃ (l : List Int) (pp : Option Addr) (c : Nat), v = .slice pp l.length c ∧ l.length ≤ c ∧ (pp = none → c = 0) ∧ S.Sl S.eU 1 W pp l ∧ l.length * 2 + 4096 ≤ S.room ∧ ∀ z ∈ l, C.C z := by
  obtain ⟨a, len, cap, rfl⟩ := okWide_slice Tryz.underlying22 hval
  obtain ⟨fuel, hf⟩ := h
  obtain ⟨l, pp, c, e1, e2, e5, e3, e4, e6⟩ := open_us0 hf
  simp [Value.cells] at e1
  obtain ⟨rfl, rfl, rfl⟩ := e1
  exact ⟨l, _, _, rfl, e2, e5, e3, e4 hw, e6⟩
theorem weights_all (P : Program) (e : TypeId) (D : Nat → DataW H) (q : Nat → Bool) : ∀ (is : List Nat), (DataW.weightsAll P e (is.map D)).all q = true → ∀ i ∈ is, ((D i).weights P e).all q = true := by
  intro is
  induction is with
  | nil => intro _ i hi; simp at hi
  | cons j is ih =>
    intro h i hi
    simp only [List.map_cons, DataW.weightsAll, List.all_append, Bool.and_eq_true] at h
    rcases List.mem_cons.1 hi with rfl | hi
    · exact h.1
    · exact ih h.2 i hi
theorem und43 : Tryz.prog.underlying 68 = some (.struct #[⟨ "Kind", 3, 0, false, "", "", 0⟩, ⟨ "Value", 31, 1, false, "", "", 8⟩]) := by kernel_rfl
/-- Cells with kinds that came in. -/
theorem open_ks0 {W : World} {fuel : Nat} {cs : List Value} {x : DataW H × List MemPlace} (h : DataW.trod enc Tryz.prog W 0 (fun _ => true) true fuel 23 cs = some x) :
    ∃ (l : List (Int × Int)) (pp : Option Addr) (c : Nat), cs = [.slice pp l.length c] ∧ l.length ≤ c ∧ (pp = none → c = 0) ∧ S.Sl S.eK 2 W pp l ∧ ((x.1.weights Tryz.prog 23).all (· ≤ reachBytes) = true → l.length * 16 + 4096 ≤ S.room) ∧ ∀ t ∈ l, C.C t.2 := by
  rcases Deep.open_slice_pairs Tryz.underlying23 und43 (by kernel_rfl) rfl rfl (by kernel_rfl) (by kernel_rfl) h with ⟨hcs, hx⟩ | ⟨y, len, c, m, n, V0, V1, D0, D1, P0, P1, hcs, _, hl, hm, hmm, hx, hel⟩
  · exact ⟨[], none, 0, hcs, by simp, fun _ => rfl, fun i a hi => by simp at hi, fun _ => by decide, by simp⟩
  · obtain ⟨x1, x2⟩ := x
    simp only [Prod.mk.injEq] at hx
    obtain ⟨rfl, rfl⟩ := hx
    simp only [if_true] at hmm
    have hsp0 : 0 < len → y.spot = none := fun hp => add_none (hel 0 (by omega)).1
    have hex : ∀ i, i < len → ∃ t : Int × Int, ∃ b o, some y = some (⟨b, o, none⟩ : Addr) ∧ W.cell? ⟨b, o + i * 2, none⟩ = some (.int .i64 t.1) ∧ W.cell? ⟨b, o + i * 2 + 1, none⟩ = some (.int .u16 t.2) ∧ C.C t.2 := by
      intro i hi
      obtain ⟨g0, g1, t0, t1⟩ := hel i (by omega)
      obtain ⟨k, e0, _, w0⟩ := DataW.trod_int Tryz.underlying3 t0
      obtain ⟨v, e1, _, w1⟩ := DataW.trod_int Tryz.underlying31 t1
      simp at e0 e1
      rw [e0] at g0
      rw [e1] at g1
      have hsp := hsp0 (by omega)
      obtain ⟨b, o, sp⟩ := y
      simp only at hsp
      subst hsp
      rw [add_at] at g0 g1
      exact ⟨(k, v), b, o, rfl, g0, by rw [Nat.add_assoc]; exact g1, wf_C w1⟩
    obtain ⟨f, hf2⟩ := Deep.choose_lt hex
    refine ⟨(List.range len).map f, some y, c, by simpa using hcs, by simpa using hl, (fun e => by cases e), fun i t hi => ?_, fun hw => ?_, fun t ht => ?_⟩
    · have hil : i < len := by
        by_cases h : i < len
        · exact h
        · rw [List.getElem?_eq_none (by simp; omega)] at hi; cases hi
      simp [hil] at hi
      subst hi
      obtain ⟨b, o, e1, e2, e3, _⟩ := hf2 i hil
      refine ⟨b, o, e1, fun j u hj => ?_⟩
      match j, hj with
      | 0, hj => simp only [S.eK, List.getElem?_cons_zero, Option.some.injEq] at hj; subst hj; exact e2
      | 1, hj => simp only [S.eK, List.getElem?_cons_succ, List.getElem?_cons_zero, Option.some.injEq] at hj; subst hj; exact e3
      | j + 2, hj => simp [S.eK] at hj
    · have hby : Tryz.prog.bytesOf 68 = 16 := by kernel_rfl
      simp only [DataW.weights, Tryz.underlying23, List.all_cons, List.all_append, Bool.and_eq_true, decide_eq_true_eq, hby, List.length_map, List.length_range] at hw
      have hw1 := hw.1
      unfold reachBytes at hw1
      simp only [List.length_map, List.length_range]
      unfold S.room
      omega
    · obtain ⟨i, hi, rfl⟩ := List.mem_map.1 ht
      obtain ⟨_, _, _, _, _, hC⟩ := hf2 i (by simpa using hi)
      exact hC
theorem open_ks {W : World} {base : Nat} {v : Value} {d : DataW H} {p : List MemPlace} (hval : Value.okWide Tryz.prog W .any base 23 v) (h : DataW.Trod enc Tryz.prog W 0 (fun _ => true) true 23 v d p)
    (hw : (d.weights Tryz.prog 23).all (· ≤ reachBytes) = true) :
    ∃ (l : List (Int × Int)) (pp : Option Addr) (c : Nat), v = .slice pp l.length c ∧ l.length ≤ c ∧ (pp = none → c = 0) ∧ S.Sl S.eK 2 W pp l ∧ l.length * 16 + 4096 ≤ S.room ∧ ∀ t ∈ l, C.C t.2 := by
  obtain ⟨a, len, cap, rfl⟩ := okWide_slice Tryz.underlying23 hval
  obtain ⟨fuel, hf⟩ := h
  obtain ⟨l, pp, c, e1, e2, e5, e3, e4, e6⟩ := open_ks0 hf
  simp [Value.cells] at e1
  obtain ⟨rfl, rfl, rfl⟩ := e1
  exact ⟨l, _, _, rfl, e2, e5, e3, e4 hw, e6⟩
end
end Go.Proofs.YtgponcjjnjpfkabGreat.L
/-! What a script that came in gives a walk. -/
namespace Go.Proofs.YtgponcjjnjpfkabGreat.L
open Go.RowKit Go.ChangeShapes Go.WideShapes Go.ChangeAt
open Go.Proofs
set_option linter.unusedVariables false
set_option linter.unusedSimpArgs false
set_option maxRecDepth 100000
set_option maxHeartbeats 4000000
section
variable {H : Type} {enc : TypeId × Value → H}
theorem undS : Tryz.prog.underlying 33 = some (.struct #[⟨ "Kind", 3, 0, false, "", "", 0⟩, ⟨ "Op", 3, 1, false, "", "", 8⟩, ⟨ "X", 22, 2, false, "", "", 16⟩, ⟨ "C", 23, 3, false, "", "", 40⟩, ⟨ "At", 31, 4, false, "", "", 64⟩, ⟨ "B", 5, 5, false, "", "", 66⟩]) := by kernel_rfl
theorem ls_ofS {α : Type} {e : α → List Value} {s : Nat} {W : World} {pp : Option Addr} {c : Nat} {l : List α} (h1 : l.length ≤ c) (h2 : pp = none → c = 0) (h3 : S.Sl e s W pp l) : S.Ls e s W (.slice pp l.length c) l := by
  cases pp with
  | none =>
    have hc := h2 rfl
    have hl : l = [] := List.eq_nil_of_length_eq_zero (by omega)
    subst hl hc
    exact .inl ⟨rfl, rfl⟩
  | some x => exact .inr ⟨x, c, rfl, h1, h3⟩
theorem u8_ex {x : Int} (h : (Lit.int .u8 x).wf = true) : ∃ y : UInt8, x = M.bt y := by
  have := bounds_u8 h
  exact ⟨UInt8.ofNat x.toNat, by unfold M.bt; simp; omega⟩
/-- One entry of a script. -/
theorem open_op {W : World} {n : Nat} {cs : List Value} {D : DataW H} {Pl : List MemPlace} (h : DataW.trod enc Tryz.prog W 0 (fun _ => true) true n 33 cs = some (D, Pl)) :
    ∃ t : OpD, cs = [.int .i64 t.k, .int .i64 t.a, t.v, t.u, .int .u16 t.at_, .int .u8 (M.bt t.x)] ∧ (S.Ls S.eU 1 W t.v t.l ∧ S.Ls S.eK 2 W t.u t.m) ∧ ((D.weights Tryz.prog 33).all (· ≤ reachBytes) = true → t.l.length * 2 + 4096 ≤ S.room ∧ t.m.length * 16 + 4096 ≤ S.room) ∧ (∀ x ∈ t.l, C.C x) ∧ (∀ q ∈ t.m, C.C q.2) ∧ C.C t.at_ := by
  obtain ⟨xs, q, _, hxy, hcl, hxl, hf⟩ := DataW.trod_struct undS h
  have hc5 : Tryz.prog.cellsOf 33 = 6 := by kernel_rfl
  rw [hc5] at hcl
  have c3 : Tryz.prog.cellsOf 3 = 1 := by kernel_rfl
  have c5 : Tryz.prog.cellsOf 5 = 1 := by kernel_rfl
  have c31 : Tryz.prog.cellsOf 31 = 1 := by kernel_rfl
  have c22 : Tryz.prog.cellsOf 22 = 1 := by kernel_rfl
  have c44 : Tryz.prog.cellsOf 23 = 1 := by kernel_rfl
  match xs, hxl, cs, hcl with
  | [x0, x1, x2, x3, x4, x5], _, [a, b, c, d, e, f], _ =>
    have f0 := hf 0 _ rfl
    have f1 := hf 1 _ rfl
    have f2 := hf 2 _ rfl
    have f3 := hf 3 _ rfl
    have f4 := hf 4 _ rfl
    have f5 := hf 5 _ rfl
    replace f0 : DataW.trod enc Tryz.prog W 0 (fun _ => true) true q 3 [a] = some x0 := by simpa [c3] using f0
    replace f1 : DataW.trod enc Tryz.prog W 0 (fun _ => true) true q 3 [b] = some x1 := by simpa [c3] using f1
    replace f2 : DataW.trod enc Tryz.prog W 0 (fun _ => true) true q 22 [c] = some x2 := by simpa [c22] using f2
    replace f3 : DataW.trod enc Tryz.prog W 0 (fun _ => true) true q 23 [d] = some x3 := by simpa [c44] using f3
    replace f4 : DataW.trod enc Tryz.prog W 0 (fun _ => true) true q 31 [e] = some x4 := by simpa [c31] using f4
    replace f5 : DataW.trod enc Tryz.prog W 0 (fun _ => true) true q 5 [f] = some x5 := by simpa [c5] using f5
    obtain ⟨k0, e0, _, _⟩ := DataW.trod_int Tryz.underlying3 f0
    obtain ⟨k1, e1, _, _⟩ := DataW.trod_int Tryz.underlying3 f1
    obtain ⟨l, p3, c3', e2, g1, g2, g3, g4, g5⟩ := open_us0 f2
    obtain ⟨m, p4, c4', e3, i1, i2, i3, i4, i5⟩ := open_ks0 f3
    obtain ⟨k4, e4, q4, r4⟩ := DataW.trod_int Tryz.underlying31 f4
    obtain ⟨k5, e5, q5, r5⟩ := DataW.trod_int Tryz.underlying5 f5
    simp only [List.cons.injEq, and_true] at e0 e1 e2 e3 e4 e5
    subst e0 e1 e2 e3 e4 e5
    obtain ⟨y5, hy5⟩ := u8_ex (by first | exact r5 | exact q5)
    subst hy5
    refine ⟨⟨k0, k1, .slice p3 l.length c3', .slice p4 m.length c4', l, m, k4, y5⟩, rfl, ⟨ls_ofS g1 g2 g3, ls_ofS i1 i2 i3⟩, fun hw => ?_, g5, i5, wf_C (by first | exact r4 | exact q4)⟩
    simp only [Prod.mk.injEq] at hxy
    rw [hxy.1] at hw
    simp only [DataW.weights, undS, List.map_cons, List.map_nil, DataW.weightsEach, List.all_append, Bool.and_eq_true] at hw
    exact ⟨g4 hw.2.2.1, i4 hw.2.2.2.1⟩
/-- A script that came in. -/
theorem open_script {W : World} {base : Nat} {v : Value} {d : DataW H} {p : List MemPlace} (hval : Value.okWide Tryz.prog W .any base 30 v) (h : DataW.Trod enc Tryz.prog W 0 (fun _ => true) true 30 v d p)
    (hw : (d.weights Tryz.prog 30).all (· ≤ reachBytes) = true) :
    ∃ (ps : List OpD) (pp : Option Addr) (c : Nat), v = .slice pp ps.length c ∧ ScS W pp ps ∧ ps.length ≤ 140737488355328 := by
  obtain ⟨a, len, cap, rfl⟩ := okWide_slice Tryz.underlying30 hval
  obtain ⟨fuel, hf⟩ := h
  rcases Deep.open_slice Tryz.underlying30 hf with ⟨hcs, hx⟩ | ⟨x, l, c, m, n, D, Pl, hcs, _, hl, hm, hmm, hx, hel⟩
  · simp [Value.cells] at hcs
    obtain ⟨rfl, rfl, rfl⟩ := hcs
    exact ⟨[], none, 0, rfl, fun i l hi => by simp at hi, by simp⟩
  · simp [Value.cells] at hcs
    obtain ⟨rfl, rfl, rfl⟩ := hcs
    simp only [Prod.mk.injEq] at hx
    obtain ⟨rfl, rfl⟩ := hx
    simp only [if_true] at hmm
    have hc5 : Tryz.prog.cellsOf 33 = 6 := by kernel_rfl
    rw [hc5] at hel
    have hby : Tryz.prog.bytesOf 33 = 72 := by kernel_rfl
    simp only [DataW.weights, Tryz.underlying30, List.all_cons, List.all_append, Bool.and_eq_true, decide_eq_true_eq, hby, List.length_map, List.length_range] at hw
    have hw1 := hw.1
    unfold reachBytes at hw1
    have hwi := weights_all Tryz.prog 33 _ _ (List.range len) hw.2.1
    have hsp0 : 0 < len → x.spot = none := fun hp => by
      obtain ⟨cs', h1, h2⟩ := hel 0 (by omega)
      obtain ⟨_, hlen, hcell⟩ := World.cells?_some h1
      obtain ⟨t, rfl, _, _, _, _, _⟩ := open_op h2
      have g0 := hcell 0 (by simp)
      rw [Deep.add_add] at g0
      exact add_none g0
    have hex : ∀ i, i < len → ∃ t : OpD, (∃ b o, some x = some (⟨b, o, none⟩ : Addr) ∧ W.cell? ⟨b, o + i * 6, none⟩ = some (.int .i64 t.k) ∧ W.cell? ⟨b, o + i * 6 + 1, none⟩ = some (.int .i64 t.a) ∧ W.cell? ⟨b, o + i * 6 + 2, none⟩ = some t.v ∧ W.cell? ⟨b, o + i * 6 + 3, none⟩ = some t.u ∧ W.cell? ⟨b, o + i * 6 + 4, none⟩ = some (.int .u16 t.at_) ∧ W.cell? ⟨b, o + i * 6 + 5, none⟩ = some (.int .u8 (M.bt t.x))) ∧ (S.Ls S.eU 1 W t.v t.l ∧ S.Ls S.eK 2 W t.u t.m) ∧ (t.l.length * 2 + 4096 ≤ S.room ∧ t.m.length * 16 + 4096 ≤ S.room) ∧ (∀ x ∈ t.l, C.C x) ∧ (∀ q ∈ t.m, C.C q.2) ∧ C.C t.at_ := by
      intro i hi
      obtain ⟨cs', h1, h2⟩ := hel i (by omega)
      obtain ⟨_, hlen, hcell⟩ := World.cells?_some h1
      obtain ⟨t, rfl, hx, hz, hy⟩ := open_op h2
      have g0 := hcell 0 (by simp)
      have g1 := hcell 1 (by simp)
      have g2 := hcell 2 (by simp)
      have g3 := hcell 3 (by simp)
      have g4 := hcell 4 (by simp)
      have g5 := hcell 5 (by simp)
      simp only [List.getElem?_cons_zero, List.getElem?_cons_succ] at g0 g1 g2 g3 g4 g5
      rw [Deep.add_add] at g0 g1 g2 g3 g4 g5
      have hsp := hsp0 (by omega)
      obtain ⟨b, o, sp⟩ := x
      simp only at hsp
      subst hsp
      rw [add_at] at g0 g1 g2 g3 g4 g5
      exact ⟨t, ⟨b, o, rfl, g0, by rw [Nat.add_assoc]; exact g1, by rw [Nat.add_assoc]; exact g2, by rw [Nat.add_assoc]; exact g3, by rw [Nat.add_assoc]; exact g4, by rw [Nat.add_assoc]; exact g5⟩, hx, hz (hwi i (by simpa using hi)), hy⟩
    have : Inhabited OpD := ⟨⟨0, 0, .slice none 0 0, .slice none 0 0, [], [], 0, 0⟩⟩
    obtain ⟨f, hf2⟩ := Deep.choose_lt hex
    refine ⟨(List.range len).map f, some x, cap, by simp, fun i t hi => ?_, by simp; omega⟩
    have hil : i < len := by
      by_cases h : i < len
      · exact h
      · rw [List.getElem?_eq_none (by simp; omega)] at hi; cases hi
    simp [hil] at hi
    subst hi
    exact hf2 i hil
end
end Go.Proofs.YtgponcjjnjpfkabGreat.L
