import Derived.Test.YtcnhfgoflfnocaaPlayK
/-! The law's plays, walked. -/
namespace Go.Proofs.Ytcnhfgoflfnocaa
open Go.RowKit
open Go.Proofs
set_option linter.unusedVariables false
set_option linter.unusedSimpArgs false
set_option maxHeartbeats 30000000
set_option maxRecDepth 100000
section
variable {B bp n : Nat}
theorem plays_head (k a b : Int) (v u : Value) (l : List Int) (m : List (Int × Int)) (w0 w : World) (hA : AR B w0 v u l m) (h0 : Below B w0 w) (h : PE 0 0 B w bp n) (hn : n ≤ 1400) :
    Calls Try.prog 22 #[.pointer (some ⟨bp, 0, none⟩), .agg (opc k a b v u).toArray] w fun e w' => e = .returned (.bool true) ∧ PE 0 0 B w' bp n ∧ Below B w0 w' := by
  obtain ⟨pv, cv, rfl, _, _⟩ := hA.x.ex
  obtain ⟨pu, cu, rfl, _, _⟩ := hA.y.ex
  have hbp : bp < w.heap.size ∧ B ≤ bp := by obtain ⟨_, _, _, _, _, _, _, _, _, _, _, _, P⟩ := h; exact ⟨lt_of P.blk, P.hbp⟩
  obtain ⟨w1, hw1⟩ : ∃ w1, w.alloc (.cells (opc k a b (.slice pv l.length cv) (.slice pu m.length cu)).toArray 73) = w1 := ⟨_, rfl⟩
  have b1 : Below w.heap.size w w1 := by rw [← hw1]; exact (Below.refl _ _).alloc (Nat.le_refl _) _
  have q1 : w1.heap[w.heap.size]? = some (.cells (opc k a b (.slice pv l.length cv) (.slice pu m.length cu)).toArray 73 (0, 0)) := by rw [← hw1]; exact heap_alloc_new w _
  have hc3 : w1.drew.cell? ⟨w.heap.size, 3, none⟩ = some (.slice pv l.length cv) ∧ w1.drew.cell? ⟨w.heap.size, 4, none⟩ = some (.slice pu m.length cu) := ⟨cell_of w1 _ 3 _ 73 _ q1 rfl, cell_of w1 _ 4 _ 73 _ q1 rfl⟩
  unfold opc at hw1 ⊢
  go_enter Try.func22, Try.ntmps22
  go_upto_region 1 with fail
  have hcU := ownU (.slice pv l.length cv) l hA.hl w1.drew (hA.at fun i hi => (b1.block i (by omega)).trans (h0.block i hi)).1
  have hcK : ∀ w2, Below w1.heap.size w1 w2 → Calls Try.prog 33 #[.slice pu m.length cu] w2 fun e w' => ∃ g cap, e = .returned (.slice (some ⟨g, 0, none⟩) m.length cap) ∧ CK w' w2.heap.size g cap m ∧ Below w2.heap.size w2 w' := fun w2 b2 => ownK _ m hA.hm w2 (hA.at fun i hi => (b2.block i (by have := b1.size; omega)).trans ((b1.block i (by omega)).trans (h0.block i hi))).2
  have hsq : ∀ W, Below w1.heap.size w1 W → W.cell? ⟨w.heap.size, 3, none⟩ = some (.slice pv l.length cv) ∧ W.cell? ⟨w.heap.size, 4, none⟩ = some (.slice pu m.length cu) := fun W hb => by
    have e := (hb.block _ (lt_of q1)).trans q1
    exact ⟨cell_of W _ 3 _ 73 _ e rfl, cell_of W _ 4 _ 73 _ e rfl⟩
  have HcK := hid hcK
  have HSq := hid hsq
  have HA := hid hA
  have H0 := hid h0
  have HP := hid h
  have HB1 := hid b1
  have HQ1 := hid q1
  clear hcK hsq hA h0 h b1 q1
  go_region_held (fun W => W.cell? ⟨w.heap.size, 3, none⟩ = some (.slice pv l.length cv) ∧ W.cell? ⟨w.heap.size, 4, none⟩ = some (.slice pu m.length cu))
    (first | (with_reducible exact hc3) | (with_reducible exact sU) | (with_reducible exact sK))
    ((first
      | (go_at_call 32; refine hcU.mono ?_; rintro e w2 ⟨gc, cc, rfl, C2, b2⟩; have hB2 : Below w1.heap.size w1 w2 := ((Below.refl w1.heap.size w1).drew).trans b2; have sU := HSq.out w2 hB2; have hk2 := HcK.out w2 hB2)
      | (go_at_call 33; refine hk2.mono ?_; rintro e w3 ⟨gk, ck, rfl, K3, b3⟩; have hB3 : Below w1.heap.size w1 w3 := hB2.trans (b3.mono hB2.size); have sK := HSq.out w3 hB3)))
  have hz1 : w1.heap.size = w.heap.size + 1 := by rw [← hw1]; simp
  have hB0 : B ≤ w.heap.size := by omega
  have hQ : QS w.heap.size w3.heap.size B bp n w.heap.size gc cc gk ck k a b (.slice pv l.length cv) (.slice pu m.length cu) l m w0 w3 := by
    have hbw : Below w.heap.size w w3 := HB1.out.trans (hB3.mono (by omega))
    refine ⟨?_, H0.out.trans (hbw.mono hB0), (hB3.block _ (by omega)).trans HQ1.out, own_mono (own_kept C2 fun y _ hy => b3.block y hy) (by show w.heap.size ≤ w1.heap.size; omega), own_mono K3 (by have := hB2.size; omega), hB0, Nat.le_refl _, Nat.le_refl _, (by have := C2.blk.2.2; obtain ⟨cur, hc⟩ := this; have := lt_of hc; have := b3.size; omega), (by obtain ⟨cur, hc⟩ := K3.blk.2.2; exact lt_of hc)⟩
    obtain ⟨_, _, _, _, _, _, _, _, _, _, _, _, P⟩ := HP.out
    exact ⟨_, _, _, _, _, _, _, _, _, _, _, _, (P.enter w3.heap.size).below hbw⟩
  have HQ := hid hQ
  have HBW := hid (show Below w.heap.size w w3 from HB1.out.trans (hB3.mono (by omega)))
  have HZ := hid (show w.heap.size < w3.heap.size by have := hB3.size; omega)
  have ck0 := cell_of w3 _ 0 _ 73 _ hQ.o rfl
  clear hcU HcK HSq hB3 hB2 C2 K3 b2 b3 sU sK hk2 hz1 hQ HB1 HQ1 HP hw1 hc3
  generalize hlo : w.heap.size = lo at *
  generalize hhi : w3.heap.size = hi at *
  go_upto_region 3 with fail
  go_cut [26] (fun s wc => s = .int .i64 k ∧ wc = w3)
  case first =>
    go_wp2
    go_meet
    case rel => exact ⟨rfl, rfl⟩
  case rest =>
    obtain ⟨rfl, hwc⟩ := hcut
    obtain rfl := hwc.symm
    apply_assumption
    go_cut [7] (fun s wc => s = .bool true ∧ QS lo hi B bp n lo gc cc gk ck k a b (.slice pv l.length cv) (.slice pu m.length cu) l m w0 wc)
    case first =>
      obtain ⟨bd, br, be, bq, gv, gr, ev, qv, vs, ws, D, R, P⟩ := HQ.out.p
      have Q := HQ.out
      have A := HA.out
      have kq : ∀ q, KT (fun _ => False) B w3 (w3.drewN q) := fun q => ⟨⟨rfl, rfl, rfl, Nat.le_refl _, fun _ _ => rfl⟩, fun _ _ _ _ e _ => e⟩
      have hcs := fun q => cs_at P Q (kq q) (by simp) (by simp)
      have QSD : ∀ q, QS lo hi B bp n lo gc cc gk ck k a b (.slice pv l.length cv) (.slice pu m.length cu) l m w0 (w3.drewN q) := fun q => Q.step (kq q) (by simp) (by simp) (by simp) (PX.pe (P.drewN q))
      have HP := hid P
      have HCS := hid hcs
      clear P Q A HQ hcs ck0 kq HBW HZ
      by_cases c1 : k = 1
      · as_aux_lemma =>
          subst c1
          have n1 := fun q => dneed bd D a b (w3.drewN q) (HP.out.drewN q).d
          have n2 := fun q => eneed be B ev D a b (w3.drewN q) (HP.out.drewN q).e
          have x0 : ∀ q, (w3.drewN q).cell? ⟨bp, 0, none⟩ = some (.pointer (some ⟨bd, 0, none⟩)) := fun q => (HCS.out q).1.1
          have x2 : ∀ q, (w3.drewN q).cell? ⟨bp, 2, none⟩ = some (.pointer (some ⟨be, 0, none⟩)) := fun q => (HCS.out q).1.2.2.1
          have y1 : ∀ q, (w3.drewN q).cell? ⟨lo, 1, none⟩ = some (.int .i64 a) := fun q => (HCS.out q).2.1
          have y2 : ∀ q, (w3.drewN q).cell? ⟨lo, 2, none⟩ = some (.int .i64 b) := fun q => (HCS.out q).2.2.1
          have HQ2 := hid (fun q => QSD q)
          generalize need D.length a b = F at *
          clear HP HCS HA H0 QSD
          go_wp2_with fail
          go_quiet ((first | (go_at_call 9; exact Calls.quiet_of_same (n1 _)) | (go_at_call 34; exact Calls.quiet_of_same (n2 _))))
          go_wp2
          go_meet
          case rel => exact ⟨rfl, HQ2.out _⟩
      have d1 : (k == 1) = false := beq_eq_false_iff_ne.2 c1
      by_cases c2 : k = 2
      · as_aux_lemma =>
          subst c2
          have esA0 : w3.cell? ⟨bp, 0, none⟩ = some (.pointer (some ⟨bd, 0, none⟩)) := (HCS.out 0).1.1
          have esA1 : w3.cell? ⟨bp, 2, none⟩ = some (.pointer (some ⟨be, 0, none⟩)) := (HCS.out 0).1.2.2.1
          have esA2 : w3.cell? ⟨lo, 3, none⟩ = some (.slice pv l.length cv) := (HCS.out 0).2.2.2.1
          have sA : w3.drew.cell? ⟨bp, 0, none⟩ = some (.pointer (some ⟨bd, 0, none⟩)) ∧ w3.drew.cell? ⟨bp, 2, none⟩ = some (.pointer (some ⟨be, 0, none⟩)) ∧ w3.drew.cell? ⟨lo, 3, none⟩ = some (.slice pv l.length cv) := ⟨esA0, esA1, esA2⟩
          obtain ⟨F, hF⟩ := kind2 HA.out (QSD 0) HP.out
          clear HP HCS HA H0 QSD
          go_wp2_with fail
          go_region_held (fun W => W.cell? ⟨bp, 0, none⟩ = some (.pointer (some ⟨bd, 0, none⟩)) ∧ W.cell? ⟨bp, 2, none⟩ = some (.pointer (some ⟨be, 0, none⟩)) ∧ W.cell? ⟨lo, 3, none⟩ = some (.slice pv l.length cv))
            (first | (with_reducible exact sA) | (with_reducible exact sB) | (with_reducible exact sC))
            ((first
              | (go_at_call 12; refine hF.mono ?_; rintro e W1 ⟨rfl, sB, h2⟩)
              | (go_at_call 35; refine h2.mono ?_; rintro e W2 ⟨rfl, sC, hQ2⟩; have HQ2 := hid hQ2; clear hQ2)))
          go_wp2
          go_meet
          case rel => exact ⟨rfl, HQ2.out⟩
      have d2 : (k == 2) = false := beq_eq_false_iff_ne.2 c2
      by_cases c3 : k = 3
      · as_aux_lemma =>
          subst c3
          have esA0 : w3.cell? ⟨bp, 0, none⟩ = some (.pointer (some ⟨bd, 0, none⟩)) := (HCS.out 0).1.1
          have esA1 : w3.cell? ⟨bp, 2, none⟩ = some (.pointer (some ⟨be, 0, none⟩)) := (HCS.out 0).1.2.2.1
          have sA : w3.drew.cell? ⟨bp, 0, none⟩ = some (.pointer (some ⟨bd, 0, none⟩)) ∧ w3.drew.cell? ⟨bp, 2, none⟩ = some (.pointer (some ⟨be, 0, none⟩)) := ⟨esA0, esA1⟩
          obtain ⟨F, hF⟩ := kind3 HA.out (QSD 0) HP.out
          clear HP HCS HA H0 QSD
          go_wp2_with fail
          go_region_held (fun W => W.cell? ⟨bp, 0, none⟩ = some (.pointer (some ⟨bd, 0, none⟩)) ∧ W.cell? ⟨bp, 2, none⟩ = some (.pointer (some ⟨be, 0, none⟩)))
            (first | (with_reducible exact sA) | (with_reducible exact sB) | (with_reducible exact sC))
            ((first
              | (go_at_call 11; refine hF.mono ?_; rintro e W1 ⟨rfl, sB, h2⟩)
              | (go_at_call 36; refine h2.mono ?_; rintro e W2 ⟨rfl, sC, hQ2⟩; have HQ2 := hid hQ2; clear hQ2)))
          go_wp2
          go_meet
          case rel => exact ⟨rfl, HQ2.out⟩
      have d3 : (k == 3) = false := beq_eq_false_iff_ne.2 c3
      by_cases c5 : k = 5
      · as_aux_lemma =>
          subst c5
          have esA0 : w3.cell? ⟨bp, 1, none⟩ = some (.pointer (some ⟨br, 0, none⟩)) := (HCS.out 0).1.2.1
          have esA1 : w3.cell? ⟨bp, 3, none⟩ = some (.pointer (some ⟨bq, 0, none⟩)) := (HCS.out 0).1.2.2.2
          have esA2 : w3.cell? ⟨lo, 4, none⟩ = some (.slice pu m.length cu) := (HCS.out 0).2.2.2.2
          have sA : w3.drew.cell? ⟨bp, 1, none⟩ = some (.pointer (some ⟨br, 0, none⟩)) ∧ w3.drew.cell? ⟨bp, 3, none⟩ = some (.pointer (some ⟨bq, 0, none⟩)) ∧ w3.drew.cell? ⟨lo, 4, none⟩ = some (.slice pu m.length cu) := ⟨esA0, esA1, esA2⟩
          obtain ⟨F, hF⟩ := kind5 HA.out (QSD 0) HP.out
          clear HP HCS HA H0 QSD
          go_wp2_with fail
          go_region_held (fun W => W.cell? ⟨bp, 1, none⟩ = some (.pointer (some ⟨br, 0, none⟩)) ∧ W.cell? ⟨bp, 3, none⟩ = some (.pointer (some ⟨bq, 0, none⟩)) ∧ W.cell? ⟨lo, 4, none⟩ = some (.slice pu m.length cu))
            (first | (with_reducible exact sA) | (with_reducible exact sB) | (with_reducible exact sC))
            ((first
              | (go_at_call 17; refine hF.mono ?_; rintro e W1 ⟨rfl, sB, h2⟩)
              | (go_at_call 37; refine h2.mono ?_; rintro e W2 ⟨rfl, sC, hQ2⟩; have HQ2 := hid hQ2; clear hQ2)))
          go_wp2
          go_meet
          case rel => exact ⟨rfl, HQ2.out⟩
      have d5 : (k == 5) = false := beq_eq_false_iff_ne.2 c5
      by_cases c6 : k = 6
      · as_aux_lemma =>
          subst c6
          have esA0 : w3.cell? ⟨bp, 1, none⟩ = some (.pointer (some ⟨br, 0, none⟩)) := (HCS.out 0).1.2.1
          have esA1 : w3.cell? ⟨lo, 1, none⟩ = some (.int .i64 a) := (HCS.out 0).2.1
          have sA : w3.drew.cell? ⟨bp, 1, none⟩ = some (.pointer (some ⟨br, 0, none⟩)) ∧ w3.drew.cell? ⟨lo, 1, none⟩ = some (.int .i64 a) := ⟨esA0, esA1⟩
          obtain ⟨X, F, hF⟩ := kind6 HA.out (QSD 0) HP.out
          clear HP HCS HA H0 QSD
          go_wp2_with fail
          go_region_held (fun W => W.cell? ⟨bp, 1, none⟩ = some (.pointer (some ⟨br, 0, none⟩)) ∧ W.cell? ⟨lo, 1, none⟩ = some (.int .i64 a))
            (first | (with_reducible exact sA) | (with_reducible exact sB))
            ((go_at_call 14; refine hF.mono ?_; rintro e W1 ⟨rfl, sB, sC, h2⟩))
          clear hF sA sB
          go_wp2_with fail
          go_region_held (fun W => W.cell? ⟨bp, 3, none⟩ = some (.pointer (some ⟨bq, 0, none⟩)) ∧ W.cell? ⟨lo, 1, none⟩ = some (.int .i64 a))
            (first | (with_reducible exact sC) | (with_reducible exact sD))
            ((go_at_call 38; refine h2.mono ?_; rintro e W2 ⟨rfl, sD, hQ2⟩; have HQ2 := hid hQ2; clear hQ2))
          clear h2 sC sD
          go_wp2
          go_meet
          case rel => exact ⟨rfl, HQ2.out⟩
      have d6 : (k == 6) = false := beq_eq_false_iff_ne.2 c6
      by_cases c7 : k = 7
      · as_aux_lemma =>
          subst c7
          have esA0 : w3.cell? ⟨bp, 1, none⟩ = some (.pointer (some ⟨br, 0, none⟩)) := (HCS.out 0).1.2.1
          have esA1 : w3.cell? ⟨lo, 1, none⟩ = some (.int .i64 a) := (HCS.out 0).2.1
          have esA2 : w3.cell? ⟨lo, 2, none⟩ = some (.int .i64 b) := (HCS.out 0).2.2.1
          have sA : w3.drew.cell? ⟨bp, 1, none⟩ = some (.pointer (some ⟨br, 0, none⟩)) ∧ w3.drew.cell? ⟨lo, 1, none⟩ = some (.int .i64 a) ∧ w3.drew.cell? ⟨lo, 2, none⟩ = some (.int .i64 b) := ⟨esA0, esA1, esA2⟩
          obtain ⟨X, F, hF⟩ := kind7 HA.out (QSD 0) HP.out
          clear HP HCS HA H0 QSD
          go_wp2_with fail
          go_region_held (fun W => W.cell? ⟨bp, 1, none⟩ = some (.pointer (some ⟨br, 0, none⟩)) ∧ W.cell? ⟨lo, 1, none⟩ = some (.int .i64 a) ∧ W.cell? ⟨lo, 2, none⟩ = some (.int .i64 b))
            (first | (with_reducible exact sA) | (with_reducible exact sB))
            ((go_at_call 15; refine hF.mono ?_; rintro e W1 ⟨rfl, sB, sC, h2⟩))
          clear hF sA sB
          go_wp2_with fail
          go_region_held (fun W => W.cell? ⟨bp, 3, none⟩ = some (.pointer (some ⟨bq, 0, none⟩)) ∧ W.cell? ⟨lo, 1, none⟩ = some (.int .i64 a) ∧ W.cell? ⟨lo, 2, none⟩ = some (.int .i64 b))
            (first | (with_reducible exact sC) | (with_reducible exact sD))
            ((go_at_call 39; refine h2.mono ?_; rintro e W2 ⟨rfl, sD, hQ2⟩; have HQ2 := hid hQ2; clear hQ2))
          clear h2 sC sD
          go_wp2
          go_meet
          case rel => exact ⟨rfl, HQ2.out⟩
      have d7 : (k == 7) = false := beq_eq_false_iff_ne.2 c7
      by_cases c8 : k = 8
      · as_aux_lemma =>
          subst c8
          have h8 := fun x => kind8 HA.out (QSD 0) HP.out x
          have x1 : w3.cell? ⟨bp, 1, none⟩ = some (.pointer (some ⟨br, 0, none⟩)) := (HCS.out 0).1.2.1
          have y3 : w3.cell? ⟨lo, 3, none⟩ = some (.slice pv l.length cv) := (HCS.out 0).2.2.2.1
          have hx := (HA.out.of (QSD 0).bel).1.sl
          have z0 : w3.drewN 0 = w3 := rfl
          rw [z0] at hx h8
          clear z0
          cases hl0 : l with
          | nil =>
            subst hl0
            have h9 := h8 0
            clear HP HCS HA H0 QSD h8 hx
            go_wp2_with fail
            refine h9.mono ?_
            rintro e W1 ⟨rfl, x3, h2⟩
            clear h9 x1 y3
            go_wp2_with fail
            refine h2.mono ?_
            rintro e W2 ⟨rfl, hQ2⟩
            have HQ2 := hid hQ2
            clear hQ2 h2 x3
            go_wp2
            go_meet
            case rel => exact ⟨rfl, HQ2.out⟩
          | cons z l' =>
            obtain ⟨bx, ox, hpv, ex⟩ := hx.u 0 z (by rw [hl0]; rfl)
            have h9 := h8 z
            have hlen : 0 < l.length := by rw [hl0]; simp
            have e1 : decide ((0 : Int) < (l.length : Int)) = true := decide_eq_true (by omega)
            have e2 : (0 : Int) < (l.length : Int) := by omega
            rw [Nat.add_zero] at ex
            clear HP HCS HA H0 QSD h8 hx hlen
            rw [← hl0]
            clear hl0
            subst hpv
            go_wp2_with fail
            refine h9.mono ?_
            rintro e W1 ⟨rfl, x3, h2⟩
            clear h9 x1 y3 ex
            go_wp2_with fail
            refine h2.mono ?_
            rintro e W2 ⟨rfl, hQ2⟩
            have HQ2 := hid hQ2
            clear hQ2 h2 x3
            go_wp2
            go_meet
            case rel => exact ⟨rfl, HQ2.out⟩
      have d8 : (k == 8) = false := beq_eq_false_iff_ne.2 c8
      by_cases c10 : k = 10
      · as_aux_lemma =>
          subst c10
          have hnv : (∀ W' : World, (∀ j, j < w3.heap.size → j ≠ bp → W'.heap[j]? = w3.heap[j]?) → Ls eU 1 W' (.slice pv l.length cv) l) ∧ (∀ W' : World, (∀ j, j < w3.heap.size → j ≠ bp → W'.heap[j]? = w3.heap[j]?) → Ls eK 2 W' (.slice pu m.length cu) m) := by
            have hB3 : B ≤ bp := HP.out.hbp
            have hb3 : bp < w3.heap.size := lt_of HP.out.blk
            exact ⟨fun W' h => (HA.out.at fun j hj => (h j (by omega) (by omega)).trans ((QSD 0).bel.block j hj)).1, fun W' h => (HA.out.at fun j hj => (h j (by omega) (by omega)).trans ((QSD 0).bel.block j hj)).2⟩
          have hmd := made_any (.slice pv l.length cv) (.slice pu m.length cu) l m HA.out.hl HA.out.hm w3 HP.out hnv.1 hnv.2 (QSD 0).hs
          have y3 : w3.cell? ⟨lo, 3, none⟩ = some (.slice pv l.length cv) := (HCS.out 0).2.2.2.1
          have y4 : w3.cell? ⟨lo, 4, none⟩ = some (.slice pu m.length cu) := (HCS.out 0).2.2.2.2
          have HST := hid (fun W2 (p2 : PE lo hi B W2 bp n) (k2 : KT (fun t => t = 70) B w3 W2) => (QSD 0).step (W' := W2) k2 (by decide) (by decide) (by decide) p2)
          clear HP HCS HA H0 QSD hnv
          go_wp2_with fail
          refine hmd.mono ?_
          rintro e W2 ⟨rfl, p2, k2⟩
          have HQ2 := hid (HST.out W2 p2 k2)
          clear hmd y3 y4 HST p2 k2
          go_wp2
          go_meet
          case rel => exact ⟨rfl, HQ2.out⟩
      have d10 : (k == 10) = false := beq_eq_false_iff_ne.2 c10
      by_cases c11 : k = 11
      · subst c11
        obtain ⟨pe, ce, hev⟩ := ex_slice HP.out.e.row
        obtain ⟨pq, cq, hqv⟩ := ex_slice HP.out.q.row
        subst hev hqv
        have hdl := HP.out.e.len
        have hrl := HP.out.q.len
        have x2 : ∀ q, (w3.drewN q).cell? ⟨bp, 2, none⟩ = some (.pointer (some ⟨be, 0, none⟩)) := fun q => (HCS.out q).1.2.2.1
        have x3 : ∀ q, (w3.drewN q).cell? ⟨bp, 3, none⟩ = some (.pointer (some ⟨bq, 0, none⟩)) := fun q => (HCS.out q).1.2.2.2
        have xe : ∀ q, (w3.drewN q).cell? ⟨be, 0, none⟩ = some (.slice pe D.length ce) := fun q => cell_of w3 be 0 _ 63 _ HP.out.e.blk rfl
        have xq : ∀ q, (w3.drewN q).cell? ⟨bq, 0, none⟩ = some (.slice pq R.length cq) := fun q => cell_of w3 bq 0 _ 66 _ HP.out.q.blk rfl
        have hmay := fun q => may_any pe pq ce cq D R (by unfold room; omega) (by unfold room; omega) (w3.drewN q) (HP.out.drewN q).q.row.ls.sl
        have HQD := hid QSD
        have HDL := hid hdl
        have HRL := hid hrl
        cases hms : mayS D R with
        | false =>
          rw [hms] at hmay
          clear HP HCS HA H0 QSD hms hdl hrl HDL HRL
          go_wp2_with fail
          go_quiet ((go_at_call 20; exact Calls.quiet_of_same (hmay _)))
          go_wp2
          go_meet
          case rel => exact ⟨rfl, HQD.out _⟩
        | true =>
          rw [hms] at hmay
          clear HCS HA H0 QSD hms hdl hrl
          go_wp2_with fail
          go_quiet ((go_at_call 20; exact Calls.quiet_of_same (hmay _)))
          have H11 := hid (fun q => kind11 (HQD.out q) (HP.out.drewN q))
          have x0 : ∀ q, (w3.drewN q).cell? ⟨bp, 0, none⟩ = some (.pointer (some ⟨bd, 0, none⟩)) := fun q => cell_of w3 bp 0 _ 70 _ HP.out.blk rfl
          have x1 : ∀ q, (w3.drewN q).cell? ⟨bp, 1, none⟩ = some (.pointer (some ⟨br, 0, none⟩)) := fun q => cell_of w3 bp 1 _ 70 _ HP.out.blk rfl
          clear hmay x2 x3 xe xq HP HQD HDL HRL
          go_upto_region 30 with fail
          obtain ⟨w4, hw4⟩ : ∃ w4, w4 = w3.drewN nq := ⟨_, rfl⟩
          have x0' : w4.cell? ⟨bp, 0, none⟩ = some (.pointer (some ⟨bd, 0, none⟩)) := by rw [hw4]; exact x0 nq
          have x1' : w4.cell? ⟨bp, 1, none⟩ = some (.pointer (some ⟨br, 0, none⟩)) := by rw [hw4]; exact x1 nq
          have h11 := H11.out nq
          rw [← hw4] at h11
          rw [← hw4]
          clear x0 x1 H11 hw4
          go_region_with ((first
            | (go_at_call 16; refine h11.mono ?_; rintro e W1 ⟨p1, c1, rfl, xr, h2⟩)
            | (go_at_call 19; refine h2.mono ?_; rintro e W2 ⟨p2, c2, rfl, h3⟩)
            | (go_at_call 41; refine h3.mono ?_; rintro e W3 ⟨rfl, hQ2⟩; have HQ2 := hid hQ2; clear hQ2 h3 h2 h11 xr x0' x1')))
          all_goals
            go_wp2
            go_meet
            case rel => exact ⟨rfl, HQ2.out⟩
      have d11 : (k == 11) = false := beq_eq_false_iff_ne.2 c11
      as_aux_lemma =>
        have HQ2 := hid (QSD 0)
        clear HP HCS HA H0 QSD
        go_wp2
        go_meet
        case rel => exact ⟨rfl, HQ2.out⟩
    case rest =>
      obtain ⟨rfl, hQ⟩ := hcut
      obtain ⟨w4, hw4⟩ : ∃ w4, w4 = wc := ⟨_, rfl⟩
      subst hw4
      have hxy := HA.out.of hQ.bel
      have hw := whole_any gc cc gk ck _ _ _ _ l m HA.out.hl HA.out.hm w4 hQ.c hQ.k hxy.1 hxy.2
      have y3 := cell_of w4 lo 3 _ 73 _ hQ.o rfl
      have y4 := cell_of w4 lo 4 _ 73 _ hQ.o rfl
      have hll : l.length ≤ 140737488355328 := by have := HA.out.hl; unfold room at this; omega
      have hml : m.length ≤ 140737488355328 := by have := HA.out.hm; unfold room at this; omega
      have L4 := hid (show ∀ q, LP lo hi B bp n gc cc gk ck l m w0 (w4.drewN q) from fun q => ⟨hQ.p.touch fun _ _ _ => rfl, ⟨hQ.bel.os, hQ.bel.tape, hQ.bel.output, hQ.bel.size, hQ.bel.block⟩, ⟨mU l, mU_len l, hQ.c⟩, ⟨mK m, mK_len m, hQ.k⟩, hQ.lb, hQ.gh⟩)
      clear hQ hxy HQ HBW HZ HA H0 ck0
      as_aux_lemma =>
        go_wp2_with fail
        refine hw.mono ?_
        rintro e w5 ⟨rfl, q, hq⟩
        have L5 := hid (show LP lo hi B bp n gc cc gk ck l m w0 w5 by rw [hq]; exact L4.out q)
        clear hw hq L4 y3 y4
        go_wp2
        go_loopw [17] (fun j wr => ∃ i : Nat, i ≤ l.length ∧ j = .int .i64 (i : Int) ∧ LP lo hi B bp n gc cc gk ck l m w0 wr) (fun j _ => l.length - (intOf j).toNat)
        case atStart => exact ⟨0, by omega, rfl, L5.out⟩
        case round =>
          obtain ⟨i, hi', rfl, hD⟩ := hrel
          by_cases hlt : i < l.length
          · as_aux_lemma =>
              have i1 : decide ((i : Int) < (l.length : Int)) = true := decide_eq_true (by omega)
              have i2 : (i : Int) < (l.length : Int) := by omega
              obtain ⟨⟨y, x1⟩, z1, hD2⟩ := hD.setC i hlt 4321
              have HD2 := hid hD2
              clear hD hD2 L5
              go_wp2
              go_roundw
              case rel => exact ⟨i + 1, by omega, by go_num, HD2.out⟩
              case measure => first | (simp [intOf]; done) | (simp [intOf]; omega)
          · obtain rfl : i = l.length := by omega
            have i1 : decide ((l.length : Int) < (l.length : Int)) = false := decide_eq_false (by omega)
            have L6 := hid hD
            clear hD L5
            go_wp2
            go_loopw [18] (fun j wr => ∃ i : Nat, i ≤ m.length ∧ j = .int .i64 (i : Int) ∧ LP lo hi B bp n gc cc gk ck l m w0 wr) (fun j _ => m.length - (intOf j).toNat)
            case atStart => exact ⟨0, by omega, rfl, L6.out⟩
            case round =>
              obtain ⟨i, hi', rfl, hD⟩ := hrel
              by_cases hlt : i < m.length
              · as_aux_lemma =>
                  have i1 : decide ((i : Int) < (m.length : Int)) = true := decide_eq_true (by omega)
                  have i2 : (i : Int) < (m.length : Int) := by omega
                  obtain ⟨⟨⟨y, x1⟩, y2, x2⟩, ⟨z1, z2⟩, hD2⟩ := hD.setK i hlt 4321 0
                  have HD2 := hid hD2
                  clear hD hD2 L6
                  go_wp2
                  go_roundw
                  case rel => exact ⟨i + 1, by omega, by go_num, HD2.out⟩
                  case measure => first | (simp [intOf]; done) | (simp [intOf]; omega)
              · obtain rfl : i = m.length := by omega
                have i1 : decide ((m.length : Int) < (m.length : Int)) = false := decide_eq_false (by omega)
                have L7 := hid hD
                clear hD L6
                go_wp2
                go_ret
                obtain ⟨_, _, _, _, _, _, _, _, _, _, _, _, P⟩ := L7.out.p
                exact ⟨rfl, PX.pe P.free, L7.out.bel⟩
end
end Go.Proofs.Ytcnhfgoflfnocaa
