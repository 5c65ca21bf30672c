import Derived.Test.YteldjmecomngeaaGreatG11
import Derived.Deep.DeepCutAuto
import Derived.BigQuiet
import Derived.Test.YteldjmecomngeaaGreatRows
import Derived.ProofKit
import Derived.OpenShut
import Derived.LaidMore
import Derived.Deep.DeepHandedRow
import Derived.Lib.LaidTab
import Derived.ChangeOld
import Derived.Below
import Derived.WalkKit
import Derived.Deep.Slices
import Derived.Deep.SlicePairs
import Derived.SizedLaws
/-! VmGoesOn. -/
namespace Go.Proofs.YteldjmecomngeaaGreat.V
open Go.RowKit
open Go.Proofs
set_option linter.unusedVariables false
set_option linter.unusedSimpArgs false
set_option maxHeartbeats 40000000
set_option maxRecDepth 100000
theorem a_w4 {j : Nat} (h : j < 16) : wrap64 ((j : Int) + 1) = ((j + 1 : Nat) : Int) := by simp [wrap64]; omega
theorem rem_r (a : Int) (n : Nat) (h : 0 < n) (h16 : n ≤ 16) : wrap64 (a.tmod n) = a.tmod n ∧ wrap64 (a.tmod n + n) = a.tmod n + n ∧ ∃ k : Nat, k < n ∧ (a.tmod n + n).tmod n = (k : Int) ∧ wrap64 ((a.tmod n + n).tmod n) = (k : Int) := by
  have h0 : (0 : Int) < (n : Int) := by omega
  have h1 := Int.tmod_lt_of_pos a h0
  have h2 := Int.lt_tmod_of_pos a h0
  have h3 : 0 ≤ a.tmod n + n := by omega
  have e1 : (a.tmod n + n).tmod n = (a.tmod n + n) % n := Int.tmod_eq_emod_of_nonneg h3
  have h4 := Int.emod_nonneg (a.tmod n + n) (show (n : Int) ≠ 0 by omega)
  have h5 := Int.emod_lt_of_pos (a.tmod n + n) h0
  refine ⟨by simp [wrap64]; omega, by simp [wrap64]; omega, ((a.tmod n + n) % n).toNat, by omega, by rw [e1]; omega, ?_⟩
  rw [e1]
  generalize (a.tmod n + n) % n = q at *
  simp [wrap64]; omega
def nn (a b : Nat) : Nat := min (min a b) 16
theorem nn_r (a b : Nat) : nn a b ≤ a ∧ nn a b ≤ b ∧ nn a b ≤ 16 := by unfold nn; omega
theorem goes_walk (v : Value) (c : T.Ct) (ep : Option Addr) (ec : Nat) (bp : Option Addr) (bc : Nat) (kv : Value) (pp : Option Addr) (pcap : Nat) (ps : List UInt8) (zp : Option Addr) (zc : Nat) (zs : List Int) (at_ : Int) (w : World) (h : T.IsC w v c ep ec bp bc kv) (hn : ep = none → ec = 0) (hp : M.Sl w (.slice pp ps.length pcap) ps) (hz : Is w zp zs) :
    Calls Tryz.prog 6 #[v, .agg #[.slice pp ps.length pcap, .slice zp zs.length zc, .int .i64 at_]] w fun e w' => e = .returned (.bool true) ∧ Below w.heap.size w w' := by
  have hv := h.val
  obtain ⟨kp, kc, hk, _⟩ := h.code.ex
  subst hk
  subst hv
  have hcvv : T.cv (.slice kp c.code.length kc) c.entry ep c.effs.length ec bp c.banks.length bc = .agg #[.slice kp c.code.length kc, .int .u16 (c.entry : Int), .slice ep c.effs.length ec, .slice bp c.banks.length bc] := rfl
  obtain ⟨W, hW⟩ : ∃ W, W = ((w.alloc (.cells #[.slice kp c.code.length kc, .int .u16 (c.entry : Int), .slice ep c.effs.length ec, .slice bp c.banks.length bc] 27)).alloc (.cells #[.slice pp ps.length pcap, .slice zp zs.length zc, .int .i64 at_] 68)) := ⟨_, rfl⟩
  have hb : Below w.heap.size w W := by rw [hW]; exact ((Below.refl _ w).alloc (Nat.le_refl _) _).alloc (by simp) _
  have n1 : W.heap[w.heap.size]? = some (.cells #[.slice kp c.code.length kc, .int .u16 (c.entry : Int), .slice ep c.effs.length ec, .slice bp c.banks.length bc] 27 (0, 0)) := by rw [hW]; exact heap_alloc2_old w _ _
  have n2 : W.heap[w.heap.size + 1]? = some (.cells #[.slice pp ps.length pcap, .slice zp zs.length zc, .int .i64 at_] 68 (0, 0)) := by rw [hW]; exact heap_alloc2_new w _ _
  have HC := S.hid (h.below hb)
  have HP := S.hid (hp.below hb)
  have HQ := S.hid (hz.below rfl hb)
  have q0 : ∀ q, (W.drewN q).cell? ⟨w.heap.size + 1, 0, none⟩ = some (.slice pp ps.length pcap) := fun q => S.cell_of W _ 0 [.slice pp ps.length pcap, .slice zp zs.length zc, .int .i64 at_] _ _ n2 rfl
  have q1 : ∀ q, (W.drewN q).cell? ⟨w.heap.size + 1, 1, none⟩ = some (.slice zp zs.length zc) := fun q => S.cell_of W _ 1 [.slice pp ps.length pcap, .slice zp zs.length zc, .int .i64 at_] _ _ n2 rfl
  have q2 : ∀ q, (W.drewN q).cell? ⟨w.heap.size + 1, 2, none⟩ = some (.int .i64 at_) := fun q => S.cell_of W _ 2 [.slice pp ps.length pcap, .slice zp zs.length zc, .int .i64 at_] _ _ n2 rfl
  have HB := S.hid hb
  have HN1 := S.hid n1
  have na := awake_any
  have hW' := hW.symm
  unfold T.cv
  clear h hb hp hz n1 n2 hW
  go_enter Tryz.func6, Tryz.ntmps6
  go_wp2_with fail
  go_quiet (fail)
  have bd0 : Below W.heap.size W (W.drewN nq) := ⟨rfl, rfl, rfl, Nat.le_refl _, fun _ _ => rfl⟩
  have hzz := (bd0.block _ (S.lt_of HN1.out)).trans HN1.out
  have HCq := S.hid (HC.out.below bd0)
  have HPq := S.hid (HP.out.below bd0)
  have HQq := S.hid (HQ.out.below rfl bd0)
  have HBq := S.hid (trB HB.out bd0 HB.out.size)
  have hlz : w.heap.size < (W.drewN nq).heap.size := S.lt_of HN1.out
  clear HC HP HQ HB HN1 q0 q1 q2 bd0 hW'
  generalize W.drewN nq = Wq at *
  have HZ := S.hid hzz
  have HLZ := S.hid hlz
  have k1 := ownCart_any _ c ep ec bp bc _ _ HCq.out hn
  rw [hcvv] at k1
  clear hlz
  go_wp2_with (refine wpList_load_row rfl 27 _ rfl w.heap.size rfl 27 _ (0, 0) _ hzz Tryz.underlying27 rfl (by exact size27) ?_)
  refine k1.mono ?_
  rintro e w1 ⟨v', ep', ec', bp', bc', kv', rfl, hI, h1⟩
  have HB1 := S.hid h1
  clear k1 hzz h1
  by_cases hm : T.may c = true
  case neg =>
    have k2 := new_no v' c ep' ec' bp' bc' kv' w1 hI (by simpa using hm)
    go_wp2_with fail
    refine k2.mono ?_
    rintro e w2 ⟨rfl, h2⟩
    have HB2 := S.hid (trB HBq.out (trB HB1.out h2 HB1.out.size) HBq.out.size)
    clear k2 h2 hI
    go_wp2_with (first | (go_at_call 11; refine (na _).mono ?_; rintro e we ⟨rfl, he⟩))
    go_ret
    exact ⟨rfl, trB HB2.out he HB2.out.size⟩
  have k2 := new_yes v' c ep' ec' bp' bc' kv' w1 hI hm
  go_wp2_with fail
  refine k2.mono ?_
  rintro e w2 ⟨g, bd, br, bm, ku, F, rfl, hM, hF, h2⟩
  have HB2 := S.hid (trB HB1.out h2 HB1.out.size)
  have HM := S.hid hM
  have HF := S.hid (fresh_mono' hF HB1.out.size)
  have HMAY := S.hid hm
  clear k2 h2 hI hM hF HB1 hm
  go_upto_region 5 with (first | (go_at_call 11; refine (na _).mono ?_; rintro e w3 ⟨rfl, h3⟩))
  have HI := S.hid (show GI Wq w3 g bd br bm ku F c (born c) from ⟨HM.out.below h3, HF.out, trB HB2.out h3 HB2.out.size, born_gd c, rfl, by simp [born, M.m0]⟩)
  clear HM HF HB2 h3 na
  try simp only [Act.put, List.setIfInBounds_toArray, List.set_cons_zero, List.set_cons_succ]
  go_cut [10] (fun s10 wc => s10 = .int .i64 ((nn ps.length zs.length : Nat) : Int) ∧ wc = w3)
  case first =>
    as_aux_lemma =>
      clear HI HCq HPq HQq HBq HZ HLZ HMAY
      by_cases a1 : zs.length < ps.length
      · have f1 : decide ((zs.length : Int) < (ps.length : Int)) = true := decide_eq_true (Int.ofNat_lt.mpr a1)
        by_cases a2 : 16 < zs.length
        · have f2 : decide ((16 : Int) < (zs.length : Int)) = true := decide_eq_true (by omega)
          have e : nn ps.length zs.length = 16 := by unfold nn; omega
          have HE := S.hid e
          clear e
          go_wp2
          go_meet
          case rel => exact ⟨by rw [HE.out] <;> rfl, rfl⟩
        · have f2 : decide ((16 : Int) < (zs.length : Int)) = false := decide_eq_false (by omega)
          have e : nn ps.length zs.length = zs.length := by unfold nn; omega
          have HE := S.hid e
          clear e
          go_wp2
          go_meet
          case rel => exact ⟨by rw [HE.out] <;> rfl, rfl⟩
      · have f1 : decide ((zs.length : Int) < (ps.length : Int)) = false := decide_eq_false (by omega)
        by_cases a2 : 16 < ps.length
        · have f2 : decide ((16 : Int) < (ps.length : Int)) = true := decide_eq_true (by omega)
          have e : nn ps.length zs.length = 16 := by unfold nn; omega
          have HE := S.hid e
          clear e
          go_wp2
          go_meet
          case rel => exact ⟨by rw [HE.out] <;> rfl, rfl⟩
        · have f2 : decide ((16 : Int) < (ps.length : Int)) = false := decide_eq_false (by omega)
          have e : nn ps.length zs.length = ps.length := by unfold nn; omega
          have HE := S.hid e
          clear e
          go_wp2
          go_meet
          case rel => exact ⟨by rw [HE.out] <;> rfl, rfl⟩
  case rest =>
    obtain ⟨rfl, rfl⟩ := hcut
    obtain ⟨r1, r2, r3⟩ := nn_r ps.length zs.length
    generalize nn ps.length zs.length = n at *
    have HNN := S.hid (And.intro r1 (And.intro r2 r3))
    clear r1 r2 r3
    go_upto_if 54 with fail
    try simp only [Act.put, List.setIfInBounds_toArray, List.set_cons_zero, List.set_cons_succ]
    go_cut [11] (fun s11 wd => ∃ kk : Nat, s11 = .int .i64 (kk : Int) ∧ kk ≤ n ∧ wd = wc)
    case first =>
      as_aux_lemma =>
        clear HI HCq HPq HQq HBq HZ HLZ HMAY
        by_cases a1 : 0 < n
        · have f1 : decide ((0 : Int) < (n : Int)) = true := decide_eq_true (by omega)
          have f0 : ((n : Int) == 0) = false := beq_eq_false_iff_ne.mpr (by omega)
          have f9 : ¬ (n : Int) = 0 := by omega
          obtain ⟨e1, e2, kk, hk, e3, e4⟩ := rem_r at_ n a1 HNN.out.2.2
          have E := S.hid e4
          have E3 := S.hid e3
          clear e3 e4
          go_wp2
          go_meet
          case rel => exact ⟨kk, (by first | rw [E3.out] | rw [E.out]), Nat.le_of_lt hk, rfl⟩
        · have f1 : decide ((0 : Int) < (n : Int)) = false := decide_eq_false (by omega)
          go_wp2
          go_meet
          case rel => exact ⟨0, rfl, Nat.zero_le _, rfl⟩
    case rest =>
      obtain ⟨kk, rfl, hkn, rfl⟩ := hcut
      go_wp2
      go_loopw [12] (fun i wr => ∃ (k : Nat) (F' : Nat → Prop) (u : VS), k ≤ kk ∧ i = .int .i64 (k : Int) ∧ GI Wq wr g bd br bm ku F' c u) (fun i _ => kk - (intOf i).toNat)
      case atStart => exact ⟨0, F, born c, Nat.zero_le _, rfl, HI.out⟩
      case round =>
        clear HI
        obtain ⟨k, F', u, hk, rfl, I⟩ := hrel
        by_cases hkk : k < kk
        · have d1 : decide ((k : Int) < (kk : Int)) = true := decide_eq_true (Int.ofNat_lt.mpr hkk)
          have hkn' : k < n := Nat.lt_of_lt_of_le hkk hkn
          have hj1 : k < ps.length := Nat.lt_of_lt_of_le hkn' HNN.out.1
          have hj2 : k < zs.length := Nat.lt_of_lt_of_le hkn' HNN.out.2.1
          have hj3 : k < 16 := Nat.lt_of_lt_of_le hkn' HNN.out.2.2
          have i1 : (k : Int) < (ps.length : Int) := Int.ofNat_lt.mpr hj1
          have i2 : (k : Int) < (zs.length : Int) := Int.ofNat_lt.mpr hj2
          have w1' : wrap64 ((k : Int) + 1) = ((k + 1 : Nat) : Int) := a_w4 hj3
          obtain ⟨zb, zo, rfl, ez⟩ := HQq.out k zs[k] (List.getElem?_eq_getElem hj2)
          obtain ⟨pp', cc', epp, hbs⟩ := HPq.out.ex
          cases epp
          obtain ⟨px, hpx, epw⟩ := hbs.at k ps[k] (List.getElem?_eq_getElem hj1)
          subst hpx
          generalize zs[k] = z at *
          generalize ps[k] = pad at *
          have HS := S.hid (show ∀ W', Below Wq.heap.size Wq W' → (fun w' : World => w'.cell? (px.add k) = some (.int .u8 (pad.toNat : Int)) ∧ w'.cell? ⟨zb, zo + k, none⟩ = some (.int .i64 z)) W' from fun W' hb => ⟨T.below_cell hb _ _ epw, T.below_cell hb _ _ ez⟩)
          obtain ⟨b0, b1⟩ := bud_r z
          obtain ⟨B, hB⟩ : ∃ B, B = bud z := ⟨_, rfl⟩
          have HBU := S.hid hB.symm
          rw [← hB] at b0 b1
          clear hB epw ez hbs hj1 hj2
          obtain ⟨r, hr⟩ : ∃ r, frame u (pad.toNat : Int) B = r := ⟨_, rfl⟩
          have HR := S.hid hr
          have HII := S.hid I
          clear I hr
          have HMd := S.hid (HII.out.drew.mv)
          have HFr := S.hid (HII.out.fr)
          have HBd := S.hid (HII.out.drew.bl)
          have s0 := HS.out _ HBd.out
          go_upto_region 12 with fail
          try simp only [Act.put, List.getElem_toArray, List.getElem_cons_zero, List.getElem_cons_succ, List.setIfInBounds_toArray, List.set_cons_zero, List.set_cons_succ]
          go_cut [13, 14] (fun s13 s14 wc => s14 = .int .i64 0 ∧ ∃ (b : Nat) (p1 p2 : Option Addr) (c1 c2 : Nat), s13 = .pointer (some ⟨b, 0, none⟩) ∧ FO wr.drew wc b g bd br bm ku F' r B p1 p2 c1 c2)
          case first =>
            as_aux_lemma =>
              refine wp_region_held_drew (S := (fun w' : World => w'.cell? (px.add k) = some (.int .u8 (pad.toNat : Int)) ∧ w'.cell? ⟨zb, zo + k, none⟩ = some (.int .i64 z))) (by kernel_rfl) s0 (fun hHeld => ?_)
              generalize wr.drew = Wd at *
              refine wpAnyH_take (i := 0) (v := ?_) rfl (by kernel_rfl) (by kernel_rfl) (by kernel_rfl) (fun c a w h => h) (Or.inl ⟨by rfl, ?_⟩) hHeld ?_
              rotate_left
              · (intro w hSw; (try dsimp only at hSw); go_simp; try with_reducible rfl)
              simp only [Act.put, List.getElem_toArray, List.getElem_cons_zero, List.getElem_cons_succ, List.setIfInBounds_toArray, List.set_cons_zero, List.set_cons_succ]
              refine wpAnyH_take (i := 1) (v := ?_) rfl (by kernel_rfl) (by kernel_rfl) (by kernel_rfl) (fun c a w h => h) (Or.inl ⟨by rfl, ?_⟩) hHeld ?_
              rotate_left
              · (intro w hSw; (try dsimp only at hSw); go_simp; try with_reducible rfl)
              simp only [Act.put, List.getElem_toArray, List.getElem_cons_zero, List.getElem_cons_succ, List.setIfInBounds_toArray, List.set_cons_zero, List.set_cons_succ]
              refine wpAnyH_take (i := 2) (v := ?_) rfl (by kernel_rfl) (by kernel_rfl) (by kernel_rfl) (fun c a w h => h) (Or.inl ⟨by rfl, ?_⟩) hHeld ?_
              rotate_left
              · (intro w hSw; (try dsimp only at hSw); go_simp; try with_reducible rfl)
              simp only [Act.put, List.getElem_toArray, List.getElem_cons_zero, List.getElem_cons_succ, List.setIfInBounds_toArray, List.set_cons_zero, List.set_cons_succ]
              refine wpAnyH_take (i := 3) (v := ?_) rfl (by kernel_rfl) (by kernel_rfl) (by kernel_rfl) (fun c a w h => h) (Or.inl ⟨by rfl, ?_⟩) hHeld ?_
              rotate_left
              · (intro w hSw; (try dsimp only at hSw); go_simp; try with_reducible rfl)
              simp only [Act.put, List.getElem_toArray, List.getElem_cons_zero, List.getElem_cons_succ, List.setIfInBounds_toArray, List.set_cons_zero, List.set_cons_succ]
              refine wpAnyH_take (i := 4) (v := ?_) rfl (by kernel_rfl) (by kernel_rfl) (by kernel_rfl) (fun c a w h => h) (Or.inl ⟨by rfl, ?_⟩) hHeld ?_
              rotate_left
              · (intro w hSw; (try dsimp only at hSw); go_simp; try with_reducible rfl)
              simp only [Act.put, List.getElem_toArray, List.getElem_cons_zero, List.getElem_cons_succ, List.setIfInBounds_toArray, List.set_cons_zero, List.set_cons_succ]
              refine wpAnyH_take (i := 5) (v := ?_) rfl (by kernel_rfl) (by kernel_rfl) (by kernel_rfl) (fun c a w h => h) (Or.inl ⟨by rfl, ?_⟩) hHeld ?_
              rotate_left
              · (intro w hSw; (try dsimp only at hSw); go_simp; try with_reducible rfl)
              simp only [Act.put, List.getElem_toArray, List.getElem_cons_zero, List.getElem_cons_succ, List.setIfInBounds_toArray, List.set_cons_zero, List.set_cons_succ]
              refine wpAnyH_take (i := 6) (v := ?_) rfl (by kernel_rfl) (by kernel_rfl) (by kernel_rfl) (fun c a w h => h) (Or.inl ⟨by rfl, ?_⟩) hHeld ?_
              rotate_left
              · (intro w hSw; (try dsimp only at hSw); go_simp; try with_reducible rfl)
              simp only [Act.put, List.getElem_toArray, List.getElem_cons_zero, List.getElem_cons_succ, List.setIfInBounds_toArray, List.set_cons_zero, List.set_cons_succ]
              refine wpAnyH_take (i := 7) (v := ?_) rfl (by kernel_rfl) (by kernel_rfl) (by kernel_rfl) (fun c a w h => h) (Or.inl ⟨by rfl, ?_⟩) hHeld ?_
              rotate_left
              · (intro w hSw; (try dsimp only at hSw); go_simp; try with_reducible rfl)
              simp only [Act.put, List.getElem_toArray, List.getElem_cons_zero, List.getElem_cons_succ, List.setIfInBounds_toArray, List.set_cons_zero, List.set_cons_succ]
              refine wpAnyH_take (i := 8) (v := ?_) rfl (by kernel_rfl) (by kernel_rfl) (by kernel_rfl) (fun c a w h => h) (Or.inl ⟨by rfl, ?_⟩) hHeld ?_
              rotate_left
              · (intro w hSw; (try dsimp only at hSw); go_simp; try with_reducible rfl)
              simp only [Act.put, List.getElem_toArray, List.getElem_cons_zero, List.getElem_cons_succ, List.setIfInBounds_toArray, List.set_cons_zero, List.set_cons_succ]
              refine wpAnyH_ready (rs := [9, 14]) (by kernel_rfl) (by simp) ?_
              refine AllReadyH.cons rfl (fun K hK => ?_) ?_
              · skip
                have kb := budget_any z Wd
                go_simp
                refine kb.mono ?_
                rintro e wb ⟨rfl, hwb⟩
                obtain rfl := hwb.symm
                rw [HBU.out]
                refine hK.out _ _ s0 (fun hHeld => ?_)
                clear hK K kb
                try simp only [Act.put, List.getElem_toArray, List.getElem_cons_zero, List.getElem_cons_succ, List.setIfInBounds_toArray, List.set_cons_zero, List.set_cons_succ]
                refine wpAnyH_ready (rs := [10, 14]) (by kernel_rfl) (by simp) ?_
                refine AllReadyH.cons rfl (fun K hK => ?_) ?_
                · skip
                  have k3 := frame_any pad B b0 b1 g bd br bm ku F' u Wd HMd.out
                  rw [HR.out] at k3
                  unfold OutV at k3
                  go_simp
                  refine k3.mono ?_
                  rintro e wf ⟨p1, c1, p2, c2, rfl, hrw, htr, hV⟩
                  have HV := S.hid hV
                  have HRW := S.hid hrw
                  have HTR := S.hid htr
                  have HBf := S.hid (HBd.out.trans (tcB hV HFr.out (HBd.out).size))
                  have sf := HS.out wf HBf.out
                  clear k3 hV hrw htr
                  refine hK.out _ _ sf (fun hHeld => ?_)
                  clear hK K
                  try simp only [Act.put, List.getElem_toArray, List.getElem_cons_zero, List.getElem_cons_succ, List.setIfInBounds_toArray, List.set_cons_zero, List.set_cons_succ]
                  refine wpAnyH_take (i := 11) (v := ?_) rfl (by kernel_rfl) (by kernel_rfl) (by kernel_rfl) (fun c a w h => h) (Or.inl ⟨by rfl, ?_⟩) hHeld ?_
                  rotate_left
                  · (intro w hSw; (try dsimp only at hSw); go_simp; try with_reducible rfl)
                  simp only [Act.put, List.getElem_toArray, List.getElem_cons_zero, List.getElem_cons_succ, List.setIfInBounds_toArray, List.set_cons_zero, List.set_cons_succ]
                  refine wpAnyH_take (i := 12) (v := ?_) rfl (by kernel_rfl) (by kernel_rfl) (by kernel_rfl) (fun c a w h => h) (Or.inl ⟨by rfl, ?_⟩) hHeld ?_
                  rotate_left
                  · (intro w hSw; (try dsimp only at hSw); go_simp; try with_reducible rfl)
                  simp only [Act.put, List.getElem_toArray, List.getElem_cons_zero, List.getElem_cons_succ, List.setIfInBounds_toArray, List.set_cons_zero, List.set_cons_succ]
                  refine wpAnyH_take (i := 13) (v := ?_) rfl (by kernel_rfl) (by kernel_rfl) (by kernel_rfl) (fun c a w h => h) (Or.inl ⟨by rfl, ?_⟩) hHeld ?_
                  rotate_left
                  · (intro w hSw; (try dsimp only at hSw); go_simp; try with_reducible rfl)
                  simp only [Act.put, List.getElem_toArray, List.getElem_cons_zero, List.getElem_cons_succ, List.setIfInBounds_toArray, List.set_cons_zero, List.set_cons_succ]
                  obtain ⟨hFO, z9, b9⟩ := fo_a (B := B) (c1 := c1) (c2 := c2) HMd.out HV.out HRW.out HTR.out
                  have sa := HS.out _ (trB HBf.out b9 HBf.out.size)
                  have ss := HS.out _ (HBd.out.trans (tcB hFO.vd HFr.out HBd.out.size))
                  have HFO := S.hid hFO
                  clear hFO b9
                  refine wpAnyH_ready (rs := [14]) (by kernel_rfl) (by simp) ?_
                  refine AllReadyH.cons rfl (fun K hK => ?_) AllReadyH.nil
                  go_simp
                  refine hK.out _ _ sa (fun hHeld => ?_)
                  clear hK K
                  try simp only [Act.put, List.getElem_toArray, List.getElem_cons_zero, List.getElem_cons_succ, List.setIfInBounds_toArray, List.set_cons_zero, List.set_cons_succ]
                  refine wpAnyH_ready (rs := [15]) (by kernel_rfl) (by simp) ?_
                  refine AllReadyH.cons rfl (fun K hK => ?_) AllReadyH.nil
                  refine step_store_row rfl 39 (.tmp 13) (.tmp 79) rfl wf.heap.size #[.int .i64 r.v.st, .int .i64 r.v.fa, .int .i64 r.steps, .int .i64 r.spent, .int .i64 (B - r.spent), .slice p1 r.v.m.scr.length c1, .slice p2 r.v.m.tones.length c2] (by simp [Act.eval]) (by simp [Act.eval]) 39 #[.int .i64 0, .int .i64 0, .int .i64 0, .int .i64 0, .int .i64 0, .slice none 0 0, .slice none 0 0] z9 (by exact size39) (by rfl) (by simp [Value.oneCell']) ?_
                  refine hK.out _ _ ss (fun hHeld => ?_)
                  clear hK K
                  refine wpAnyH_ready (rs := [16]) (by kernel_rfl) (by simp) ?_
                  refine AllReadyH.cons rfl (fun K hK => ?_) AllReadyH.nil
                  go_simp
                  refine hK.out _ _ ss (fun hHeld => ?_)
                  clear hK K
                  refine wpAnyH_done (by kernel_rfl) ?_ _
                  clear hHeld
                  try simp only [Act.put, List.getElem_toArray, List.getElem_cons_zero, List.getElem_cons_succ, List.setIfInBounds_toArray, List.set_cons_zero, List.set_cons_succ]
                  go_wp2
                  go_meet
                  case rel => exact ⟨rfl, _, p1, p2, c1, c2, rfl, HFO.out⟩
                refine AllReadyH.cons rfl (fun K hK => ?_) AllReadyH.nil
                go_simp
                have ba := P.bel_alloc Wd (.cells #[.int .i64 0, .int .i64 0, .int .i64 0, .int .i64 0, .int .i64 0, .slice none 0 0, .slice none 0 0] 39)
                have hMa := HMd.out.below ba
                have HBa := S.hid (trB HBd.out ba HBd.out.size)
                have sa := HS.out _ HBa.out
                have HMa := S.hid hMa
                clear ba hMa
                refine hK.out _ _ sa (fun hHeld => ?_)
                clear hK K
                try simp only [Act.put, List.getElem_toArray, List.getElem_cons_zero, List.getElem_cons_succ, List.setIfInBounds_toArray, List.set_cons_zero, List.set_cons_succ]
                refine wpAnyH_ready (rs := [10]) (by kernel_rfl) (by simp) ?_
                refine AllReadyH.cons rfl (fun K hK => ?_) AllReadyH.nil
                have k3 := frame_any pad B b0 b1 g bd br bm ku F' u (Wd.alloc (.cells #[.int .i64 0, .int .i64 0, .int .i64 0, .int .i64 0, .int .i64 0, .slice none 0 0, .slice none 0 0] 39)) HMa.out
                rw [HR.out] at k3
                unfold OutV at k3
                go_simp
                refine k3.mono ?_
                rintro e wf ⟨p1, c1, p2, c2, rfl, hrw, htr, hV⟩
                have HV := S.hid hV
                have HRW := S.hid hrw
                have HTR := S.hid htr
                have HBf := S.hid (HBa.out.trans (tcB hV HFr.out (HBa.out).size))
                have sf := HS.out wf HBf.out
                clear k3 hV hrw htr
                refine hK.out _ _ sf (fun hHeld => ?_)
                clear hK K
                try simp only [Act.put, List.getElem_toArray, List.getElem_cons_zero, List.getElem_cons_succ, List.setIfInBounds_toArray, List.set_cons_zero, List.set_cons_succ]
                refine wpAnyH_take (i := 11) (v := ?_) rfl (by kernel_rfl) (by kernel_rfl) (by kernel_rfl) (fun c a w h => h) (Or.inl ⟨by rfl, ?_⟩) hHeld ?_
                rotate_left
                · (intro w hSw; (try dsimp only at hSw); go_simp; try with_reducible rfl)
                simp only [Act.put, List.getElem_toArray, List.getElem_cons_zero, List.getElem_cons_succ, List.setIfInBounds_toArray, List.set_cons_zero, List.set_cons_succ]
                refine wpAnyH_take (i := 12) (v := ?_) rfl (by kernel_rfl) (by kernel_rfl) (by kernel_rfl) (fun c a w h => h) (Or.inl ⟨by rfl, ?_⟩) hHeld ?_
                rotate_left
                · (intro w hSw; (try dsimp only at hSw); go_simp; try with_reducible rfl)
                simp only [Act.put, List.getElem_toArray, List.getElem_cons_zero, List.getElem_cons_succ, List.setIfInBounds_toArray, List.set_cons_zero, List.set_cons_succ]
                refine wpAnyH_take (i := 13) (v := ?_) rfl (by kernel_rfl) (by kernel_rfl) (by kernel_rfl) (fun c a w h => h) (Or.inl ⟨by rfl, ?_⟩) hHeld ?_
                rotate_left
                · (intro w hSw; (try dsimp only at hSw); go_simp; try with_reducible rfl)
                simp only [Act.put, List.getElem_toArray, List.getElem_cons_zero, List.getElem_cons_succ, List.setIfInBounds_toArray, List.set_cons_zero, List.set_cons_succ]
                obtain ⟨hFO, z9⟩ := fo_b (B := B) (c1 := c1) (c2 := c2) HMd.out HV.out HRW.out HTR.out
                have ss := HS.out _ (HBd.out.trans (tcB hFO.vd HFr.out HBd.out.size))
                have HFO := S.hid hFO
                clear hFO
                refine wpAnyH_ready (rs := [15]) (by kernel_rfl) (by simp) ?_
                refine AllReadyH.cons rfl (fun K hK => ?_) AllReadyH.nil
                refine step_store_row rfl 39 (.tmp 13) (.tmp 79) rfl Wd.heap.size #[.int .i64 r.v.st, .int .i64 r.v.fa, .int .i64 r.steps, .int .i64 r.spent, .int .i64 (B - r.spent), .slice p1 r.v.m.scr.length c1, .slice p2 r.v.m.tones.length c2] (by simp [Act.eval]) (by simp [Act.eval]) 39 #[.int .i64 0, .int .i64 0, .int .i64 0, .int .i64 0, .int .i64 0, .slice none 0 0, .slice none 0 0] z9 (by exact size39) (by rfl) (by simp [Value.oneCell']) ?_
                refine hK.out _ _ ss (fun hHeld => ?_)
                clear hK K
                refine wpAnyH_ready (rs := [16]) (by kernel_rfl) (by simp) ?_
                refine AllReadyH.cons rfl (fun K hK => ?_) AllReadyH.nil
                go_simp
                refine hK.out _ _ ss (fun hHeld => ?_)
                clear hK K
                refine wpAnyH_done (by kernel_rfl) ?_ _
                clear hHeld
                try simp only [Act.put, List.getElem_toArray, List.getElem_cons_zero, List.getElem_cons_succ, List.setIfInBounds_toArray, List.set_cons_zero, List.set_cons_succ]
                go_wp2
                go_meet
                case rel => exact ⟨rfl, _, p1, p2, c1, c2, rfl, HFO.out⟩
              refine AllReadyH.cons rfl (fun K hK => ?_) AllReadyH.nil
              go_simp
              have ba := P.bel_alloc Wd (.cells #[.int .i64 0, .int .i64 0, .int .i64 0, .int .i64 0, .int .i64 0, .slice none 0 0, .slice none 0 0] 39)
              have hMa := HMd.out.below ba
              have HBa := S.hid (trB HBd.out ba HBd.out.size)
              have sa := HS.out _ HBa.out
              have HMa := S.hid hMa
              clear ba hMa
              refine hK.out _ _ sa (fun hHeld => ?_)
              clear hK K
              try simp only [Act.put, List.getElem_toArray, List.getElem_cons_zero, List.getElem_cons_succ, List.setIfInBounds_toArray, List.set_cons_zero, List.set_cons_succ]
              refine wpAnyH_ready (rs := [9]) (by kernel_rfl) (by simp) ?_
              refine AllReadyH.cons rfl (fun K hK => ?_) AllReadyH.nil
              have kb := budget_any z (Wd.alloc (.cells #[.int .i64 0, .int .i64 0, .int .i64 0, .int .i64 0, .int .i64 0, .slice none 0 0, .slice none 0 0] 39))
              go_simp
              refine kb.mono ?_
              rintro e wb ⟨rfl, hwb⟩
              obtain rfl := hwb.symm
              rw [HBU.out]
              refine hK.out _ _ sa (fun hHeld => ?_)
              clear hK K kb
              try simp only [Act.put, List.getElem_toArray, List.getElem_cons_zero, List.getElem_cons_succ, List.setIfInBounds_toArray, List.set_cons_zero, List.set_cons_succ]
              refine wpAnyH_ready (rs := [10]) (by kernel_rfl) (by simp) ?_
              refine AllReadyH.cons rfl (fun K hK => ?_) AllReadyH.nil
              have k3 := frame_any pad B b0 b1 g bd br bm ku F' u (Wd.alloc (.cells #[.int .i64 0, .int .i64 0, .int .i64 0, .int .i64 0, .int .i64 0, .slice none 0 0, .slice none 0 0] 39)) HMa.out
              rw [HR.out] at k3
              unfold OutV at k3
              go_simp
              refine k3.mono ?_
              rintro e wf ⟨p1, c1, p2, c2, rfl, hrw, htr, hV⟩
              have HV := S.hid hV
              have HRW := S.hid hrw
              have HTR := S.hid htr
              have HBf := S.hid (HBa.out.trans (tcB hV HFr.out (HBa.out).size))
              have sf := HS.out wf HBf.out
              clear k3 hV hrw htr
              refine hK.out _ _ sf (fun hHeld => ?_)
              clear hK K
              try simp only [Act.put, List.getElem_toArray, List.getElem_cons_zero, List.getElem_cons_succ, List.setIfInBounds_toArray, List.set_cons_zero, List.set_cons_succ]
              refine wpAnyH_take (i := 11) (v := ?_) rfl (by kernel_rfl) (by kernel_rfl) (by kernel_rfl) (fun c a w h => h) (Or.inl ⟨by rfl, ?_⟩) hHeld ?_
              rotate_left
              · (intro w hSw; (try dsimp only at hSw); go_simp; try with_reducible rfl)
              simp only [Act.put, List.getElem_toArray, List.getElem_cons_zero, List.getElem_cons_succ, List.setIfInBounds_toArray, List.set_cons_zero, List.set_cons_succ]
              refine wpAnyH_take (i := 12) (v := ?_) rfl (by kernel_rfl) (by kernel_rfl) (by kernel_rfl) (fun c a w h => h) (Or.inl ⟨by rfl, ?_⟩) hHeld ?_
              rotate_left
              · (intro w hSw; (try dsimp only at hSw); go_simp; try with_reducible rfl)
              simp only [Act.put, List.getElem_toArray, List.getElem_cons_zero, List.getElem_cons_succ, List.setIfInBounds_toArray, List.set_cons_zero, List.set_cons_succ]
              refine wpAnyH_take (i := 13) (v := ?_) rfl (by kernel_rfl) (by kernel_rfl) (by kernel_rfl) (fun c a w h => h) (Or.inl ⟨by rfl, ?_⟩) hHeld ?_
              rotate_left
              · (intro w hSw; (try dsimp only at hSw); go_simp; try with_reducible rfl)
              simp only [Act.put, List.getElem_toArray, List.getElem_cons_zero, List.getElem_cons_succ, List.setIfInBounds_toArray, List.set_cons_zero, List.set_cons_succ]
              obtain ⟨hFO, z9⟩ := fo_b (B := B) (c1 := c1) (c2 := c2) HMd.out HV.out HRW.out HTR.out
              have ss := HS.out _ (HBd.out.trans (tcB hFO.vd HFr.out HBd.out.size))
              have HFO := S.hid hFO
              clear hFO
              refine wpAnyH_ready (rs := [15]) (by kernel_rfl) (by simp) ?_
              refine AllReadyH.cons rfl (fun K hK => ?_) AllReadyH.nil
              refine step_store_row rfl 39 (.tmp 13) (.tmp 79) rfl Wd.heap.size #[.int .i64 r.v.st, .int .i64 r.v.fa, .int .i64 r.steps, .int .i64 r.spent, .int .i64 (B - r.spent), .slice p1 r.v.m.scr.length c1, .slice p2 r.v.m.tones.length c2] (by simp [Act.eval]) (by simp [Act.eval]) 39 #[.int .i64 0, .int .i64 0, .int .i64 0, .int .i64 0, .int .i64 0, .slice none 0 0, .slice none 0 0] z9 (by exact size39) (by rfl) (by simp [Value.oneCell']) ?_
              refine hK.out _ _ ss (fun hHeld => ?_)
              clear hK K
              refine wpAnyH_ready (rs := [16]) (by kernel_rfl) (by simp) ?_
              refine AllReadyH.cons rfl (fun K hK => ?_) AllReadyH.nil
              go_simp
              refine hK.out _ _ ss (fun hHeld => ?_)
              clear hK K
              refine wpAnyH_done (by kernel_rfl) ?_ _
              clear hHeld
              try simp only [Act.put, List.getElem_toArray, List.getElem_cons_zero, List.getElem_cons_succ, List.setIfInBounds_toArray, List.set_cons_zero, List.set_cons_succ]
              go_wp2
              go_meet
              case rel => exact ⟨rfl, _, p1, p2, c1, c2, rfl, HFO.out⟩
          case rest =>
            obtain ⟨rfl, b, p1, p2, c1, c2, rfl, hFO⟩ := hcut
            have hv := hFO.vd
            rw [← HR.out] at hv
            have HIN := S.hid (HII.out.drew.next (pad.toNat : Int) B b1 hv)
            clear hFO hv HII HMd HFr HBd s0
            go_wp2
            go_roundw
            case rel =>
              first
                | exact ⟨k + 1, _, _, hkk, (by first | rfl | rw [w1']), HIN.out⟩
                | ((repeat apply Exists.intro); refine ⟨⟨k + 1, _, _, hkk, ?_, HIN.out⟩, rfl⟩; first | rfl | rw [w1'])
            case measure => exact msr2 kk _ _ k (by first | rfl | rw [w1']) rfl hkk
        · obtain rfl : kk = k := by omega
          have d1 : decide ((kk : Int) < (kk : Int)) = false := decide_eq_false (Int.lt_irrefl _)
          have hzz := (I.bl.block _ HLZ.out).trans HZ.out
          have k1 := ownCart_any _ c ep ec bp bc _ _ (HCq.out.below I.bl) hn
          rw [hcvv] at k1
          have HII := S.hid I
          clear I
          go_wp2_with (refine wpList_load_row rfl 27 _ rfl w.heap.size rfl 27 _ (0, 0) _ hzz Tryz.underlying27 rfl (by exact size27) ?_)
          refine k1.mono ?_
          rintro e w5 ⟨v5, ep5, ec5, bp5, bc5, kv5, rfl, hC5, h5⟩
          have ks := state_any g bd br bm ku F' u w5 (HII.out.mv.below h5)
          unfold StV at ks
          have HC5 := S.hid hC5
          have H5 := S.hid h5
          clear k1 hzz hC5 h5
          go_wp2_with fail
          refine ks.mono ?_
          rintro e w6 ⟨sp1, sc1, sp2, sc2, rfl, rD, rR, h6⟩
          have hM6 := (HII.out.mv.below H5.out).below h6
          have km := memory_any g bd br bm ku F' u w6 hM6
          have ki := M.image_has bm w6 hM6.ps.m
          unfold M.imgC at ki
          have HM6 := S.hid hM6
          have HC6 := S.hid (HC5.out.below h6)
          have H6 := S.hid (trB H5.out h6 H5.out.size)
          have HRD := S.hid rD
          have HRR := S.hid rR
          clear ks hM6 h6 rD rR HC5 H5
          go_wp2_with fail
          refine km.mono ?_
          rintro e wm ⟨rfl, hwm⟩
          obtain rfl := hwm.symm
          go_wp2_with fail
          refine ki.mono ?_
          rintro e w7 ⟨uu, rv, sv, gs, N1, N2, rfl, hIm, h7⟩
          have hwf := HM6.out.ps.m.wf
          obtain ⟨ip, icap, rp, rc, ssp, scap, rfl, rfl, rfl, hbn, hrm, hsm⟩ := M.inO_forms hIm (fun t ht => by have := M.inO_full u.m hwf 16 t ht; unfold M.room; omega)
          have kr := restore_is v5 c ep5 ec5 bp5 bc5 kv5 u.pc u.st u.fa sp1 sp2 sc1 sc2 u.D u.R u.m ip rp ssp icap rc scap w7 (HC6.out.below h7) HMAY.out ⟨HII.out.mv.wf.pc0, HII.out.mv.wf.pc1⟩ HII.out.gd.s (HII.out.gd.may HII.out.mv.ps.d.2 HII.out.mv.ps.r.2) HII.out.mv.wf.d HII.out.mv.wf.r (slU (S.own_kept HRD.out fun i e hi => h7.block i hi)) (slK (S.own_kept HRR.out fun i e hi => h7.block i hi)) hbn hrm hsm hwf (same_nums (may_parts HMAY.out).2 HII.out.gd)
          have H7 := S.hid (trB H6.out h7 H6.out.size)
          clear km ki hIm h7 hbn hrm hsm hwf HM6 HC6 H6 HRD HRR
          go_wp2_with fail
          refine kr.mono ?_
          rintro e w8 ⟨g', bd', br', bm', ku', G, rfl, hT, hFT, h8⟩
          have hb8 := trB H7.out h8 H7.out.size
          have hEq : Eqv u ⟨c.code, u.pc, u.st, u.fa, u.D, u.R, M.rs u.m⟩ := by
            refine ⟨?_, fun p => M.bg_rs u.m p⟩
            rw [← HII.out.cd]
          have HX := S.hid (show GX Wq w8 g bd br bm g' bd' br' bm' ku ku' F' G u ⟨c.code, u.pc, u.st, u.fa, u.D, u.R, M.rs u.m⟩ from ⟨TX.make HII.out hb8 hT (fresh_mono' hFT H7.out.size), trB HII.out.bl hb8 HII.out.bl.size, hEq⟩)
          clear kr hT hFT h8 hb8 hEq HII H7
          go_wp2
          go_loopw [16] (fun i wr => ∃ (j : Nat) (F' G' : Nat → Prop) (u y : VS), j ≤ n ∧ i = .int .i64 (j : Int) ∧ GX Wq wr g bd br bm g' bd' br' bm' ku ku' F' G' u y) (fun i _ => n - (intOf i).toNat)
          case atStart => exact ⟨kk, _, _, _, _, hkn, rfl, HX.out⟩
          case round =>
            clear HX
            obtain ⟨j, F2, G2, u, y, hj, rfl, X⟩ := hrel
            by_cases hjn : j < n
            · have d1 : decide ((j : Int) < (n : Int)) = true := decide_eq_true (Int.ofNat_lt.mpr hjn)
              have hj1 : j < ps.length := Nat.lt_of_lt_of_le hjn HNN.out.1
              have hj2 : j < zs.length := Nat.lt_of_lt_of_le hjn HNN.out.2.1
              have hj3 : j < 16 := Nat.lt_of_lt_of_le hjn HNN.out.2.2
              have i1 : (j : Int) < (ps.length : Int) := Int.ofNat_lt.mpr hj1
              have i2 : (j : Int) < (zs.length : Int) := Int.ofNat_lt.mpr hj2
              have w1' : wrap64 ((j : Int) + 1) = ((j + 1 : Nat) : Int) := a_w4 hj3
              obtain ⟨zb, zo, rfl, ez⟩ := HQq.out j zs[j] (List.getElem?_eq_getElem hj2)
              obtain ⟨pp', cc', epp, hbs⟩ := HPq.out.ex
              cases epp
              obtain ⟨px, hpx, epw⟩ := hbs.at j ps[j] (List.getElem?_eq_getElem hj1)
              subst hpx
              generalize zs[j] = z at *
              generalize ps[j] = pad at *
              have HS := S.hid (show ∀ W', Below Wq.heap.size Wq W' → (fun w' : World => w'.cell? (px.add j) = some (.int .u8 (pad.toNat : Int)) ∧ w'.cell? ⟨zb, zo + j, none⟩ = some (.int .i64 z)) W' from fun W' hb => ⟨T.below_cell hb _ _ epw, T.below_cell hb _ _ ez⟩)
              obtain ⟨b0, b1⟩ := bud_r z
              obtain ⟨B, hB⟩ : ∃ B, B = bud z := ⟨_, rfl⟩
              have HBU := S.hid hB.symm
              rw [← hB] at b0 b1
              clear hB epw ez hbs hj1 hj2
              obtain ⟨r, hr⟩ : ∃ r, frame u (pad.toNat : Int) B = r := ⟨_, rfl⟩
              have htn := frame_tones u (pad.toNat : Int) B b1
              rw [hr] at htn
              have HR := S.hid hr
              have HXX := S.hid X
              clear X hr
              have HMd := S.hid (HXX.out.drew.tx.a)
              have HFr := S.hid (HXX.out.tx.fa)
              have HBd := S.hid (HXX.out.drew.bl)
              have s0 := HS.out _ HBd.out
              go_upto_region 21 with fail
              try simp only [Act.put, List.getElem_toArray, List.getElem_cons_zero, List.getElem_cons_succ, List.setIfInBounds_toArray, List.set_cons_zero, List.set_cons_succ]
              go_cut [17, 18] (fun s13 s14 wc => s14 = .int .i64 0 ∧ ∃ (b : Nat) (p1 p2 : Option Addr) (c1 c2 : Nat), s13 = .pointer (some ⟨b, 0, none⟩) ∧ FO wr.drew wc b g bd br bm ku F2 r B p1 p2 c1 c2)
              case first =>
                as_aux_lemma =>
                  refine wp_region_held_drew (S := (fun w' : World => w'.cell? (px.add j) = some (.int .u8 (pad.toNat : Int)) ∧ w'.cell? ⟨zb, zo + j, none⟩ = some (.int .i64 z))) (by kernel_rfl) s0 (fun hHeld => ?_)
                  generalize wr.drew = Wd at *
                  refine wpAnyH_take (i := 0) (v := ?_) rfl (by kernel_rfl) (by kernel_rfl) (by kernel_rfl) (fun c a w h => h) (Or.inl ⟨by rfl, ?_⟩) hHeld ?_
                  rotate_left
                  · (intro w hSw; (try dsimp only at hSw); go_simp; try with_reducible rfl)
                  simp only [Act.put, List.getElem_toArray, List.getElem_cons_zero, List.getElem_cons_succ, List.setIfInBounds_toArray, List.set_cons_zero, List.set_cons_succ]
                  refine wpAnyH_take (i := 1) (v := ?_) rfl (by kernel_rfl) (by kernel_rfl) (by kernel_rfl) (fun c a w h => h) (Or.inl ⟨by rfl, ?_⟩) hHeld ?_
                  rotate_left
                  · (intro w hSw; (try dsimp only at hSw); go_simp; try with_reducible rfl)
                  simp only [Act.put, List.getElem_toArray, List.getElem_cons_zero, List.getElem_cons_succ, List.setIfInBounds_toArray, List.set_cons_zero, List.set_cons_succ]
                  refine wpAnyH_take (i := 2) (v := ?_) rfl (by kernel_rfl) (by kernel_rfl) (by kernel_rfl) (fun c a w h => h) (Or.inl ⟨by rfl, ?_⟩) hHeld ?_
                  rotate_left
                  · (intro w hSw; (try dsimp only at hSw); go_simp; try with_reducible rfl)
                  simp only [Act.put, List.getElem_toArray, List.getElem_cons_zero, List.getElem_cons_succ, List.setIfInBounds_toArray, List.set_cons_zero, List.set_cons_succ]
                  refine wpAnyH_take (i := 3) (v := ?_) rfl (by kernel_rfl) (by kernel_rfl) (by kernel_rfl) (fun c a w h => h) (Or.inl ⟨by rfl, ?_⟩) hHeld ?_
                  rotate_left
                  · (intro w hSw; (try dsimp only at hSw); go_simp; try with_reducible rfl)
                  simp only [Act.put, List.getElem_toArray, List.getElem_cons_zero, List.getElem_cons_succ, List.setIfInBounds_toArray, List.set_cons_zero, List.set_cons_succ]
                  refine wpAnyH_take (i := 4) (v := ?_) rfl (by kernel_rfl) (by kernel_rfl) (by kernel_rfl) (fun c a w h => h) (Or.inl ⟨by rfl, ?_⟩) hHeld ?_
                  rotate_left
                  · (intro w hSw; (try dsimp only at hSw); go_simp; try with_reducible rfl)
                  simp only [Act.put, List.getElem_toArray, List.getElem_cons_zero, List.getElem_cons_succ, List.setIfInBounds_toArray, List.set_cons_zero, List.set_cons_succ]
                  refine wpAnyH_take (i := 5) (v := ?_) rfl (by kernel_rfl) (by kernel_rfl) (by kernel_rfl) (fun c a w h => h) (Or.inl ⟨by rfl, ?_⟩) hHeld ?_
                  rotate_left
                  · (intro w hSw; (try dsimp only at hSw); go_simp; try with_reducible rfl)
                  simp only [Act.put, List.getElem_toArray, List.getElem_cons_zero, List.getElem_cons_succ, List.setIfInBounds_toArray, List.set_cons_zero, List.set_cons_succ]
                  refine wpAnyH_take (i := 6) (v := ?_) rfl (by kernel_rfl) (by kernel_rfl) (by kernel_rfl) (fun c a w h => h) (Or.inl ⟨by rfl, ?_⟩) hHeld ?_
                  rotate_left
                  · (intro w hSw; (try dsimp only at hSw); go_simp; try with_reducible rfl)
                  simp only [Act.put, List.getElem_toArray, List.getElem_cons_zero, List.getElem_cons_succ, List.setIfInBounds_toArray, List.set_cons_zero, List.set_cons_succ]
                  refine wpAnyH_take (i := 7) (v := ?_) rfl (by kernel_rfl) (by kernel_rfl) (by kernel_rfl) (fun c a w h => h) (Or.inl ⟨by rfl, ?_⟩) hHeld ?_
                  rotate_left
                  · (intro w hSw; (try dsimp only at hSw); go_simp; try with_reducible rfl)
                  simp only [Act.put, List.getElem_toArray, List.getElem_cons_zero, List.getElem_cons_succ, List.setIfInBounds_toArray, List.set_cons_zero, List.set_cons_succ]
                  refine wpAnyH_take (i := 8) (v := ?_) rfl (by kernel_rfl) (by kernel_rfl) (by kernel_rfl) (fun c a w h => h) (Or.inl ⟨by rfl, ?_⟩) hHeld ?_
                  rotate_left
                  · (intro w hSw; (try dsimp only at hSw); go_simp; try with_reducible rfl)
                  simp only [Act.put, List.getElem_toArray, List.getElem_cons_zero, List.getElem_cons_succ, List.setIfInBounds_toArray, List.set_cons_zero, List.set_cons_succ]
                  refine wpAnyH_ready (rs := [9, 14]) (by kernel_rfl) (by simp) ?_
                  refine AllReadyH.cons rfl (fun K hK => ?_) ?_
                  · skip
                    have kb := budget_any z Wd
                    go_simp
                    refine kb.mono ?_
                    rintro e wb ⟨rfl, hwb⟩
                    obtain rfl := hwb.symm
                    rw [HBU.out]
                    refine hK.out _ _ s0 (fun hHeld => ?_)
                    clear hK K kb
                    try simp only [Act.put, List.getElem_toArray, List.getElem_cons_zero, List.getElem_cons_succ, List.setIfInBounds_toArray, List.set_cons_zero, List.set_cons_succ]
                    refine wpAnyH_ready (rs := [10, 14]) (by kernel_rfl) (by simp) ?_
                    refine AllReadyH.cons rfl (fun K hK => ?_) ?_
                    · skip
                      have k3 := frame_any pad B b0 b1 g bd br bm ku F2 u Wd HMd.out
                      rw [HR.out] at k3
                      unfold OutV at k3
                      go_simp
                      refine k3.mono ?_
                      rintro e wf ⟨p1, c1, p2, c2, rfl, hrw, htr, hV⟩
                      have HV := S.hid hV
                      have HRW := S.hid hrw
                      have HTR := S.hid htr
                      have HBf := S.hid (HBd.out.trans (tcB hV HFr.out (HBd.out).size))
                      have sf := HS.out wf HBf.out
                      clear k3 hV hrw htr
                      refine hK.out _ _ sf (fun hHeld => ?_)
                      clear hK K
                      try simp only [Act.put, List.getElem_toArray, List.getElem_cons_zero, List.getElem_cons_succ, List.setIfInBounds_toArray, List.set_cons_zero, List.set_cons_succ]
                      refine wpAnyH_take (i := 11) (v := ?_) rfl (by kernel_rfl) (by kernel_rfl) (by kernel_rfl) (fun c a w h => h) (Or.inl ⟨by rfl, ?_⟩) hHeld ?_
                      rotate_left
                      · (intro w hSw; (try dsimp only at hSw); go_simp; try with_reducible rfl)
                      simp only [Act.put, List.getElem_toArray, List.getElem_cons_zero, List.getElem_cons_succ, List.setIfInBounds_toArray, List.set_cons_zero, List.set_cons_succ]
                      refine wpAnyH_take (i := 12) (v := ?_) rfl (by kernel_rfl) (by kernel_rfl) (by kernel_rfl) (fun c a w h => h) (Or.inl ⟨by rfl, ?_⟩) hHeld ?_
                      rotate_left
                      · (intro w hSw; (try dsimp only at hSw); go_simp; try with_reducible rfl)
                      simp only [Act.put, List.getElem_toArray, List.getElem_cons_zero, List.getElem_cons_succ, List.setIfInBounds_toArray, List.set_cons_zero, List.set_cons_succ]
                      refine wpAnyH_take (i := 13) (v := ?_) rfl (by kernel_rfl) (by kernel_rfl) (by kernel_rfl) (fun c a w h => h) (Or.inl ⟨by rfl, ?_⟩) hHeld ?_
                      rotate_left
                      · (intro w hSw; (try dsimp only at hSw); go_simp; try with_reducible rfl)
                      simp only [Act.put, List.getElem_toArray, List.getElem_cons_zero, List.getElem_cons_succ, List.setIfInBounds_toArray, List.set_cons_zero, List.set_cons_succ]
                      obtain ⟨hFO, z9, b9⟩ := fo_a (B := B) (c1 := c1) (c2 := c2) HMd.out HV.out HRW.out HTR.out
                      have sa := HS.out _ (trB HBf.out b9 HBf.out.size)
                      have ss := HS.out _ (HBd.out.trans (tcB hFO.vd HFr.out HBd.out.size))
                      have HFO := S.hid hFO
                      clear hFO b9
                      refine wpAnyH_ready (rs := [14]) (by kernel_rfl) (by simp) ?_
                      refine AllReadyH.cons rfl (fun K hK => ?_) AllReadyH.nil
                      go_simp
                      refine hK.out _ _ sa (fun hHeld => ?_)
                      clear hK K
                      try simp only [Act.put, List.getElem_toArray, List.getElem_cons_zero, List.getElem_cons_succ, List.setIfInBounds_toArray, List.set_cons_zero, List.set_cons_succ]
                      refine wpAnyH_ready (rs := [15]) (by kernel_rfl) (by simp) ?_
                      refine AllReadyH.cons rfl (fun K hK => ?_) AllReadyH.nil
                      refine step_store_row rfl 39 (.tmp 17) (.tmp 118) rfl wf.heap.size #[.int .i64 r.v.st, .int .i64 r.v.fa, .int .i64 r.steps, .int .i64 r.spent, .int .i64 (B - r.spent), .slice p1 r.v.m.scr.length c1, .slice p2 r.v.m.tones.length c2] (by simp [Act.eval]) (by simp [Act.eval]) 39 #[.int .i64 0, .int .i64 0, .int .i64 0, .int .i64 0, .int .i64 0, .slice none 0 0, .slice none 0 0] z9 (by exact size39) (by rfl) (by simp [Value.oneCell']) ?_
                      refine hK.out _ _ ss (fun hHeld => ?_)
                      clear hK K
                      refine wpAnyH_ready (rs := [16]) (by kernel_rfl) (by simp) ?_
                      refine AllReadyH.cons rfl (fun K hK => ?_) AllReadyH.nil
                      go_simp
                      refine hK.out _ _ ss (fun hHeld => ?_)
                      clear hK K
                      refine wpAnyH_done (by kernel_rfl) ?_ _
                      clear hHeld
                      try simp only [Act.put, List.getElem_toArray, List.getElem_cons_zero, List.getElem_cons_succ, List.setIfInBounds_toArray, List.set_cons_zero, List.set_cons_succ]
                      go_wp2
                      go_meet
                      case rel => exact ⟨rfl, _, p1, p2, c1, c2, rfl, HFO.out⟩
                    refine AllReadyH.cons rfl (fun K hK => ?_) AllReadyH.nil
                    go_simp
                    have ba := P.bel_alloc Wd (.cells #[.int .i64 0, .int .i64 0, .int .i64 0, .int .i64 0, .int .i64 0, .slice none 0 0, .slice none 0 0] 39)
                    have hMa := HMd.out.below ba
                    have HBa := S.hid (trB HBd.out ba HBd.out.size)
                    have sa := HS.out _ HBa.out
                    have HMa := S.hid hMa
                    clear ba hMa
                    refine hK.out _ _ sa (fun hHeld => ?_)
                    clear hK K
                    try simp only [Act.put, List.getElem_toArray, List.getElem_cons_zero, List.getElem_cons_succ, List.setIfInBounds_toArray, List.set_cons_zero, List.set_cons_succ]
                    refine wpAnyH_ready (rs := [10]) (by kernel_rfl) (by simp) ?_
                    refine AllReadyH.cons rfl (fun K hK => ?_) AllReadyH.nil
                    have k3 := frame_any pad B b0 b1 g bd br bm ku F2 u (Wd.alloc (.cells #[.int .i64 0, .int .i64 0, .int .i64 0, .int .i64 0, .int .i64 0, .slice none 0 0, .slice none 0 0] 39)) HMa.out
                    rw [HR.out] at k3
                    unfold OutV at k3
                    go_simp
                    refine k3.mono ?_
                    rintro e wf ⟨p1, c1, p2, c2, rfl, hrw, htr, hV⟩
                    have HV := S.hid hV
                    have HRW := S.hid hrw
                    have HTR := S.hid htr
                    have HBf := S.hid (HBa.out.trans (tcB hV HFr.out (HBa.out).size))
                    have sf := HS.out wf HBf.out
                    clear k3 hV hrw htr
                    refine hK.out _ _ sf (fun hHeld => ?_)
                    clear hK K
                    try simp only [Act.put, List.getElem_toArray, List.getElem_cons_zero, List.getElem_cons_succ, List.setIfInBounds_toArray, List.set_cons_zero, List.set_cons_succ]
                    refine wpAnyH_take (i := 11) (v := ?_) rfl (by kernel_rfl) (by kernel_rfl) (by kernel_rfl) (fun c a w h => h) (Or.inl ⟨by rfl, ?_⟩) hHeld ?_
                    rotate_left
                    · (intro w hSw; (try dsimp only at hSw); go_simp; try with_reducible rfl)
                    simp only [Act.put, List.getElem_toArray, List.getElem_cons_zero, List.getElem_cons_succ, List.setIfInBounds_toArray, List.set_cons_zero, List.set_cons_succ]
                    refine wpAnyH_take (i := 12) (v := ?_) rfl (by kernel_rfl) (by kernel_rfl) (by kernel_rfl) (fun c a w h => h) (Or.inl ⟨by rfl, ?_⟩) hHeld ?_
                    rotate_left
                    · (intro w hSw; (try dsimp only at hSw); go_simp; try with_reducible rfl)
                    simp only [Act.put, List.getElem_toArray, List.getElem_cons_zero, List.getElem_cons_succ, List.setIfInBounds_toArray, List.set_cons_zero, List.set_cons_succ]
                    refine wpAnyH_take (i := 13) (v := ?_) rfl (by kernel_rfl) (by kernel_rfl) (by kernel_rfl) (fun c a w h => h) (Or.inl ⟨by rfl, ?_⟩) hHeld ?_
                    rotate_left
                    · (intro w hSw; (try dsimp only at hSw); go_simp; try with_reducible rfl)
                    simp only [Act.put, List.getElem_toArray, List.getElem_cons_zero, List.getElem_cons_succ, List.setIfInBounds_toArray, List.set_cons_zero, List.set_cons_succ]
                    obtain ⟨hFO, z9⟩ := fo_b (B := B) (c1 := c1) (c2 := c2) HMd.out HV.out HRW.out HTR.out
                    have ss := HS.out _ (HBd.out.trans (tcB hFO.vd HFr.out HBd.out.size))
                    have HFO := S.hid hFO
                    clear hFO
                    refine wpAnyH_ready (rs := [15]) (by kernel_rfl) (by simp) ?_
                    refine AllReadyH.cons rfl (fun K hK => ?_) AllReadyH.nil
                    refine step_store_row rfl 39 (.tmp 17) (.tmp 118) rfl Wd.heap.size #[.int .i64 r.v.st, .int .i64 r.v.fa, .int .i64 r.steps, .int .i64 r.spent, .int .i64 (B - r.spent), .slice p1 r.v.m.scr.length c1, .slice p2 r.v.m.tones.length c2] (by simp [Act.eval]) (by simp [Act.eval]) 39 #[.int .i64 0, .int .i64 0, .int .i64 0, .int .i64 0, .int .i64 0, .slice none 0 0, .slice none 0 0] z9 (by exact size39) (by rfl) (by simp [Value.oneCell']) ?_
                    refine hK.out _ _ ss (fun hHeld => ?_)
                    clear hK K
                    refine wpAnyH_ready (rs := [16]) (by kernel_rfl) (by simp) ?_
                    refine AllReadyH.cons rfl (fun K hK => ?_) AllReadyH.nil
                    go_simp
                    refine hK.out _ _ ss (fun hHeld => ?_)
                    clear hK K
                    refine wpAnyH_done (by kernel_rfl) ?_ _
                    clear hHeld
                    try simp only [Act.put, List.getElem_toArray, List.getElem_cons_zero, List.getElem_cons_succ, List.setIfInBounds_toArray, List.set_cons_zero, List.set_cons_succ]
                    go_wp2
                    go_meet
                    case rel => exact ⟨rfl, _, p1, p2, c1, c2, rfl, HFO.out⟩
                  refine AllReadyH.cons rfl (fun K hK => ?_) AllReadyH.nil
                  go_simp
                  have ba := P.bel_alloc Wd (.cells #[.int .i64 0, .int .i64 0, .int .i64 0, .int .i64 0, .int .i64 0, .slice none 0 0, .slice none 0 0] 39)
                  have hMa := HMd.out.below ba
                  have HBa := S.hid (trB HBd.out ba HBd.out.size)
                  have sa := HS.out _ HBa.out
                  have HMa := S.hid hMa
                  clear ba hMa
                  refine hK.out _ _ sa (fun hHeld => ?_)
                  clear hK K
                  try simp only [Act.put, List.getElem_toArray, List.getElem_cons_zero, List.getElem_cons_succ, List.setIfInBounds_toArray, List.set_cons_zero, List.set_cons_succ]
                  refine wpAnyH_ready (rs := [9]) (by kernel_rfl) (by simp) ?_
                  refine AllReadyH.cons rfl (fun K hK => ?_) AllReadyH.nil
                  have kb := budget_any z (Wd.alloc (.cells #[.int .i64 0, .int .i64 0, .int .i64 0, .int .i64 0, .int .i64 0, .slice none 0 0, .slice none 0 0] 39))
                  go_simp
                  refine kb.mono ?_
                  rintro e wb ⟨rfl, hwb⟩
                  obtain rfl := hwb.symm
                  rw [HBU.out]
                  refine hK.out _ _ sa (fun hHeld => ?_)
                  clear hK K kb
                  try simp only [Act.put, List.getElem_toArray, List.getElem_cons_zero, List.getElem_cons_succ, List.setIfInBounds_toArray, List.set_cons_zero, List.set_cons_succ]
                  refine wpAnyH_ready (rs := [10]) (by kernel_rfl) (by simp) ?_
                  refine AllReadyH.cons rfl (fun K hK => ?_) AllReadyH.nil
                  have k3 := frame_any pad B b0 b1 g bd br bm ku F2 u (Wd.alloc (.cells #[.int .i64 0, .int .i64 0, .int .i64 0, .int .i64 0, .int .i64 0, .slice none 0 0, .slice none 0 0] 39)) HMa.out
                  rw [HR.out] at k3
                  unfold OutV at k3
                  go_simp
                  refine k3.mono ?_
                  rintro e wf ⟨p1, c1, p2, c2, rfl, hrw, htr, hV⟩
                  have HV := S.hid hV
                  have HRW := S.hid hrw
                  have HTR := S.hid htr
                  have HBf := S.hid (HBa.out.trans (tcB hV HFr.out (HBa.out).size))
                  have sf := HS.out wf HBf.out
                  clear k3 hV hrw htr
                  refine hK.out _ _ sf (fun hHeld => ?_)
                  clear hK K
                  try simp only [Act.put, List.getElem_toArray, List.getElem_cons_zero, List.getElem_cons_succ, List.setIfInBounds_toArray, List.set_cons_zero, List.set_cons_succ]
                  refine wpAnyH_take (i := 11) (v := ?_) rfl (by kernel_rfl) (by kernel_rfl) (by kernel_rfl) (fun c a w h => h) (Or.inl ⟨by rfl, ?_⟩) hHeld ?_
                  rotate_left
                  · (intro w hSw; (try dsimp only at hSw); go_simp; try with_reducible rfl)
                  simp only [Act.put, List.getElem_toArray, List.getElem_cons_zero, List.getElem_cons_succ, List.setIfInBounds_toArray, List.set_cons_zero, List.set_cons_succ]
                  refine wpAnyH_take (i := 12) (v := ?_) rfl (by kernel_rfl) (by kernel_rfl) (by kernel_rfl) (fun c a w h => h) (Or.inl ⟨by rfl, ?_⟩) hHeld ?_
                  rotate_left
                  · (intro w hSw; (try dsimp only at hSw); go_simp; try with_reducible rfl)
                  simp only [Act.put, List.getElem_toArray, List.getElem_cons_zero, List.getElem_cons_succ, List.setIfInBounds_toArray, List.set_cons_zero, List.set_cons_succ]
                  refine wpAnyH_take (i := 13) (v := ?_) rfl (by kernel_rfl) (by kernel_rfl) (by kernel_rfl) (fun c a w h => h) (Or.inl ⟨by rfl, ?_⟩) hHeld ?_
                  rotate_left
                  · (intro w hSw; (try dsimp only at hSw); go_simp; try with_reducible rfl)
                  simp only [Act.put, List.getElem_toArray, List.getElem_cons_zero, List.getElem_cons_succ, List.setIfInBounds_toArray, List.set_cons_zero, List.set_cons_succ]
                  obtain ⟨hFO, z9⟩ := fo_b (B := B) (c1 := c1) (c2 := c2) HMd.out HV.out HRW.out HTR.out
                  have ss := HS.out _ (HBd.out.trans (tcB hFO.vd HFr.out HBd.out.size))
                  have HFO := S.hid hFO
                  clear hFO
                  refine wpAnyH_ready (rs := [15]) (by kernel_rfl) (by simp) ?_
                  refine AllReadyH.cons rfl (fun K hK => ?_) AllReadyH.nil
                  refine step_store_row rfl 39 (.tmp 17) (.tmp 118) rfl Wd.heap.size #[.int .i64 r.v.st, .int .i64 r.v.fa, .int .i64 r.steps, .int .i64 r.spent, .int .i64 (B - r.spent), .slice p1 r.v.m.scr.length c1, .slice p2 r.v.m.tones.length c2] (by simp [Act.eval]) (by simp [Act.eval]) 39 #[.int .i64 0, .int .i64 0, .int .i64 0, .int .i64 0, .int .i64 0, .slice none 0 0, .slice none 0 0] z9 (by exact size39) (by rfl) (by simp [Value.oneCell']) ?_
                  refine hK.out _ _ ss (fun hHeld => ?_)
                  clear hK K
                  refine wpAnyH_ready (rs := [16]) (by kernel_rfl) (by simp) ?_
                  refine AllReadyH.cons rfl (fun K hK => ?_) AllReadyH.nil
                  go_simp
                  refine hK.out _ _ ss (fun hHeld => ?_)
                  clear hK K
                  refine wpAnyH_done (by kernel_rfl) ?_ _
                  clear hHeld
                  try simp only [Act.put, List.getElem_toArray, List.getElem_cons_zero, List.getElem_cons_succ, List.setIfInBounds_toArray, List.set_cons_zero, List.set_cons_succ]
                  go_wp2
                  go_meet
                  case rel => exact ⟨rfl, _, p1, p2, c1, c2, rfl, HFO.out⟩
              case rest =>
                obtain ⟨rfl, b, p1, p2, c1, c2, rfl, hFO⟩ := hcut
                have hTX := HXX.out.drew.tx.left hFO.vd
                have hBL := HXX.out.drew.bl.trans (tcB hFO.vd HXX.out.tx.fa HXX.out.drew.bl.size)
                have hr2 := HXX.out.eq.frame (pad.toNat : Int) B
                rw [HR.out] at hr2
                have HFA := S.hid hFO
                have HTX := S.hid (hTX.below (below_drew wc))
                have HBL := S.hid (trB hBL (below_drew wc) hBL.size)
                have HMY := S.hid HXX.out.drew.tx.b
                clear hFO hTX hBL HMd HFr HBd s0 HR HXX
                have HR := S.hid hr2
                clear hr2
                have HMd := S.hid (HTX.out.b)
                have HFr := S.hid (HTX.out.fb)
                have HBd := S.hid (HBL.out)
                have s0 := HS.out _ HBd.out
                go_upto_region 22 with fail
                try simp only [Act.put, List.getElem_toArray, List.getElem_cons_zero, List.getElem_cons_succ, List.setIfInBounds_toArray, List.set_cons_zero, List.set_cons_succ]
                go_cut [19, 20] (fun s13 s14 we => s14 = .int .i64 0 ∧ ∃ (b : Nat) (p1 p2 : Option Addr) (c1 c2 : Nat), s13 = .pointer (some ⟨b, 0, none⟩) ∧ FO wc.drew we b g' bd' br' bm' ku' G2 r B p1 p2 c1 c2)
                case first =>
                  as_aux_lemma =>
                    refine wp_region_held_drew (S := (fun w' : World => w'.cell? (px.add j) = some (.int .u8 (pad.toNat : Int)) ∧ w'.cell? ⟨zb, zo + j, none⟩ = some (.int .i64 z))) (by kernel_rfl) s0 (fun hHeld => ?_)
                    generalize wc.drew = Wd at *
                    refine wpAnyH_take (i := 0) (v := ?_) rfl (by kernel_rfl) (by kernel_rfl) (by kernel_rfl) (fun c a w h => h) (Or.inl ⟨by rfl, ?_⟩) hHeld ?_
                    rotate_left
                    · (intro w hSw; (try dsimp only at hSw); go_simp; try with_reducible rfl)
                    simp only [Act.put, List.getElem_toArray, List.getElem_cons_zero, List.getElem_cons_succ, List.setIfInBounds_toArray, List.set_cons_zero, List.set_cons_succ]
                    refine wpAnyH_take (i := 1) (v := ?_) rfl (by kernel_rfl) (by kernel_rfl) (by kernel_rfl) (fun c a w h => h) (Or.inl ⟨by rfl, ?_⟩) hHeld ?_
                    rotate_left
                    · (intro w hSw; (try dsimp only at hSw); go_simp; try with_reducible rfl)
                    simp only [Act.put, List.getElem_toArray, List.getElem_cons_zero, List.getElem_cons_succ, List.setIfInBounds_toArray, List.set_cons_zero, List.set_cons_succ]
                    refine wpAnyH_take (i := 2) (v := ?_) rfl (by kernel_rfl) (by kernel_rfl) (by kernel_rfl) (fun c a w h => h) (Or.inl ⟨by rfl, ?_⟩) hHeld ?_
                    rotate_left
                    · (intro w hSw; (try dsimp only at hSw); go_simp; try with_reducible rfl)
                    simp only [Act.put, List.getElem_toArray, List.getElem_cons_zero, List.getElem_cons_succ, List.setIfInBounds_toArray, List.set_cons_zero, List.set_cons_succ]
                    refine wpAnyH_take (i := 3) (v := ?_) rfl (by kernel_rfl) (by kernel_rfl) (by kernel_rfl) (fun c a w h => h) (Or.inl ⟨by rfl, ?_⟩) hHeld ?_
                    rotate_left
                    · (intro w hSw; (try dsimp only at hSw); go_simp; try with_reducible rfl)
                    simp only [Act.put, List.getElem_toArray, List.getElem_cons_zero, List.getElem_cons_succ, List.setIfInBounds_toArray, List.set_cons_zero, List.set_cons_succ]
                    refine wpAnyH_take (i := 4) (v := ?_) rfl (by kernel_rfl) (by kernel_rfl) (by kernel_rfl) (fun c a w h => h) (Or.inl ⟨by rfl, ?_⟩) hHeld ?_
                    rotate_left
                    · (intro w hSw; (try dsimp only at hSw); go_simp; try with_reducible rfl)
                    simp only [Act.put, List.getElem_toArray, List.getElem_cons_zero, List.getElem_cons_succ, List.setIfInBounds_toArray, List.set_cons_zero, List.set_cons_succ]
                    refine wpAnyH_take (i := 5) (v := ?_) rfl (by kernel_rfl) (by kernel_rfl) (by kernel_rfl) (fun c a w h => h) (Or.inl ⟨by rfl, ?_⟩) hHeld ?_
                    rotate_left
                    · (intro w hSw; (try dsimp only at hSw); go_simp; try with_reducible rfl)
                    simp only [Act.put, List.getElem_toArray, List.getElem_cons_zero, List.getElem_cons_succ, List.setIfInBounds_toArray, List.set_cons_zero, List.set_cons_succ]
                    refine wpAnyH_take (i := 6) (v := ?_) rfl (by kernel_rfl) (by kernel_rfl) (by kernel_rfl) (fun c a w h => h) (Or.inl ⟨by rfl, ?_⟩) hHeld ?_
                    rotate_left
                    · (intro w hSw; (try dsimp only at hSw); go_simp; try with_reducible rfl)
                    simp only [Act.put, List.getElem_toArray, List.getElem_cons_zero, List.getElem_cons_succ, List.setIfInBounds_toArray, List.set_cons_zero, List.set_cons_succ]
                    refine wpAnyH_take (i := 7) (v := ?_) rfl (by kernel_rfl) (by kernel_rfl) (by kernel_rfl) (fun c a w h => h) (Or.inl ⟨by rfl, ?_⟩) hHeld ?_
                    rotate_left
                    · (intro w hSw; (try dsimp only at hSw); go_simp; try with_reducible rfl)
                    simp only [Act.put, List.getElem_toArray, List.getElem_cons_zero, List.getElem_cons_succ, List.setIfInBounds_toArray, List.set_cons_zero, List.set_cons_succ]
                    refine wpAnyH_take (i := 8) (v := ?_) rfl (by kernel_rfl) (by kernel_rfl) (by kernel_rfl) (fun c a w h => h) (Or.inl ⟨by rfl, ?_⟩) hHeld ?_
                    rotate_left
                    · (intro w hSw; (try dsimp only at hSw); go_simp; try with_reducible rfl)
                    simp only [Act.put, List.getElem_toArray, List.getElem_cons_zero, List.getElem_cons_succ, List.setIfInBounds_toArray, List.set_cons_zero, List.set_cons_succ]
                    refine wpAnyH_ready (rs := [9, 14]) (by kernel_rfl) (by simp) ?_
                    refine AllReadyH.cons rfl (fun K hK => ?_) ?_
                    · skip
                      have kb := budget_any z Wd
                      go_simp
                      refine kb.mono ?_
                      rintro e wb ⟨rfl, hwb⟩
                      obtain rfl := hwb.symm
                      rw [HBU.out]
                      refine hK.out _ _ s0 (fun hHeld => ?_)
                      clear hK K kb
                      try simp only [Act.put, List.getElem_toArray, List.getElem_cons_zero, List.getElem_cons_succ, List.setIfInBounds_toArray, List.set_cons_zero, List.set_cons_succ]
                      refine wpAnyH_ready (rs := [10, 14]) (by kernel_rfl) (by simp) ?_
                      refine AllReadyH.cons rfl (fun K hK => ?_) ?_
                      · skip
                        have k3 := frame_any pad B b0 b1 g' bd' br' bm' ku' G2 y Wd HMd.out
                        rw [HR.out] at k3
                        unfold OutV at k3
                        go_simp
                        refine k3.mono ?_
                        rintro e wf ⟨p1, c1, p2, c2, rfl, hrw, htr, hV⟩
                        have HV := S.hid hV
                        have HRW := S.hid hrw
                        have HTR := S.hid htr
                        have HBf := S.hid (HBd.out.trans (tcB hV HFr.out (HBd.out).size))
                        have sf := HS.out wf HBf.out
                        clear k3 hV hrw htr
                        refine hK.out _ _ sf (fun hHeld => ?_)
                        clear hK K
                        try simp only [Act.put, List.getElem_toArray, List.getElem_cons_zero, List.getElem_cons_succ, List.setIfInBounds_toArray, List.set_cons_zero, List.set_cons_succ]
                        refine wpAnyH_take (i := 11) (v := ?_) rfl (by kernel_rfl) (by kernel_rfl) (by kernel_rfl) (fun c a w h => h) (Or.inl ⟨by rfl, ?_⟩) hHeld ?_
                        rotate_left
                        · (intro w hSw; (try dsimp only at hSw); go_simp; try with_reducible rfl)
                        simp only [Act.put, List.getElem_toArray, List.getElem_cons_zero, List.getElem_cons_succ, List.setIfInBounds_toArray, List.set_cons_zero, List.set_cons_succ]
                        refine wpAnyH_take (i := 12) (v := ?_) rfl (by kernel_rfl) (by kernel_rfl) (by kernel_rfl) (fun c a w h => h) (Or.inl ⟨by rfl, ?_⟩) hHeld ?_
                        rotate_left
                        · (intro w hSw; (try dsimp only at hSw); go_simp; try with_reducible rfl)
                        simp only [Act.put, List.getElem_toArray, List.getElem_cons_zero, List.getElem_cons_succ, List.setIfInBounds_toArray, List.set_cons_zero, List.set_cons_succ]
                        refine wpAnyH_take (i := 13) (v := ?_) rfl (by kernel_rfl) (by kernel_rfl) (by kernel_rfl) (fun c a w h => h) (Or.inl ⟨by rfl, ?_⟩) hHeld ?_
                        rotate_left
                        · (intro w hSw; (try dsimp only at hSw); go_simp; try with_reducible rfl)
                        simp only [Act.put, List.getElem_toArray, List.getElem_cons_zero, List.getElem_cons_succ, List.setIfInBounds_toArray, List.set_cons_zero, List.set_cons_succ]
                        obtain ⟨hFO, z9, b9⟩ := fo_a (B := B) (c1 := c1) (c2 := c2) HMd.out HV.out HRW.out HTR.out
                        have sa := HS.out _ (trB HBf.out b9 HBf.out.size)
                        have ss := HS.out _ (HBd.out.trans (tcB hFO.vd HFr.out HBd.out.size))
                        have HFO := S.hid hFO
                        clear hFO b9
                        refine wpAnyH_ready (rs := [14]) (by kernel_rfl) (by simp) ?_
                        refine AllReadyH.cons rfl (fun K hK => ?_) AllReadyH.nil
                        go_simp
                        refine hK.out _ _ sa (fun hHeld => ?_)
                        clear hK K
                        try simp only [Act.put, List.getElem_toArray, List.getElem_cons_zero, List.getElem_cons_succ, List.setIfInBounds_toArray, List.set_cons_zero, List.set_cons_succ]
                        refine wpAnyH_ready (rs := [15]) (by kernel_rfl) (by simp) ?_
                        refine AllReadyH.cons rfl (fun K hK => ?_) AllReadyH.nil
                        refine step_store_row rfl 39 (.tmp 19) (.tmp 132) rfl wf.heap.size #[.int .i64 r.v.st, .int .i64 r.v.fa, .int .i64 r.steps, .int .i64 r.spent, .int .i64 (B - r.spent), .slice p1 r.v.m.scr.length c1, .slice p2 r.v.m.tones.length c2] (by simp [Act.eval]) (by simp [Act.eval]) 39 #[.int .i64 0, .int .i64 0, .int .i64 0, .int .i64 0, .int .i64 0, .slice none 0 0, .slice none 0 0] z9 (by exact size39) (by rfl) (by simp [Value.oneCell']) ?_
                        refine hK.out _ _ ss (fun hHeld => ?_)
                        clear hK K
                        refine wpAnyH_ready (rs := [16]) (by kernel_rfl) (by simp) ?_
                        refine AllReadyH.cons rfl (fun K hK => ?_) AllReadyH.nil
                        go_simp
                        refine hK.out _ _ ss (fun hHeld => ?_)
                        clear hK K
                        refine wpAnyH_done (by kernel_rfl) ?_ _
                        clear hHeld
                        try simp only [Act.put, List.getElem_toArray, List.getElem_cons_zero, List.getElem_cons_succ, List.setIfInBounds_toArray, List.set_cons_zero, List.set_cons_succ]
                        go_wp2
                        go_meet
                        case rel => exact ⟨rfl, _, p1, p2, c1, c2, rfl, HFO.out⟩
                      refine AllReadyH.cons rfl (fun K hK => ?_) AllReadyH.nil
                      go_simp
                      have ba := P.bel_alloc Wd (.cells #[.int .i64 0, .int .i64 0, .int .i64 0, .int .i64 0, .int .i64 0, .slice none 0 0, .slice none 0 0] 39)
                      have hMa := HMd.out.below ba
                      have HBa := S.hid (trB HBd.out ba HBd.out.size)
                      have sa := HS.out _ HBa.out
                      have HMa := S.hid hMa
                      clear ba hMa
                      refine hK.out _ _ sa (fun hHeld => ?_)
                      clear hK K
                      try simp only [Act.put, List.getElem_toArray, List.getElem_cons_zero, List.getElem_cons_succ, List.setIfInBounds_toArray, List.set_cons_zero, List.set_cons_succ]
                      refine wpAnyH_ready (rs := [10]) (by kernel_rfl) (by simp) ?_
                      refine AllReadyH.cons rfl (fun K hK => ?_) AllReadyH.nil
                      have k3 := frame_any pad B b0 b1 g' bd' br' bm' ku' G2 y (Wd.alloc (.cells #[.int .i64 0, .int .i64 0, .int .i64 0, .int .i64 0, .int .i64 0, .slice none 0 0, .slice none 0 0] 39)) HMa.out
                      rw [HR.out] at k3
                      unfold OutV at k3
                      go_simp
                      refine k3.mono ?_
                      rintro e wf ⟨p1, c1, p2, c2, rfl, hrw, htr, hV⟩
                      have HV := S.hid hV
                      have HRW := S.hid hrw
                      have HTR := S.hid htr
                      have HBf := S.hid (HBa.out.trans (tcB hV HFr.out (HBa.out).size))
                      have sf := HS.out wf HBf.out
                      clear k3 hV hrw htr
                      refine hK.out _ _ sf (fun hHeld => ?_)
                      clear hK K
                      try simp only [Act.put, List.getElem_toArray, List.getElem_cons_zero, List.getElem_cons_succ, List.setIfInBounds_toArray, List.set_cons_zero, List.set_cons_succ]
                      refine wpAnyH_take (i := 11) (v := ?_) rfl (by kernel_rfl) (by kernel_rfl) (by kernel_rfl) (fun c a w h => h) (Or.inl ⟨by rfl, ?_⟩) hHeld ?_
                      rotate_left
                      · (intro w hSw; (try dsimp only at hSw); go_simp; try with_reducible rfl)
                      simp only [Act.put, List.getElem_toArray, List.getElem_cons_zero, List.getElem_cons_succ, List.setIfInBounds_toArray, List.set_cons_zero, List.set_cons_succ]
                      refine wpAnyH_take (i := 12) (v := ?_) rfl (by kernel_rfl) (by kernel_rfl) (by kernel_rfl) (fun c a w h => h) (Or.inl ⟨by rfl, ?_⟩) hHeld ?_
                      rotate_left
                      · (intro w hSw; (try dsimp only at hSw); go_simp; try with_reducible rfl)
                      simp only [Act.put, List.getElem_toArray, List.getElem_cons_zero, List.getElem_cons_succ, List.setIfInBounds_toArray, List.set_cons_zero, List.set_cons_succ]
                      refine wpAnyH_take (i := 13) (v := ?_) rfl (by kernel_rfl) (by kernel_rfl) (by kernel_rfl) (fun c a w h => h) (Or.inl ⟨by rfl, ?_⟩) hHeld ?_
                      rotate_left
                      · (intro w hSw; (try dsimp only at hSw); go_simp; try with_reducible rfl)
                      simp only [Act.put, List.getElem_toArray, List.getElem_cons_zero, List.getElem_cons_succ, List.setIfInBounds_toArray, List.set_cons_zero, List.set_cons_succ]
                      obtain ⟨hFO, z9⟩ := fo_b (B := B) (c1 := c1) (c2 := c2) HMd.out HV.out HRW.out HTR.out
                      have ss := HS.out _ (HBd.out.trans (tcB hFO.vd HFr.out HBd.out.size))
                      have HFO := S.hid hFO
                      clear hFO
                      refine wpAnyH_ready (rs := [15]) (by kernel_rfl) (by simp) ?_
                      refine AllReadyH.cons rfl (fun K hK => ?_) AllReadyH.nil
                      refine step_store_row rfl 39 (.tmp 19) (.tmp 132) rfl Wd.heap.size #[.int .i64 r.v.st, .int .i64 r.v.fa, .int .i64 r.steps, .int .i64 r.spent, .int .i64 (B - r.spent), .slice p1 r.v.m.scr.length c1, .slice p2 r.v.m.tones.length c2] (by simp [Act.eval]) (by simp [Act.eval]) 39 #[.int .i64 0, .int .i64 0, .int .i64 0, .int .i64 0, .int .i64 0, .slice none 0 0, .slice none 0 0] z9 (by exact size39) (by rfl) (by simp [Value.oneCell']) ?_
                      refine hK.out _ _ ss (fun hHeld => ?_)
                      clear hK K
                      refine wpAnyH_ready (rs := [16]) (by kernel_rfl) (by simp) ?_
                      refine AllReadyH.cons rfl (fun K hK => ?_) AllReadyH.nil
                      go_simp
                      refine hK.out _ _ ss (fun hHeld => ?_)
                      clear hK K
                      refine wpAnyH_done (by kernel_rfl) ?_ _
                      clear hHeld
                      try simp only [Act.put, List.getElem_toArray, List.getElem_cons_zero, List.getElem_cons_succ, List.setIfInBounds_toArray, List.set_cons_zero, List.set_cons_succ]
                      go_wp2
                      go_meet
                      case rel => exact ⟨rfl, _, p1, p2, c1, c2, rfl, HFO.out⟩
                    refine AllReadyH.cons rfl (fun K hK => ?_) AllReadyH.nil
                    go_simp
                    have ba := P.bel_alloc Wd (.cells #[.int .i64 0, .int .i64 0, .int .i64 0, .int .i64 0, .int .i64 0, .slice none 0 0, .slice none 0 0] 39)
                    have hMa := HMd.out.below ba
                    have HBa := S.hid (trB HBd.out ba HBd.out.size)
                    have sa := HS.out _ HBa.out
                    have HMa := S.hid hMa
                    clear ba hMa
                    refine hK.out _ _ sa (fun hHeld => ?_)
                    clear hK K
                    try simp only [Act.put, List.getElem_toArray, List.getElem_cons_zero, List.getElem_cons_succ, List.setIfInBounds_toArray, List.set_cons_zero, List.set_cons_succ]
                    refine wpAnyH_ready (rs := [9]) (by kernel_rfl) (by simp) ?_
                    refine AllReadyH.cons rfl (fun K hK => ?_) AllReadyH.nil
                    have kb := budget_any z (Wd.alloc (.cells #[.int .i64 0, .int .i64 0, .int .i64 0, .int .i64 0, .int .i64 0, .slice none 0 0, .slice none 0 0] 39))
                    go_simp
                    refine kb.mono ?_
                    rintro e wb ⟨rfl, hwb⟩
                    obtain rfl := hwb.symm
                    rw [HBU.out]
                    refine hK.out _ _ sa (fun hHeld => ?_)
                    clear hK K kb
                    try simp only [Act.put, List.getElem_toArray, List.getElem_cons_zero, List.getElem_cons_succ, List.setIfInBounds_toArray, List.set_cons_zero, List.set_cons_succ]
                    refine wpAnyH_ready (rs := [10]) (by kernel_rfl) (by simp) ?_
                    refine AllReadyH.cons rfl (fun K hK => ?_) AllReadyH.nil
                    have k3 := frame_any pad B b0 b1 g' bd' br' bm' ku' G2 y (Wd.alloc (.cells #[.int .i64 0, .int .i64 0, .int .i64 0, .int .i64 0, .int .i64 0, .slice none 0 0, .slice none 0 0] 39)) HMa.out
                    rw [HR.out] at k3
                    unfold OutV at k3
                    go_simp
                    refine k3.mono ?_
                    rintro e wf ⟨p1, c1, p2, c2, rfl, hrw, htr, hV⟩
                    have HV := S.hid hV
                    have HRW := S.hid hrw
                    have HTR := S.hid htr
                    have HBf := S.hid (HBa.out.trans (tcB hV HFr.out (HBa.out).size))
                    have sf := HS.out wf HBf.out
                    clear k3 hV hrw htr
                    refine hK.out _ _ sf (fun hHeld => ?_)
                    clear hK K
                    try simp only [Act.put, List.getElem_toArray, List.getElem_cons_zero, List.getElem_cons_succ, List.setIfInBounds_toArray, List.set_cons_zero, List.set_cons_succ]
                    refine wpAnyH_take (i := 11) (v := ?_) rfl (by kernel_rfl) (by kernel_rfl) (by kernel_rfl) (fun c a w h => h) (Or.inl ⟨by rfl, ?_⟩) hHeld ?_
                    rotate_left
                    · (intro w hSw; (try dsimp only at hSw); go_simp; try with_reducible rfl)
                    simp only [Act.put, List.getElem_toArray, List.getElem_cons_zero, List.getElem_cons_succ, List.setIfInBounds_toArray, List.set_cons_zero, List.set_cons_succ]
                    refine wpAnyH_take (i := 12) (v := ?_) rfl (by kernel_rfl) (by kernel_rfl) (by kernel_rfl) (fun c a w h => h) (Or.inl ⟨by rfl, ?_⟩) hHeld ?_
                    rotate_left
                    · (intro w hSw; (try dsimp only at hSw); go_simp; try with_reducible rfl)
                    simp only [Act.put, List.getElem_toArray, List.getElem_cons_zero, List.getElem_cons_succ, List.setIfInBounds_toArray, List.set_cons_zero, List.set_cons_succ]
                    refine wpAnyH_take (i := 13) (v := ?_) rfl (by kernel_rfl) (by kernel_rfl) (by kernel_rfl) (fun c a w h => h) (Or.inl ⟨by rfl, ?_⟩) hHeld ?_
                    rotate_left
                    · (intro w hSw; (try dsimp only at hSw); go_simp; try with_reducible rfl)
                    simp only [Act.put, List.getElem_toArray, List.getElem_cons_zero, List.getElem_cons_succ, List.setIfInBounds_toArray, List.set_cons_zero, List.set_cons_succ]
                    obtain ⟨hFO, z9⟩ := fo_b (B := B) (c1 := c1) (c2 := c2) HMd.out HV.out HRW.out HTR.out
                    have ss := HS.out _ (HBd.out.trans (tcB hFO.vd HFr.out HBd.out.size))
                    have HFO := S.hid hFO
                    clear hFO
                    refine wpAnyH_ready (rs := [15]) (by kernel_rfl) (by simp) ?_
                    refine AllReadyH.cons rfl (fun K hK => ?_) AllReadyH.nil
                    refine step_store_row rfl 39 (.tmp 19) (.tmp 132) rfl Wd.heap.size #[.int .i64 r.v.st, .int .i64 r.v.fa, .int .i64 r.steps, .int .i64 r.spent, .int .i64 (B - r.spent), .slice p1 r.v.m.scr.length c1, .slice p2 r.v.m.tones.length c2] (by simp [Act.eval]) (by simp [Act.eval]) 39 #[.int .i64 0, .int .i64 0, .int .i64 0, .int .i64 0, .int .i64 0, .slice none 0 0, .slice none 0 0] z9 (by exact size39) (by rfl) (by simp [Value.oneCell']) ?_
                    refine hK.out _ _ ss (fun hHeld => ?_)
                    clear hK K
                    refine wpAnyH_ready (rs := [16]) (by kernel_rfl) (by simp) ?_
                    refine AllReadyH.cons rfl (fun K hK => ?_) AllReadyH.nil
                    go_simp
                    refine hK.out _ _ ss (fun hHeld => ?_)
                    clear hK K
                    refine wpAnyH_done (by kernel_rfl) ?_ _
                    clear hHeld
                    try simp only [Act.put, List.getElem_toArray, List.getElem_cons_zero, List.getElem_cons_succ, List.setIfInBounds_toArray, List.set_cons_zero, List.set_cons_succ]
                    go_wp2
                    go_meet
                    case rel => exact ⟨rfl, _, p1, p2, c1, c2, rfl, HFO.out⟩
                case rest =>
                  obtain ⟨rfl, b', q1, q2, e1, e2, rfl, hFB⟩ := hcut
                  have hMX := HFA.out.kept hFB.vd HMY.out
                  have hTX2 := HTX.out.right hFB.vd
                  have hBL2 := HBL.out.trans (tcB hFB.vd HTX.out.fb HBL.out.size)
                  have hsc : r.v.m.scr.length = 3072 := hFB.vd.s.ps.m.wf.scr
                  have ko := outs_any (B := B) hsc (Nat.le_trans htn (by decide)) hMX.r1 hMX.r2 hFB.r1 hFB.r2
                  have x1 := hMX.blk
                  have x2 := hFB.blk
                  unfold ORow at ko x1 x2
                  have y0 := S.cell_of _ _ 0 [.int .i64 r.v.st, .int .i64 r.v.fa, .int .i64 r.steps, .int .i64 r.spent, .int .i64 (B - r.spent), .slice p1 r.v.m.scr.length c1, .slice p2 r.v.m.tones.length c2] _ _ x1 rfl
                  have v0 := S.cell_of _ _ 0 [.int .i64 r.v.st, .int .i64 r.v.fa, .int .i64 r.steps, .int .i64 r.spent, .int .i64 (B - r.spent), .slice q1 r.v.m.scr.length e1, .slice q2 r.v.m.tones.length e2] _ _ x2 rfl
                  have y1 := S.cell_of _ _ 1 [.int .i64 r.v.st, .int .i64 r.v.fa, .int .i64 r.steps, .int .i64 r.spent, .int .i64 (B - r.spent), .slice p1 r.v.m.scr.length c1, .slice p2 r.v.m.tones.length c2] _ _ x1 rfl
                  have v1 := S.cell_of _ _ 1 [.int .i64 r.v.st, .int .i64 r.v.fa, .int .i64 r.steps, .int .i64 r.spent, .int .i64 (B - r.spent), .slice q1 r.v.m.scr.length e1, .slice q2 r.v.m.tones.length e2] _ _ x2 rfl
                  have y2 := S.cell_of _ _ 2 [.int .i64 r.v.st, .int .i64 r.v.fa, .int .i64 r.steps, .int .i64 r.spent, .int .i64 (B - r.spent), .slice p1 r.v.m.scr.length c1, .slice p2 r.v.m.tones.length c2] _ _ x1 rfl
                  have v2 := S.cell_of _ _ 2 [.int .i64 r.v.st, .int .i64 r.v.fa, .int .i64 r.steps, .int .i64 r.spent, .int .i64 (B - r.spent), .slice q1 r.v.m.scr.length e1, .slice q2 r.v.m.tones.length e2] _ _ x2 rfl
                  have y3 := S.cell_of _ _ 3 [.int .i64 r.v.st, .int .i64 r.v.fa, .int .i64 r.steps, .int .i64 r.spent, .int .i64 (B - r.spent), .slice p1 r.v.m.scr.length c1, .slice p2 r.v.m.tones.length c2] _ _ x1 rfl
                  have v3 := S.cell_of _ _ 3 [.int .i64 r.v.st, .int .i64 r.v.fa, .int .i64 r.steps, .int .i64 r.spent, .int .i64 (B - r.spent), .slice q1 r.v.m.scr.length e1, .slice q2 r.v.m.tones.length e2] _ _ x2 rfl
                  have y4 := S.cell_of _ _ 4 [.int .i64 r.v.st, .int .i64 r.v.fa, .int .i64 r.steps, .int .i64 r.spent, .int .i64 (B - r.spent), .slice p1 r.v.m.scr.length c1, .slice p2 r.v.m.tones.length c2] _ _ x1 rfl
                  have v4 := S.cell_of _ _ 4 [.int .i64 r.v.st, .int .i64 r.v.fa, .int .i64 r.steps, .int .i64 r.spent, .int .i64 (B - r.spent), .slice q1 r.v.m.scr.length e1, .slice q2 r.v.m.tones.length e2] _ _ x2 rfl
                  have y5 := S.cell_of _ _ 5 [.int .i64 r.v.st, .int .i64 r.v.fa, .int .i64 r.steps, .int .i64 r.spent, .int .i64 (B - r.spent), .slice p1 r.v.m.scr.length c1, .slice p2 r.v.m.tones.length c2] _ _ x1 rfl
                  have v5 := S.cell_of _ _ 5 [.int .i64 r.v.st, .int .i64 r.v.fa, .int .i64 r.steps, .int .i64 r.spent, .int .i64 (B - r.spent), .slice q1 r.v.m.scr.length e1, .slice q2 r.v.m.tones.length e2] _ _ x2 rfl
                  have y6 := S.cell_of _ _ 6 [.int .i64 r.v.st, .int .i64 r.v.fa, .int .i64 r.steps, .int .i64 r.spent, .int .i64 (B - r.spent), .slice p1 r.v.m.scr.length c1, .slice p2 r.v.m.tones.length c2] _ _ x1 rfl
                  have v6 := S.cell_of _ _ 6 [.int .i64 r.v.st, .int .i64 r.v.fa, .int .i64 r.steps, .int .i64 r.spent, .int .i64 (B - r.spent), .slice q1 r.v.m.scr.length e1, .slice q2 r.v.m.tones.length e2] _ _ x2 rfl
                  have HE2 := S.hid (And.intro hTX2 hBL2)
                  clear hMX hFB hTX2 hBL2 hsc HFA HTX HBL HMY HMd HFr HBd s0 HR
                  clear x1 x2
                  go_wp2_with (first | (go_at_call 27; refine ko.mono ?_; rintro e wz ⟨rfl, hz⟩))
                  go_roundw
                  case rel =>
                    first
                      | exact ⟨j + 1, _, _, _, _, hjn, (by first | rfl | rw [w1']), ⟨HE2.out.1.below hz, trB HE2.out.2 hz HE2.out.2.size, Eqv.refl _⟩⟩
                      | ((repeat apply Exists.intro); refine ⟨⟨j + 1, _, _, _, _, hjn, ?_, ⟨HE2.out.1.below hz, trB HE2.out.2 hz HE2.out.2.size, Eqv.refl _⟩⟩, rfl⟩; first | rfl | rw [w1'])
                  case measure => exact msr2 n _ _ j (by first | rfl | rw [w1']) rfl hjn
            · have d1 : decide ((j : Int) < (n : Int)) = false := decide_eq_false (by omega)
              have k1 := state_any g bd br bm ku F2 u wr X.tx.a
              have HXX := S.hid X
              clear X
              go_wp2_with fail
              refine k1.mono ?_
              rintro e wa ⟨a1, ac1, a2, ac2, rfl, ra1, ra2, ha⟩
              have k2 := state_eq g' bd' br' bm' ku' G2 u y HXX.out.eq wa (HXX.out.tx.below ha).b
              have HA1 := S.hid ra1
              have HA2 := S.hid ra2
              have HBa := S.hid (trB HXX.out.bl ha HXX.out.bl.size)
              clear k1 ra1 ra2 ha
              go_wp2_with fail
              refine k2.mono ?_
              rintro e wb ⟨b1, bc1, b2, bc2, rfl, rb1, rb2, hb⟩
              have k3 := same_true u a1 a2 b1 b2 ac1 ac2 bc1 bc2 HXX.out.tx.a.ps.d.2 HXX.out.tx.a.ps.r.2 wb (slU (S.own_kept HA1.out fun i e hi => hb.block i hi)) (slK (S.own_kept HA2.out fun i e hi => hb.block i hi)) (slU rb1) (slK rb2)
              have HBb := S.hid (trB HBa.out hb HBa.out.size)
              clear k2 rb1 rb2 hb
              go_wp2_with fail
              refine k3.mono ?_
              rintro e wz ⟨rfl, hz⟩
              have HBz := S.hid (trB HBb.out hz HBb.out.size)
              clear k3 hz
              go_wp2
              go_ret
              exact ⟨rfl, trB HBq.out HBz.out HBq.out.size⟩
end Go.Proofs.YteldjmecomngeaaGreat.V
/-! What the listed table gives a walk; what arguments give one. -/
namespace Go.Proofs.YteldjmecomngeaaGreat.T
open Go.RowKit Go.ChangeShapes Go.WideShapes Go.ChangeAt
open Go.Proofs.YteldjmecomngeaaGreat.M
set_option linter.unusedVariables false
set_option linter.unusedSimpArgs false
set_option maxRecDepth 100000
theorem own : ownKnob Tryz.prog.godebug = none := by kernel_rfl
theorem laidOut : laidOutB Tryz.prog = true := by kernel_rfl
section
variable {H : Type} {enc : TypeId × Value → H}
theorem bytes5 : Tryz.prog.bytesOf 5 = 1 := by kernel_rfl
theorem byte_nat (n : Int) (h0 : 0 ≤ n) (h1 : n ≤ 255) : (((UInt8.ofNat n.toNat).toNat : Nat) : Int) = n := by
  rw [UInt8.toNat_ofNat']
  have : n.toNat % 2 ^ 8 = n.toNat := Nat.mod_eq_of_lt (by omega)
  rw [this]; omega
theorem open_bytes1 {W : World} {a : Option Addr} {len cap : Nat} {d : DataW H} {p : List MemPlace} (h : DataW.Trod enc Tryz.prog W 0 (fun _ => true) true 22 (.slice a len cap) d p) :
    ∃ l : List UInt8, Sl W (.slice a len cap) l ∧ ((d.weights Tryz.prog 22).all (· ≤ reachBytes) = true → l.length + 4096 ≤ room) := by
  obtain ⟨fuel, hf⟩ := h
  rcases open_ints Tryz.underlying22 Tryz.underlying5 (by kernel_rfl) hf with ⟨hcs, hx⟩ | ⟨x, l, c, zs, hcs, _, hl, hm, hz, hx, hcell, hwz⟩
  · simp [Value.cells] at hcs
    obtain ⟨rfl, rfl, rfl⟩ := hcs
    exact ⟨[], .inl ⟨rfl, rfl⟩, fun _ => by decide⟩
  · simp [Value.cells] at hcs
    obtain ⟨rfl, rfl, rfl⟩ := hcs
    simp only [Prod.mk.injEq] at hx
    obtain ⟨rfl, rfl⟩ := hx
    simp only [if_true] at hz
    have hlen : ((zs.take len).map fun n => UInt8.ofNat n.toNat).length = len := by simp; omega
    refine ⟨(zs.take len).map fun n => UInt8.ofNat n.toNat, .inr ⟨x, cap, by rw [hlen], by rw [hlen]; exact hl, fun j b hj => ?_⟩, fun hw => ?_⟩
    · have hjl : j < len := by
        by_cases h : j < len
        · exact h
        · rw [List.getElem?_eq_none (by rw [hlen]; omega)] at hj; cases hj
      have hc := hcell j (by omega)
      rw [hc]
      have hb := range_u8 hwz j
      rw [List.getElem?_map, List.getElem?_take, if_pos hjl, List.getElem?_eq_getElem (by omega)] at hj
      simp only [Option.map_some, Option.some.injEq] at hj
      subst hj
      have e : zs.getD j 0 = zs[j]'(by omega) := by simp [List.getD, List.getElem?_eq_getElem (show j < zs.length by omega)]
      have e2 : zs[j]?.getD 0 = zs[j]'(by omega) := by rw [List.getElem?_eq_getElem (show j < zs.length by omega)]; rfl
      rw [e2] at hb
      rw [e, byte_nat _ (by omega) (by omega)]
    · rw [hlen]
      simp only [DataW.weights, Tryz.underlying22, List.all_cons, bytes5, Bool.and_eq_true, decide_eq_true_eq] at hw
      have h2 : (lits (H := H) .u8 (zs.take len)).length = len := by simp [lits]; omega
      have h3 := hw.1
      rw [h2] at h3
      unfold reachBytes at h3
      unfold room
      omega
theorem open_bytes0 {W : World} {fuel : Nat} {cs : List Value} {x : DataW H × List MemPlace} (h : DataW.trod enc Tryz.prog W 0 (fun _ => true) true fuel 22 cs = some x) :
    ∃ (v : Value) (l : List UInt8), cs = [v] ∧ Sl W v l ∧ ((x.1.weights Tryz.prog 22).all (· ≤ reachBytes) = true → l.length + 4096 ≤ room) := by
  have hcs : ∃ v, cs = [v] := by
    rcases open_ints Tryz.underlying22 Tryz.underlying5 (by kernel_rfl) h with ⟨hcs, hx⟩ | ⟨x, l, c, zs, hcs, _⟩
    · exact ⟨_, hcs⟩
    · exact ⟨_, hcs⟩
  obtain ⟨v, rfl⟩ := hcs
  have hv : ∃ a len cap, v = .slice a len cap := by
    rcases open_ints Tryz.underlying22 Tryz.underlying5 (by kernel_rfl) h with ⟨hcs, hx⟩ | ⟨x, l, c, zs, hcs, _⟩
    · simp at hcs; exact ⟨_, _, _, hcs⟩
    · simp at hcs; exact ⟨_, _, _, hcs⟩
  obtain ⟨a, len, cap, rfl⟩ := hv
  obtain ⟨l, h1, h3⟩ := open_bytes1 (a := a) (len := len) (cap := cap) (d := x.1) (p := x.2) ⟨fuel, h⟩
  exact ⟨_, l, rfl, h1, h3⟩
theorem weights_all (P : Program) (e : TypeId) (D : Nat → DataW H) (q : Nat → Bool) : ∀ (is : List Nat), (DataW.weightsAll P e (is.map D)).all q = true → ∀ i ∈ is, ((D i).weights P e).all q = true := by
  intro is
  induction is with
  | nil => intro _ i hi; simp at hi
  | cons j is ih =>
    intro h i hi
    simp only [List.map_cons, DataW.weightsAll, List.all_append, Bool.and_eq_true] at h
    rcases List.mem_cons.1 hi with rfl | hi
    · exact h.1
    · exact ih h.2 i hi
theorem und37 : Tryz.prog.underlying 81 = some (.struct #[⟨ "Num", 3, 0, false, "", "", 0⟩, ⟨ "Data", 22, 1, false, "", "", 8⟩]) := by kernel_rfl
theorem add_none {a : Addr} {W : World} {v : Value} (h : W.cell? (a.add 0) = some v) : a.spot = none := by
  have := World.cell?_spot h
  simpa [Addr.add] using this
theorem add_at (b o k : Nat) : (⟨b, o, none⟩ : Addr).add k = ⟨b, o + k, none⟩ := Addr.add_lit _ _ _
theorem open_banks0 {W : World} {a : Option Addr} {len cap : Nat} {d : DataW H} {p : List MemPlace} (h : DataW.Trod enc Tryz.prog W 0 (fun _ => true) true 25 (.slice a len cap) d p)
    (hw : (d.weights Tryz.prog 25).all (· ≤ reachBytes) = true) :
    ∃ (bs : List (Int × List UInt8)), len = bs.length ∧ BnS W a bs ∧ bs.length * 32 ≤ room ∧ (∀ t ∈ bs, t.2.length + 1 ≤ room) ∧ ∀ t ∈ bs, (Lit.int .i64 t.1).wf = true := by
  obtain ⟨fuel, hf⟩ := h
  rcases Deep.open_slice_pairs Tryz.underlying25 und37 (by kernel_rfl) rfl rfl (by kernel_rfl) (by kernel_rfl) hf with ⟨hcs, hx⟩ | ⟨x, l, c, m, n, V0, V1, D0, D1, P0, P1, hcs, _, hl, hm, hmm, hx, hel⟩
  · simp [Value.cells] at hcs
    obtain ⟨rfl, rfl, rfl⟩ := hcs
    exact ⟨[], rfl, fun i l hi => by simp at hi, by simp, by simp, by simp⟩
  · simp [Value.cells] at hcs
    obtain ⟨rfl, rfl, rfl⟩ := hcs
    simp only [Prod.mk.injEq] at hx
    obtain ⟨rfl, rfl⟩ := hx
    simp only [if_true] at hmm
    have hby : Tryz.prog.bytesOf 81 = 32 := by kernel_rfl
    simp only [DataW.weights, Tryz.underlying25, List.all_cons, List.all_append, Bool.and_eq_true, decide_eq_true_eq, hby, List.length_map, List.length_range] at hw
    have hw1 := hw.1
    unfold reachBytes at hw1
    have hwi := weights_all Tryz.prog 81 _ _ (List.range len) hw.2.1
    have hsp0 : 0 < len → x.spot = none := fun hp => add_none (hel 0 (by omega)).1
    have hex : ∀ i, i < len → ∃ t : Int × List UInt8, (∃ b o dv, some x = some (⟨b, o, none⟩ : Addr) ∧ W.cell? ⟨b, o + i * 2, none⟩ = some (.int .i64 t.1) ∧ W.cell? ⟨b, o + i * 2 + 1, none⟩ = some dv ∧ Sl W dv t.2 ∧ t.2.length + 4096 ≤ room ∧ (Lit.int .i64 t.1).wf = true) := fun i hi => by
      obtain ⟨g0, g1, t0, t1⟩ := hel i (by omega)
      obtain ⟨k, e0, _, w0⟩ := DataW.trod_int Tryz.underlying3 t0
      obtain ⟨dv, l, e1, hs, hlw⟩ := open_bytes0 t1
      simp at e0 e1
      rw [e0] at g0
      rw [e1] at g1
      have hsp := hsp0 (by omega)
      obtain ⟨b, o, sp⟩ := x
      simp only at hsp
      subst hsp
      rw [add_at] at g0 g1
      refine ⟨(k, l), b, o, dv, rfl, g0, by rw [Nat.add_assoc]; exact g1, hs, hlw ?_, w0⟩
      have hwk := hwi i (by simpa using hi)
      simp only [DataW.weights, und37, List.map_cons, List.map_nil, DataW.weightsEach, List.all_append, Bool.and_eq_true] at hwk
      exact hwk.2.1
    obtain ⟨f, hf2⟩ := Deep.choose_lt hex
    refine ⟨(List.range len).map f, by simp, fun i t hi => ?_, by simp; unfold room; omega, ?_, ?_⟩
    · have hil : i < len := by
        by_cases h : i < len
        · exact h
        · rw [List.getElem?_eq_none (by simp; omega)] at hi; cases hi
      simp [hil] at hi
      subst hi
      obtain ⟨b, o, dv, e1, e2, e3, e4, e5, e6⟩ := hf2 i hil
      exact ⟨b, o, dv, e1, e2, e3, e4, by omega⟩
    · intro t ht
      simp only [List.mem_map, List.mem_range] at ht
      obtain ⟨i, hi, rfl⟩ := ht
      obtain ⟨b, o, dv, e1, e2, e3, e4, e5, e6⟩ := hf2 i hi
      omega
    · intro t ht
      simp only [List.mem_map, List.mem_range] at ht
      obtain ⟨i, hi, rfl⟩ := ht
      obtain ⟨b, o, dv, e1, e2, e3, e4, e5, e6⟩ := hf2 i hi
      exact e6
theorem und80 : Tryz.prog.underlying 190 = some (.struct #[⟨ "At", 23, 0, false, "", "", 0⟩, ⟨ "In", 3, 1, false, "", "", 8⟩, ⟨ "Out", 3, 2, false, "", "", 16⟩]) := by kernel_rfl
theorem open_eff {W : World} {n : Nat} {cs : List Value} {D : DataW H} {Pl : List MemPlace} (h : DataW.trod enc Tryz.prog W 0 (fun _ => true) true n 190 cs = some (D, Pl)) :
    ∃ (a i o : Int), cs = [.int .u16 a, .int .i64 i, .int .i64 o] ∧ (Lit.int .u16 a).wf = true ∧ (Lit.int .i64 i).wf = true ∧ (Lit.int .i64 o).wf = true := by
  obtain ⟨xs, q, _, hxy, hcl, hxl, hf⟩ := DataW.trod_struct und80 h
  have hc3 : Tryz.prog.cellsOf 190 = 3 := by kernel_rfl
  rw [hc3] at hcl
  have c3 : Tryz.prog.cellsOf 3 = 1 := by kernel_rfl
  have c23 : Tryz.prog.cellsOf 23 = 1 := by kernel_rfl
  match xs, hxl, cs, hcl with
  | [x0, x1, x2], _, [a, b, c], _ =>
    have f0 := hf 0 _ rfl
    have f1 := hf 1 _ rfl
    have f2 := hf 2 _ rfl
    replace f0 : DataW.trod enc Tryz.prog W 0 (fun _ => true) true q 23 [a] = some x0 := by simpa [c23] using f0
    replace f1 : DataW.trod enc Tryz.prog W 0 (fun _ => true) true q 3 [b] = some x1 := by simpa [c23, c3] using f1
    replace f2 : DataW.trod enc Tryz.prog W 0 (fun _ => true) true q 3 [c] = some x2 := by simpa [c23, c3] using f2
    obtain ⟨k, e0, _, w0⟩ := DataW.trod_int Tryz.underlying23 f0
    obtain ⟨m, e1, _, w1⟩ := DataW.trod_int Tryz.underlying3 f1
    obtain ⟨o, e2, _, w2⟩ := DataW.trod_int Tryz.underlying3 f2
    simp at e0 e1 e2
    subst e0 e1 e2
    exact ⟨k, m, o, rfl, w0, w1, w2⟩
theorem open_effs0 {W : World} {a : Option Addr} {len cap : Nat} {d : DataW H} {p : List MemPlace} (h : DataW.Trod enc Tryz.prog W 0 (fun _ => true) true 24 (.slice a len cap) d p)
    (hw : (d.weights Tryz.prog 24).all (· ≤ reachBytes) = true) :
    ∃ (es : List Ef), len = es.length ∧ EfS W a es ∧ es.length * 24 ≤ room ∧ (∀ x ∈ es, x.1 < 65536) ∧ ∀ x ∈ es, (Lit.int .i64 x.2.1).wf = true ∧ (Lit.int .i64 x.2.2).wf = true := by
  obtain ⟨fuel, hf⟩ := h
  rcases Deep.open_slice Tryz.underlying24 hf with ⟨hcs, hx⟩ | ⟨x, l, c, m, n, D, Pl, hcs, _, hl, hm, hmm, hx, hel⟩
  · simp [Value.cells] at hcs
    obtain ⟨rfl, rfl, rfl⟩ := hcs
    exact ⟨[], rfl, fun i l hi => by simp at hi, by simp, by simp, by simp⟩
  · simp [Value.cells] at hcs
    obtain ⟨rfl, rfl, rfl⟩ := hcs
    simp only [Prod.mk.injEq] at hx
    obtain ⟨rfl, rfl⟩ := hx
    simp only [if_true] at hmm
    have hc3 : Tryz.prog.cellsOf 190 = 3 := by kernel_rfl
    rw [hc3] at hel
    have hby : Tryz.prog.bytesOf 190 = 24 := by kernel_rfl
    simp only [DataW.weights, Tryz.underlying24, List.all_cons, List.all_append, Bool.and_eq_true, decide_eq_true_eq, hby, List.length_map, List.length_range] at hw
    have hw1 := hw.1
    unfold reachBytes at hw1
    have hsp0 : 0 < len → x.spot = none := fun hp => by
      obtain ⟨cs', h1, h2⟩ := hel 0 (by omega)
      obtain ⟨_, hlen, hcell⟩ := World.cells?_some h1
      obtain ⟨k, m2, o2, rfl, _⟩ := open_eff h2
      have g0 := hcell 0 (by decide)
      rw [Deep.add_add] at g0
      exact add_none g0
    have hex : ∀ i, i < len → ∃ t : Ef, (∃ b o, some x = some (⟨b, o, none⟩ : Addr) ∧ W.cell? ⟨b, o + i * 3, none⟩ = some (.int .u16 (t.1 : Int)) ∧ W.cell? ⟨b, o + i * 3 + 1, none⟩ = some (.int .i64 t.2.1) ∧ W.cell? ⟨b, o + i * 3 + 2, none⟩ = some (.int .i64 t.2.2)) ∧ t.1 < 65536 ∧ (Lit.int .i64 t.2.1).wf = true ∧ (Lit.int .i64 t.2.2).wf = true := fun i hi => by
      obtain ⟨cs', h1, h2⟩ := hel i (by omega)
      obtain ⟨_, hlen, hcell⟩ := World.cells?_some h1
      obtain ⟨k, m2, o2, rfl, w0, w1, w2⟩ := open_eff h2
      have hb := bounds_u16 w0
      obtain ⟨kn, rfl⟩ : ∃ kn : Nat, k = (kn : Int) := ⟨k.toNat, by omega⟩
      have g0 := hcell 0 (by decide)
      have g1 := hcell 1 (by decide)
      have g2 := hcell 2 (by decide)
      simp only [List.getElem?_cons_zero, List.getElem?_cons_succ] at g0 g1 g2
      rw [Deep.add_add] at g0 g1 g2
      have hsp := hsp0 (by omega)
      obtain ⟨b, o, sp⟩ := x
      simp only at hsp
      subst hsp
      rw [add_at] at g0 g1 g2
      exact ⟨(kn, m2, o2), ⟨b, o, rfl, g0, by rw [Nat.add_assoc]; exact g1, by rw [Nat.add_assoc]; exact g2⟩, by show kn < 65536; omega, w1, w2⟩
    obtain ⟨f, hf2⟩ := Deep.choose_lt hex
    refine ⟨(List.range len).map f, by simp, fun i t hi => ?_, by simp; unfold room; omega, ?_, ?_⟩
    · have hil : i < len := by
        by_cases h : i < len
        · exact h
        · rw [List.getElem?_eq_none (by simp; omega)] at hi; cases hi
      simp [hil] at hi
      subst hi
      exact (hf2 i hil).1
    · intro t ht
      simp only [List.mem_map, List.mem_range] at ht
      obtain ⟨i, hi, rfl⟩ := ht
      exact (hf2 i hi).2.1
    · intro t ht
      simp only [List.mem_map, List.mem_range] at ht
      obtain ⟨i, hi, rfl⟩ := ht
      exact (hf2 i hi).2.2
theorem und27 : Tryz.prog.underlying 27 = some (.struct #[⟨ "Code", 22, 0, false, "", "", 0⟩, ⟨ "Entry", 23, 1, false, "", "", 24⟩, ⟨ "Effects", 24, 2, false, "", "", 32⟩, ⟨ "Banks", 25, 3, false, "", "", 56⟩]) := by kernel_rfl
theorem list4 {α : Type} (l : List α) (h : l.length = 4) : ∃ a0 a1 a2 a3, l = [a0, a1, a2, a3] := by
  rcases l with _ | ⟨a0, _ | ⟨a1, _ | ⟨a2, _ | ⟨a3, _ | ⟨b, l⟩⟩⟩⟩⟩
  all_goals first | exact ⟨_, _, _, _, rfl⟩ | (simp at h)
/-- A cartridge that came in. -/
theorem open_cart {W : World} {base : Nat} {v : Value} {d : DataW H} {p : List MemPlace} (hval : Value.okWide Tryz.prog W .any base 27 v) (h : DataW.Trod enc Tryz.prog W 0 (fun _ => true) true 27 v d p)
    (hw : (d.weights Tryz.prog 27).all (· ≤ reachBytes) = true) :
    ∃ (c : Ct) (ep : Option Addr) (ec : Nat) (bp : Option Addr) (bc : Nat) (kv : Value), IsC W v c ep ec bp bc kv ∧ (ep = none → ec = 0) ∧ c.code.length + 4096 ≤ room := by
  obtain ⟨cs, rfl, hsz⟩ := okWide_struct und27 hval
  obtain ⟨fuel, hf⟩ := h
  obtain ⟨xs, q, _, hxy, hcl, hxl, hff⟩ := DataW.trod_struct und27 hf
  have hc4 : Tryz.prog.cellsOf 27 = 4 := by kernel_rfl
  rw [hc4] at hcl
  have k22 : Tryz.prog.cellsOf 22 = 1 := by kernel_rfl
  have k23 : Tryz.prog.cellsOf 23 = 1 := by kernel_rfl
  have k24 : Tryz.prog.cellsOf 24 = 1 := by kernel_rfl
  have k25 : Tryz.prog.cellsOf 25 = 1 := by kernel_rfl
  have hcs : ∃ a0 a1 a2 a3, cs = #[a0, a1, a2, a3] := by
    obtain ⟨l⟩ := cs
    simp [Value.cells] at hcl
    obtain ⟨a0, a1, a2, a3, e⟩ := list4 l hcl
    exact ⟨a0, a1, a2, a3, by rw [e]⟩
  obtain ⟨a0, a1, a2, a3, rfl⟩ := hcs
  obtain ⟨x0, x1, x2, x3, rfl⟩ := list4 xs hxl
  have f0 := hff 0 _ rfl
  have f1 := hff 1 _ rfl
  have f2 := hff 2 _ rfl
  have f3 := hff 3 _ rfl
  replace f0 : DataW.trod enc Tryz.prog W 0 (fun _ => true) true q 22 [a0] = some x0 := by simpa [k22, Value.cells] using f0
  replace f1 : DataW.trod enc Tryz.prog W 0 (fun _ => true) true q 23 [a1] = some x1 := by simpa [k23, Value.cells] using f1
  replace f2 : DataW.trod enc Tryz.prog W 0 (fun _ => true) true q 24 [a2] = some x2 := by simpa [k24, Value.cells] using f2
  replace f3 : DataW.trod enc Tryz.prog W 0 (fun _ => true) true q 25 [a3] = some x3 := by simpa [k25, Value.cells] using f3
  have hd : d = .agg [x0.1, x1.1, x2.1, x3.1] := by
    simp only [Prod.mk.injEq] at hxy; rw [hxy.1]; rfl
  rw [hd] at hw
  simp only [DataW.weights, und27, List.map_cons, List.map_nil, DataW.weightsEach, List.all_append, Bool.and_eq_true] at hw
  obtain ⟨w0, w1, w2, w3, _⟩ := hw
  obtain ⟨kv, code, ek, hk, hkl⟩ := open_bytes0 f0
  simp at ek
  subst ek
  obtain ⟨z1, e1, _, b1⟩ := DataW.trod_int Tryz.underlying23 f1
  simp at e1
  subst e1
  have hb1 := bounds_u16 b1
  obtain ⟨en, rfl⟩ : ∃ en : Nat, z1 = (en : Int) := ⟨z1.toNat, by omega⟩
  have hv2 : ∃ p n c, a2 = .slice p n c ∧ (p = none → c = 0) := by
    rcases Deep.open_slice Tryz.underlying24 f2 with ⟨hcs, _⟩ | ⟨x, l, c, m, n, D, Pl, hcs, _⟩ <;> (simp at hcs; exact ⟨_, _, _, hcs, by simp⟩)
  obtain ⟨ep, n2, ec, rfl, hnn⟩ := hv2
  have hv3 : ∃ p n c, a3 = .slice p n c := by
    rcases Deep.open_slice Tryz.underlying25 f3 with ⟨hcs, _⟩ | ⟨x, l, c, m, n, D, Pl, hcs, _⟩ <;> (simp at hcs; exact ⟨_, _, _, hcs⟩)
  obtain ⟨bp, n3, bc, rfl⟩ := hv3
  obtain ⟨es, rfl, g1, g2, g3, g4⟩ := open_effs0 (d := x2.1) (p := x2.2) ⟨q, f2⟩ w2
  obtain ⟨bs, rfl, j1, j2, j3, j4⟩ := open_banks0 (d := x3.1) (p := x3.2) ⟨q, f3⟩ w3
  have hl0 := hkl w0
  exact ⟨⟨code, en, es, bs⟩, ep, ec, bp, bc, a0, ⟨rfl, hk, by show code.length ≤ room; omega, g1, g2, j1, j2, ⟨by show en < 65536; omega, g3⟩, g4, j4⟩, hnn, hl0⟩
end
end Go.Proofs.YteldjmecomngeaaGreat.T
/-! What arguments give a walk: numbers, bytes. -/
namespace Go.Proofs.YteldjmecomngeaaGreat.V
open Go.RowKit Go.ChangeShapes Go.WideShapes Go.ChangeAt
open Go.Proofs
set_option linter.unusedVariables false
set_option linter.unusedSimpArgs false
set_option maxRecDepth 100000
set_option maxHeartbeats 2000000
section
variable {H : Type} {enc : TypeId × Value → H}
theorem open_is {W : World} {base : Nat} {v : Value} {d : DataW H} {p : List MemPlace} (hval : Value.okWide Tryz.prog W .any base 28 v) (h : DataW.Trod enc Tryz.prog W 0 (fun _ => true) true 28 v d p) :
    ∃ (l : List Int) (pp : Option Addr) (c : Nat), v = .slice pp l.length c ∧ Is W pp l := by
  obtain ⟨a, len, cap, rfl⟩ := okWide_slice Tryz.underlying28 hval
  obtain ⟨fuel, hf⟩ := h
  rcases open_ints Tryz.underlying28 Tryz.underlying3 (by kernel_rfl) hf with ⟨hcs, hx⟩ | ⟨y, l, c, zs, hcs, _, hl, hm, hz, hx, hcell, hwz⟩
  · simp [Value.cells] at hcs
    obtain ⟨rfl, rfl, rfl⟩ := hcs
    exact ⟨[], none, 0, rfl, fun i a hi => by simp at hi⟩
  · simp [Value.cells] at hcs
    obtain ⟨rfl, rfl, rfl⟩ := hcs
    simp only [if_true] at hz
    have hlen : (zs.take len).length = len := by simp; omega
    refine ⟨zs.take len, some y, cap, by rw [hlen], fun i z hi => ?_⟩
    have hjl : i < len := by
      by_cases h : i < len
      · exact h
      · rw [List.getElem?_eq_none (by rw [hlen]; omega)] at hi; cases hi
    have hc := hcell i (by omega)
    rw [List.getElem?_take, if_pos hjl, List.getElem?_eq_getElem (by omega)] at hi
    simp only [Option.some.injEq] at hi
    subst hi
    have e : zs.getD i 0 = zs[i]'(by omega) := by simp [List.getD, List.getElem?_eq_getElem (show i < zs.length by omega)]
    rw [e] at hc
    have hsp : y.spot = none := T.add_none (hcell 0 (by omega))
    obtain ⟨b, o, sp⟩ := y
    simp only at hsp
    subst hsp
    rw [T.add_at] at hc
    exact ⟨b, o, rfl, hc⟩
theorem open_bs {W : World} {base : Nat} {v : Value} {d : DataW H} {p : List MemPlace} (hval : Value.okWide Tryz.prog W .any base 22 v) (h : DataW.Trod enc Tryz.prog W 0 (fun _ => true) true 22 v d p) :
    ∃ (l : List UInt8) (pp : Option Addr) (c : Nat), v = .slice pp l.length c ∧ M.Sl W (.slice pp l.length c) l := by
  obtain ⟨a, len, cap, rfl⟩ := okWide_slice Tryz.underlying22 hval
  obtain ⟨l, hs, _⟩ := T.open_bytes1 h
  obtain ⟨p', c', e, _⟩ := hs.ex
  cases e
  exact ⟨l, _, _, rfl, hs⟩
end
end Go.Proofs.YteldjmecomngeaaGreat.V
