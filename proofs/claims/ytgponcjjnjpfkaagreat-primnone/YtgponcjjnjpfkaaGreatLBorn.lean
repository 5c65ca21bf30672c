import Derived.Test.YtgponcjjnjpfkaaGreatLBornK
import Derived.Deep.DeepCutAuto
/-! born. -/
namespace Go.Proofs.YtgponcjjnjpfkaaGreat.L
open Go.RowKit
open Go.Proofs
open P
set_option linter.unusedVariables false
set_option linter.unusedSimpArgs false
set_option maxHeartbeats 4000000
set_option maxRecDepth 100000
theorem born_any (p q : Option Addr) (c d : Nat) (data : List Int) (ret : List (Int × Int)) (hc : data.length ≤ c) (hd : ret.length ≤ d) (hpc : p = none → c = 0) (hpd : q = none → d = 0) (hr : data.length ≤ S.room) (hr2 : ret.length ≤ S.room) (w : World) (h1 : S.Sl S.eU 1 w p data) (h2 : S.Sl S.eK 2 w q ret) :
    Calls Tryz.prog 11 #[.slice p data.length c, .slice q ret.length d] w fun e w' => BornR w w' e (data.take 256) ((ret.take 128).map nk) := by
  have H1 := S.hid h1
  have H2 := S.hid h2
  clear h1 h2
  unfold S.room at hr hr2
  go_enter Tryz.func11, Tryz.ntmps11
  go_upto_region 1 with fail
  go_cut [0] (fun s0 wc => S.RowU wc w.heap.size s0 (data.take 256) ∧ Below w.heap.size w wc)
  case first =>
    have hr0 := S.own_empty w 26 1
    have hb0 : Below w.heap.size w (w.alloc (.cells #[] 26)) := bel_alloc w _
    have fin : ∀ n, (data.take 256).length = n → ∀ v' w', w'.ownsRow w.heap.size 26 1 v' n (S.en S.eU (data.take 256)) → S.Grew (w.alloc (.cells #[] 26)) w' (.slice (some ⟨w.heap.size, 0, none⟩) 0 0) v' → S.RowU w' w.heap.size v' (data.take 256) ∧ Below w.heap.size w w' := fun n e v' w' a b => ⟨by subst e; exact a, b.belowAll (fun g e => (hr0.lt g e).1) hb0 (Nat.le_refl _)⟩
    have hcs : S.Cs (w.alloc (.cells #[] 26)) (.slice p (data.take 256).length c) 1 (data.take 256).length (S.en S.eU (data.take 256)) := ((ls_of (H1.out.take 256) hpc (by rw [List.length_take]; omega)).below hb0).cs S.hU (by omega) S.oneU
    have FI := S.hid fin
    have HR := S.hid hr0
    have HC := S.hid hcs
    have HB := S.hid hb0
    clear fin hr0 hcs hb0
    by_cases a : 256 < data.length
    · have d1 : decide ((256 : Int) < (data.length : Int)) = true := decide_eq_true (by omega)
      have hcc : 256 ≤ c := by omega
      have hl : (data.take 256).length = 256 := by rw [List.length_take]; omega
      rw [hl] at HC
      have HL := S.hid hl
      clear hl
      go_wp2_with (first | (at_builtin; refine S.wpList_append_row _ rfl _ _ 27 26 _ 1 2 Tryz.underlying27 S.info32 rfl (by decide) rfl w.heap.size _ 0 [] rfl HR.out _ 256 (S.en S.eU (data.take 256)) rfl HC.out (by unfold S.room; omega) (by unfold maxLen; omega) HB.out.size ?_))
      intro v' w' hr hg
      have hq := FI.out _ HL.out v' w' hr hg
      go_wp2
      go_meet
      case rel => exact hq
    · have d1 : decide ((256 : Int) < (data.length : Int)) = false := decide_eq_false (by omega)
      have hl : (data.take 256).length = data.length := by rw [List.length_take]; omega
      rw [hl] at HC
      have HL := S.hid hl
      clear hl
      go_wp2_with (first | (at_builtin; refine S.wpList_append_row _ rfl _ _ 27 26 _ 1 2 Tryz.underlying27 S.info32 rfl (by decide) rfl w.heap.size _ 0 [] rfl HR.out _ data.length (S.en S.eU (data.take 256)) rfl HC.out (by unfold S.room; omega) (by unfold maxLen; omega) HB.out.size ?_))
      intro v' w' hr hg
      have hq := FI.out _ HL.out v' w' hr hg
      go_wp2
      go_meet
      case rel => exact hq
  case rest =>
    obtain ⟨wA, rfl⟩ : ∃ wA, wA = wc := ⟨_, rfl⟩
    obtain ⟨hU, hB⟩ := hcut
    have HU := S.hid hU
    have HB0 := S.hid hB
    have H2b := S.hid (H2.out.below hB)
    clear hU hB H1 H2
    go_upto_region 2 with fail
    go_cut [1] (fun s1 w2 => S.RowK w2 wA.heap.size s1 (ret.take 128) ∧ Below wA.heap.size wA w2)
    case first =>
      have hr0 := S.own_empty wA 44 2
      have hb0 : Below wA.heap.size wA (wA.alloc (.cells #[] 44)) := bel_alloc wA _
      have fin : ∀ n, (ret.take 128).length = n → ∀ v' w', w'.ownsRow wA.heap.size 44 2 v' n (S.en S.eK (ret.take 128)) → S.Grew (wA.alloc (.cells #[] 44)) w' (.slice (some ⟨wA.heap.size, 0, none⟩) 0 0) v' → S.RowK w' wA.heap.size v' (ret.take 128) ∧ Below wA.heap.size wA w' := fun n e v' w' a b => ⟨by subst e; exact a, b.belowAll (fun g e => (hr0.lt g e).1) hb0 (Nat.le_refl _)⟩
      have hcs : S.Cs (wA.alloc (.cells #[] 44)) (.slice q (ret.take 128).length d) 2 (ret.take 128).length (S.en S.eK (ret.take 128)) := ((ls_of (H2b.out.take 128) hpd (by rw [List.length_take]; omega)).below hb0).cs S.hK (by omega) S.oneK
      have FI := S.hid fin
      have HR := S.hid hr0
      have HC := S.hid hcs
      have HB := S.hid hb0
      clear fin hr0 hcs hb0
      by_cases a : 128 < ret.length
      · have d1 : decide ((128 : Int) < (ret.length : Int)) = true := decide_eq_true (by omega)
        have hcc : 128 ≤ d := by omega
        have hl : (ret.take 128).length = 128 := by rw [List.length_take]; omega
        rw [hl] at HC
        have HL := S.hid hl
        clear hl
        go_wp2_with (first | (at_builtin; refine S.wpList_append_row _ rfl _ _ 38 44 _ 2 16 Tryz.underlying38 S.info43 rfl (by decide) rfl wA.heap.size _ 0 [] rfl HR.out _ 128 (S.en S.eK (ret.take 128)) rfl HC.out (by unfold S.room; omega) (by unfold maxLen; omega) HB.out.size ?_))
        intro v' w' hr hg
        have hq := FI.out _ HL.out v' w' hr hg
        go_wp2
        go_meet
        case rel => exact hq
      · have d1 : decide ((128 : Int) < (ret.length : Int)) = false := decide_eq_false (by omega)
        have hl : (ret.take 128).length = ret.length := by rw [List.length_take]; omega
        rw [hl] at HC
        have HL := S.hid hl
        clear hl
        go_wp2_with (first | (at_builtin; refine S.wpList_append_row _ rfl _ _ 38 44 _ 2 16 Tryz.underlying38 S.info43 rfl (by decide) rfl wA.heap.size _ 0 [] rfl HR.out _ ret.length (S.en S.eK (ret.take 128)) rfl HC.out (by unfold S.room; omega) (by unfold maxLen; omega) HB.out.size ?_))
        intro v' w' hr hg
        have hq := FI.out _ HL.out v' w' hr hg
        go_wp2
        go_meet
        case rel => exact hq
    case rest =>
      obtain ⟨w2, rfl⟩ : ∃ w2, w2 = wc := ⟨_, rfl⟩
      obtain ⟨hK, hB2⟩ := hcut
      clear H2b
      have hrl : (ret.take 128).length ≤ 128 := by rw [List.length_take]; omega
      generalize hRe : ret.take 128 = R at *
      have HRE := S.hid hRe
      clear hRe
      have hBA : Below w.heap.size w w2 := HB0.out.trans ⟨hB2.os, hB2.tape, hB2.output, hB2.size, fun k hk => hB2.block k (Nat.lt_of_lt_of_le hk HB0.out.size)⟩
      have hU2 : S.RowU w2 w.heap.size u0 (data.take 256) := S.own_kept HU.out fun g _ hg => hB2.block g hg
      have hwA : w.heap.size ≤ wA.heap.size := HB0.out.size
      have HBA := S.hid hBA
      have HU2 := S.hid hU2
      have HK := S.hid hK
      obtain ⟨p1, c1, rfl⟩ := S.ex_slice hK
      clear HU HB0 hB2 hBA hU2 hK
      go_wp2
      go_loopw [5] (fun i wr => ∃ k : Nat, k ≤ R.length ∧ i = .int .i64 (k : Int) ∧ S.RowK wr wA.heap.size (.slice p1 R.length c1) (nks k R) ∧ S.Tc (fun b => ∃ g, p1 = some ⟨g, 0, none⟩ ∧ b = g) w2 wr) (fun i _ => R.length - (intOf i).toNat)
      case atStart => exact ⟨0, by omega, rfl, by rw [nks_0]; exact HK.out, S.Tc.refl _ _⟩
      case round =>
        obtain ⟨k, hk, rfl, hK, ht⟩ := hrel
        by_cases hlt : k < R.length
        · have hi : (k : Int) < (R.length : Int) := by omega
          have hK' := hK
          have hln := nks_len k R
          obtain ⟨g, cap, e1, hg, hcap⟩ := S.rowK_pos hK (by omega)
          rw [hln] at e1
          simp only [Value.slice.injEq, true_and] at e1
          obtain ⟨rfl, rfl⟩ := e1
          have hget := S.rowK_get (g := g) (cap := c1) (l := nks k R) (by rw [hln]; exact hK) k R[k] (nks_get k R hlt)
          have gc := hget.1
          obtain ⟨b1, b2⟩ := tm4 (R[k]).1
          have HN := S.hid (nks_set k R hlt)
          obtain ⟨t, ht1⟩ : ∃ t, R[k] = t := ⟨_, rfl⟩
          have HN2 : Hid ((nks k R).set k (nk t) = nks (k + 1) R) := by rw [← ht1]; exact HN
          have HG := S.hid (nks_get k R hlt)
          rw [ht1] at gc b1 b2 HG
          clear hget HN
          have a1 : IntKind.i64.wrap (t.1.tmod 4) = t.1.tmod 4 := S.i64_id _ (by omega) (by omega)
          have a2 : IntKind.i64.wrap (t.1.tmod 4 + 4) = t.1.tmod 4 + 4 := S.i64_id _ (by omega) (by omega)
          obtain ⟨b3, b4⟩ := tm4 (t.1.tmod 4 + 4)
          have a3 : IntKind.i64.wrap ((t.1.tmod 4 + 4).tmod 4) = (t.1.tmod 4 + 4).tmod 4 := S.i64_id _ (by omega) (by omega)
          have a4 : IntKind.i64.wrap (1 + (t.1.tmod 4 + 4).tmod 4) = 1 + (t.1.tmod 4 + 4).tmod 4 := S.i64_id _ (by omega) (by omega)
          have a5 : IntKind.i64.wrap ((k : Int) + 1) = ((k + 1 : Nat) : Int) := S.i64_id _ (by omega) (by omega)
          have hfz : wr.frozen? ⟨g, k * 2, none⟩ = false := by
            rcases hK.2 with ⟨e, _⟩ | ⟨g', cap', cur, e, _, hcur, _⟩
            · cases e
            · simp only [Value.slice.injEq, Option.some.injEq, Addr.mk.injEq, true_and, and_true] at e
              obtain ⟨rfl, _⟩ := e
              simp [World.frozen?, hcur]
          have hnew : S.RowK (wr.setCell ⟨g, k * 2, none⟩ (.int .i64 (1 + (t.1.tmod 4 + 4).tmod 4))) wA.heap.size (.slice (some ⟨g, 0, none⟩) R.length c1) (nks (k + 1) R) := by
            have hk2 : k < (nks k R).length := by rw [hln]; exact hlt
            have hK2 : wr.ownsRow wA.heap.size 44 2 (.slice (some ⟨g, 0, none⟩) R.length c1) R.length (S.en S.eK (nks k R)) := by have := hK; unfold S.RowK at this; rw [hln] at this; exact this
            have := S.own_set hK2 (k * 2) (by rw [S.en_len S.hK]; omega) (.int .i64 (1 + (t.1.tmod 4 + 4).tmod 4))
            rw [enK_at _ _ _ hk2] at this
            have e2 : (nks k R)[k].2 = t.2 := by
              have := HG.out
              rw [List.getElem?_eq_getElem hk2] at this
              exact congrArg Prod.snd (Option.some.inj this)
            rw [e2] at this
            unfold S.RowK
            rw [nks_len, ← HN2.out]
            exact this
          have htn : S.Tc (fun b => ∃ g_1, some (⟨g, 0, none⟩ : Addr) = some ⟨g_1, 0, none⟩ ∧ b = g_1) w2 (wr.setCell ⟨g, k * 2, none⟩ (.int .i64 (1 + (t.1.tmod 4 + 4).tmod 4))) := ht.setCell g _ ⟨g, rfl, rfl⟩ _
          have HX := S.hid (And.intro hnew htn)
          clear hnew htn hK hK' ht HN2 HG ht1 b1 b2 b3 b4 hcap hln
          go_wp2
          refine ⟨⟨k + 1, by omega, by go_num, HX.out.1, HX.out.2⟩, ?_⟩
          simp [intOf]; omega
        · obtain rfl : k = R.length := by omega
          have hi : ¬ ((R.length : Nat) : Int) < (R.length : Int) := by omega
          rw [nks_all] at hK
          have hKl : (R.map nk).length = R.length := by simp
          have hU3 : S.RowU wr w.heap.size u0 (data.take 256) := S.own_kept HU2.out fun g e hg => ht.block g hg (by
            rintro ⟨g', e', rfl⟩
            subst e'
            exact own_apart HU2.out HK.out _ e (by simp [Value.ownBlock]))
          have hB3 : Below w.heap.size w wr := HBA.out.trans ⟨ht.os, ht.tape, ht.output, ht.size, fun k hk => ht.block k (Nat.lt_of_lt_of_le hk HBA.out.size) (by
            rintro ⟨g', e', rfl⟩
            subst e'
            have := (HK.out.lt k (by simp [Value.ownBlock])).1
            omega)⟩
          have hDl : (data.take 256).length ≤ 256 := by rw [List.length_take]; omega
          have hR1 : (R.map nk).length ≤ 128 := by omega
          have hok : S.mayS (data.take 256) (R.map nk) = true := by
            unfold S.mayS
            rw [decide_eq_true hDl, decide_eq_true hR1, S.okR_yes _ (fun j a hj => ?_)]
            · rfl
            · rw [List.getElem?_map] at hj
              cases e : R[j]? with
              | none => rw [e] at hj; cases hj
              | some b =>
                rw [e] at hj
                cases hj
                have := tm4 (b.1.tmod 4 + 4)
                have h2 := tm4 b.1
                have h3 : 0 ≤ (b.1.tmod 4 + 4).tmod 4 := Int.tmod_nonneg 4 (by omega)
                exact S.okK_t (by simp only [nk]; omega) (by simp only [nk]; omega)
          generalize hDe : data.take 256 = D at *
          generalize hR1e : R.map nk = R1 at *
          have HDE := S.hid hDe
          have HR1E := S.hid hR1e
          clear hDe hR1e
          have HU3 := S.hid hU3
          have HB3 := S.hid hB3
          have HK3 := S.hid hK
          have HOK := S.hid hok
          have hrl1 : R.length = R1.length := hKl.symm
          rw [hrl1] at HK3 ⊢
          have hi2 : ¬ ((R1.length : Nat) : Int) < (R1.length : Int) := by omega
          obtain ⟨p0, c0, rfl⟩ := S.ex_slice hU3
          have hr3 := S.own_empty wr 26 1
          have hb3 := bel_alloc wr (.cells #[] 26)
          have cs3 := (hU3.ls.below hb3).cs S.hU (by omega) S.oneU
          have HZ := S.hid hwA
          clear HBA HU2 HK hU3 hB3 hK hok ht hKl hrl1 hi hlt hk hwA hrl hc hd hpc hpd hr hr2
          go_wp2_with (first | (at_builtin; refine S.wpList_append_row _ rfl _ _ 27 26 _ 1 2 Tryz.underlying27 S.info32 rfl (by decide) rfl wr.heap.size _ 0 [] rfl hr3 _ D.length (S.en S.eU D) rfl cs3 (by unfold S.room; omega) (by unfold maxLen; omega) hb3.size ?_))
          intro v3 w4 h4 g4
          have b4 : Below wr.heap.size wr w4 := g4.belowAll (fun g e => (hr3.lt g e).1) hb3 (Nat.le_refl _)
          have hv3 : S.RowU w4 wr.heap.size v3 D := by simpa [S.RowU] using h4
          have hK4 : S.RowK w4 wA.heap.size (.slice p1 R1.length c1) R1 := S.own_kept HK3.out fun g _ hg => b4.block g hg
          have hr5 := S.own_empty w4 44 2
          have hb5 := bel_alloc w4 (.cells #[] 44)
          have cs5 := (hK4.ls.below hb5).cs S.hK (by omega) S.oneK
          have HV3 := S.hid hv3
          have HB4 := S.hid b4
          clear hr3 hb3 cs3 h4 g4 b4 hv3 hK4
          go_wp2_with (first | (at_builtin; refine S.wpList_append_row _ rfl _ _ 38 44 _ 2 16 Tryz.underlying38 S.info43 rfl (by decide) rfl w4.heap.size _ 0 [] rfl hr5 _ R1.length (S.en S.eK R1) rfl cs5 (by unfold S.room; omega) (by unfold maxLen; omega) hb5.size ?_))
          intro v4 w6 h6 g6
          have b6 : Below w4.heap.size w4 w6 := g6.belowAll (fun g e => (hr5.lt g e).1) hb5 (Nat.le_refl _)
          have hv4 : S.RowK w6 w4.heap.size v4 R1 := by simpa [S.RowK] using h6
          have hv3 : S.RowU w6 wr.heap.size v3 D := S.own_kept HV3.out fun g _ hg => b6.block g hg
          obtain ⟨p3, c3, rfl, -, sl3⟩ := hv3.ls.ex
          obtain ⟨p4, c4, rfl, -, sl4⟩ := hv4.ls.ex
          have hst := S.stacks_any p3 p4 c3 c4 D R1 (by unfold S.room; omega) (by unfold S.room; omega) w6 sl3 sl4
          have b46 : Below wr.heap.size wr w6 := HB4.out.trans ⟨b6.os, b6.tape, b6.output, b6.size, fun k hk => b6.block k (Nat.lt_of_lt_of_le hk HB4.out.size)⟩
          have HB6 := S.hid b46
          clear hr5 hb5 cs5 h6 g6 b6 hv3 hv4 sl3 sl4 b46 HV3 HB4
          go_wp2_with fail
          refine hst.mono ?_
          rintro e w7 ⟨b7, ⟨_, bd, br, rfl, hD7, hR7, l1, l2, hdr⟩ | ⟨cc, _⟩⟩
          rotate_left
          · exfalso; rw [HOK.out] at cc; cases cc
          have b67 : Below wr.heap.size wr w7 := HB6.out.trans ⟨b7.os, b7.tape, b7.output, b7.size, fun k hk => b7.block k (Nat.lt_of_lt_of_le hk HB6.out.size)⟩
          have hs7 : wr.heap.size ≤ bd ∧ wr.heap.size ≤ br := ⟨Nat.le_trans HB6.out.size l1, Nat.le_trans HB6.out.size l2⟩
          obtain ⟨w8, hw8⟩ : ∃ w8, ((w7.alloc (.cells #[.int .u8 1, .int .u8 2, .int .u8 3] 5)).alloc (.cells #[.int .u8 4] 5)).alloc (.cells #[.int .i64 0, .slice (some ⟨w7.heap.size, 0, none⟩) 3 3, .int .i64 9, .slice (some ⟨w7.heap.size + 1, 0, none⟩) 1 1] 82) = w8 := ⟨_, rfl⟩
          have b78 : Below w7.heap.size w7 w8 := by rw [← hw8]; exact (((Below.refl _ w7).alloc (Nat.le_refl _) _).alloc (by simp) _).alloc (by simp; omega) _
          have hbn : M.BnS w8 (some ⟨w7.heap.size + 2, 0, none⟩) bkB := by rw [← hw8]; exact bnsB w7
          have hnw : Calls Tryz.prog 43 #[.slice (some ⟨w7.heap.size + 2, 0, none⟩) 2 2] w8 fun e w' => ∃ b, e = .returned (.tuple #[.pointer (some ⟨b, 0, none⟩), .int .i64 0]) ∧ M.HasM w' (fun k => w8.heap.size ≤ k) b mB ∧ Below w8.heap.size w8 w' := M.new_yes (some ⟨w7.heap.size + 2, 0, none⟩) 2 bkB (by decide) w8 hbn mayBk
          have HN7 := S.hid (And.intro hD7 hR7)
          have HB7 := S.hid (And.intro b67 b78)
          have HL7 := S.hid (And.intro hs7 hdr)
          have HBN := S.hid hbn
          clear hst b7 hD7 hR7 l1 l2 hdr b67 hs7 b78 hbn HB6 HOK
          go_wp2_with fail
          refine hnw.mono ?_
          rintro e w9 ⟨bm, rfl, hM9, b9⟩
          have hrn : Calls Tryz.prog 44 #[.slice (some ⟨w7.heap.size + 2, 0, none⟩) 2 2] w9 fun e w' => ∃ b, e = .returned (.tuple #[.pointer (some ⟨b, 0, none⟩), .int .i64 0]) ∧ M.HasR w' (fun k => w9.heap.size ≤ k) b (M.padB bkB) M.ms0 ∧ Below w9.heap.size w9 w' := M.rnew_yes (some ⟨w7.heap.size + 2, 0, none⟩) 2 bkB (by decide) w9 (HBN.out.below b9) mayBk (by decide)
          have HM9 := S.hid hM9
          have HB9 := S.hid b9
          clear hnw hM9 b9 hw8
          go_wp2_with fail
          refine hrn.mono ?_
          rintro e w10 ⟨bz, rfl, hZ10, b10⟩
          have fin := born_fin (w := w) HB3.out HU3.out HK3.out HZ.out hDl hR1 HB7.out.1 HB7.out.2 HN7.out.1 HN7.out.2 HL7.out.1 HL7.out.2 HM9.out HB9.out hZ10 b10
          have FI := S.hid fin
          clear fin hZ10 b10 hrn HM9 HB9 HBN HN7 HB7 HL7 HB3 HU3 HK3 HZ
          go_wp2
          go_ret
          rw [HDE.out, HRE.out, HR1E.out]
          exact FI.out
end Go.Proofs.YtgponcjjnjpfkaaGreat.L
