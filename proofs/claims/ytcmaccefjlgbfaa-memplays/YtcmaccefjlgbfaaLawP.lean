import Derived.Test.YtcmaccefjlgbfaaLk
import Derived.Test.YtcmaccefjlgbfaaTones
import Derived.Test.YtcmaccefjlgbfaaRSame
import Derived.Deep.DeepCutAuto
import Derived.Deep.RegionHeld3
import Derived.Deep.RegionHeldLaw
/-! MemPlays, walked. -/
namespace Go.Proofs.Ytcmaccefjlgbfaa
open Go.RowKit
open Go.Proofs
set_option linter.unusedVariables false
set_option linter.unusedSimpArgs false
set_option maxHeartbeats 4000000
set_option maxRecDepth 100000
theorem playlaw_no (p : Option Addr) (c : Nat) (bs : List (Int × List UInt8)) (hl : bs.length * 32 ≤ room) (hd : ∀ t ∈ bs, t.2.length + 1 ≤ room) (ps : Option Addr) (cs : Nat) (sc : List Op7) (hsc : sc.length ≤ 140737488355328) (w : World) (h : BnS w p bs) (hs : ScS w ps sc) (hm : mayB (-1) bs = false) :
    Calls Try.prog 6 #[.slice p bs.length c, .slice ps sc.length cs] w fun e w' => e = .returned (.bool true) ∧ Below w.heap.size w w' := by
  have hob := ownBanks_any p c bs hl hd w h
  have hl1 : bs.length ≤ room := by omega
  have HH : Hid _ := h
  have HS : Hid _ := hs
  have HL : Hid _ := And.intro hl hd
  clear h hs hd
  go_enter Try.func6, Try.ntmps6
  go_wp2_with fail
  refine hob.mono ?_
  rintro e w1 ⟨u, gs, rfl, hOB, hb1⟩
  obtain ⟨pu, cu, rfl, hbn⟩ := hOB.ex (fun t ht => by have := HL.out.2 t ht; omega)
  have hn := new_no pu cu bs hl1 w1 hbn hm
  have HO : Hid _ := hOB
  have HB1 : Hid _ := hb1
  clear hob hOB hb1 hbn
  go_wp2_with fail
  refine hn.mono ?_
  rintro e w2 ⟨rfl, hb2⟩
  have hb12 := HB1.out.trans (hb2.mono HB1.out.size)
  have hr := rnew_no p c bs hl1 w2 (BnS.below HH.out hb12) hm
  have HB2 : Hid _ := And.intro hb2 hb12
  clear hn hb2 hb12
  go_wp2_with fail
  refine hr.mono ?_
  rintro e w3 ⟨rfl, hb3⟩
  have hb13 := HB2.out.2.trans (hb3.mono HB2.out.2.size)
  have hO3 := (HO.out.below HB2.out.1).below hb3
  have hk := kept_any w.heap.size (.slice pu bs.length cu) p c bs gs hl1 HL.out.2 w3 hO3 (BnS.below HH.out hb13)
  have HB3 : Hid _ := And.intro hb3 hb13
  clear hr hb3 hb13 hO3
  go_wp2_with fail
  refine hk.mono ?_
  rintro e w4 ⟨rfl, q, hw4⟩
  have h34 : Below w3.heap.size w3 w4 := by rw [hw4]; exact ⟨rfl, rfl, rfl, Nat.le_refl _, fun _ _ => rfl⟩
  have ha := awake_any w4
  clear hk hw4
  go_wp2_with fail
  refine ha.mono ?_
  rintro e w5 ⟨rfl, h45⟩
  have h35 := h34.trans (h45.mono h34.size)
  have HB5 : Hid _ := h35
  clear ha h34 h45 h35
  go_wp2
  go_ret
  exact ⟨rfl, HB3.out.2.trans (HB5.out.mono HB3.out.2.size)⟩
theorem playlaw_yes (p : Option Addr) (c : Nat) (bs : List (Int × List UInt8)) (hl : bs.length * 32 ≤ room) (hd : ∀ t ∈ bs, t.2.length + 1 ≤ room) (ps : Option Addr) (cs : Nat) (sc : List Op7) (hsc : sc.length ≤ 140737488355328) (w : World) (h : BnS w p bs) (hs : ScS w ps sc) (hm : mayB (-1) bs = true) :
    Calls Try.prog 6 #[.slice p bs.length c, .slice ps sc.length cs] w fun e w' => e = .returned (.bool true) ∧ Below w.heap.size w w' := by
  have hdl := may_len bs _ hm
  have hob := ownBanks_any p c bs hl hd w h
  have hl1 : bs.length ≤ room := by omega
  have HH : Hid _ := h
  have HS : Hid _ := hs
  have HL : Hid _ := And.intro hl hd
  clear h hs hd
  go_enter Try.func6, Try.ntmps6
  go_wp2_with fail
  refine hob.mono ?_
  rintro e w1 ⟨u, gs, rfl, hOB, hb1⟩
  obtain ⟨pu, cu, rfl, hbn⟩ := hOB.ex (fun t ht => by have := HL.out.2 t ht; omega)
  have hn := newN pu cu bs hl1 w1 hbn hm
  have HO : Hid _ := hOB
  have HB1 : Hid _ := hb1
  clear hob hOB hb1 hbn
  go_wp2_with fail
  refine hn.mono ?_
  rintro e w2 ⟨b0, rfl, hM, hb2⟩
  have hb12 := HB1.out.trans (hb2.mono HB1.out.size)
  have hr := rnew_yes p c bs hl w2 (BnS.below HH.out hb12) hm hdl
  have HB2 : Hid _ := And.intro hb2 hb12
  have HM : Hid _ := hM
  clear hM
  clear hn hb2 hb12
  go_wp2_with fail
  refine hr.mono ?_
  rintro e w3 ⟨d0, rfl, hR, hb3⟩
  have hb13 := HB2.out.2.trans (hb3.mono HB2.out.2.size)
  have hO3 := (HO.out.below HB2.out.1).below hb3
  have hk := kept_any w.heap.size (.slice pu bs.length cu) p c bs gs hl1 HL.out.2 w3 hO3 (BnS.below HH.out hb13)
  have HB3 : Hid _ := And.intro hb3 hb13
  have HR : Hid _ := newR hm (HasM.wf HM.out) hR
  clear hR
  clear hr hb3 hb13 hO3
  go_wp2_with fail
  refine hk.mono ?_
  rintro e w4 ⟨rfl, q, hw4⟩
  have h34 : Below w3.heap.size w3 w4 := by rw [hw4]; exact ⟨rfl, rfl, rfl, Nat.le_refl _, fun _ _ => rfl⟩
  have ha := awake_any w4
  clear hk hw4
  go_wp2_with fail
  refine ha.mono ?_
  rintro e w5 ⟨rfl, h45⟩
  have h35 := h34.trans (h45.mono h34.size)
  have HB5 : Hid _ := h35
  clear ha h34 h45 h35
  have hOv := Ov.start HO.out HB1.out (HB2.out.1.trans ((HB3.out.1.trans (HB5.out.mono HB3.out.1.size)).mono HB2.out.1.size))
  have HV : Hid _ := hOv
  clear hOv
  have hbl : bs.length ≤ 16 * 140737488355328 := by unfold room at hl; omega
  clear hl hdl
  go_wp2
  go_loopw [51] (fun i wr => ∃ k : Nat, k ≤ bs.length ∧ i = .int .i64 (k : Int) ∧ Ov w w1 w5 wr (.slice pu bs.length cu) bs gs) (fun i _ => bs.length - (intOf i).toNat)
  case atStart => exact ⟨0, by omega, rfl, HV.out⟩
  case round =>
    clear HV
    obtain ⟨k, hk, rfl, hV⟩ := hrel
    by_cases hlt : k < bs.length
    · have i1 : (k : Int) < bs.length := by omega
      obtain ⟨gu, cu', eu⟩ := own_pos hV.row (by omega)
      simp only [Value.slice.injEq] at eu
      obtain ⟨rfl, _, rfl⟩ := eu
      have a1 := List.getElem?_eq_getElem hlt
      have a2 := List.getElem?_eq_getElem (show k < gs.length by rw [hV.len]; exact hlt)
      generalize bs[k] = t at *
      generalize gs[k]'(by rw [hV.len]; exact hlt) = g at *
      have hc := hV.at gu cu rfl k t g a1 a2
      have htl : t.2.length ≤ 16 * 140737488355328 := by have := HL.out.2 t (List.mem_of_getElem? a1); unfold room at this; omega
      have HV : Hid _ := hV
      clear hV
      go_wp2
      go_loopw [60] (fun i wr2 => ∃ j : Nat, j ≤ t.2.length ∧ i = .int .i64 (j : Int) ∧ Ov w w1 w5 wr2 (.slice (some ⟨gu, 0, none⟩) bs.length cu) bs gs) (fun i _ => t.2.length - (intOf i).toNat)
      case atStart => exact ⟨0, by omega, rfl, HV.out⟩
      case round =>
        clear hc HV
        obtain ⟨j, hj, rfl, hV⟩ := hrel
        by_cases hlt2 : j < t.2.length
        · have i2 : (j : Int) < t.2.length := by omega
          have hc := hV.at gu cu rfl k t g a1 a2
          obtain ⟨old, hby, hfz⟩ := hV.byte k t g a1 a2 j hlt2
          have hV2 := hV.store k t g a1 a2 j (.int .u8 119)
          have HV2 : Hid _ := hV2
          clear hV hV2
          go_wp2
          go_roundw
          case rel => exact ⟨j + 1, by omega, by go_num, HV2.out⟩
          case measure => simp [intOf]; omega
        · have i2 : ¬ (j : Int) < t.2.length := by omega
          have HV2 : Hid _ := hV
          clear hV
          go_wp2
          go_roundw
          case rel => exact ⟨k + 1, by omega, by go_num, HV2.out⟩
          case measure => simp [intOf]; omega
    · have i1 : ¬ (k : Int) < bs.length := by omega
      have HV : Hid _ := hV
      have hM6 : HasM wr (fun k => w1.heap.size ≤ k ∧ k < w2.heap.size) b0 (mN bs) := (HasM.mono HM.out (G := fun k => w1.heap.size ≤ k ∧ k < w2.heap.size) fun i hi f => ⟨f, hi⟩).kept fun i hi f => (hV.hi i f.1).trans ((HB5.out.block i (Nat.lt_of_lt_of_le hi HB3.out.1.size)).trans (HB3.out.1.block i hi))
      have hz0 : (mN bs).tones.length = 0 := rfl
      have hcp := copy_any b0 wr hM6 (by omega)
      clear hV hM6
      go_wp2_with fail
      refine hcp.mono ?_
      rintro e w7 ⟨b1, rfl, hM7, hb67⟩
      have hR7 : IsR w7 (fun k => w2.heap.size ≤ k ∧ k < w3.heap.size) d0 (mN bs) := (IsR.mono HR.out (G := fun k => w2.heap.size ≤ k ∧ k < w3.heap.size) fun i hi f => ⟨f, hi⟩).kept fun i hi f => (hb67.block i (by have := HV.out.sz; have := HB5.out.size; omega)).trans ((HV.out.hi i (by have := HB2.out.1.size; omega)).trans (HB5.out.block i hi))
      have hrc := rcopy_is d0 w7 hR7 (by omega)
      have H7 : Hid _ := And.intro hM7 hb67
      clear hcp hM7 hb67 hR7
      go_wp2_with fail
      refine hrc.mono ?_
      rintro e w8 ⟨d1, rfl, hR8, hb78⟩
      have hPE := pair_make HB1.out.size HB2.out.1 HB3.out.1 HB5.out HM.out HR.out HV.out.hi HV.out.sz H7.out.2 hb78 H7.out.1 hR8 hz0
      have hb8 : Below w.heap.size w w8 := HV.out.bel.trans ((H7.out.2.trans (hb78.mono H7.out.2.size)).mono HV.out.bel.size)
      have hb9 : Below w.heap.size w (w8.alloc (.cells #[ptr b0, ptr b1, ptr d0, ptr d1] 73)) := hb8.alloc hb8.size _
      have hp1 : (w8.alloc (.cells #[ptr b0, ptr b1, ptr d0, ptr d1] 73)).cell? ⟨w8.heap.size, 1, none⟩ = some (ptr b1) := cell_of _ _ 1 [ptr b0, ptr b1, ptr d0, ptr d1] 73 _ (heap_alloc_new w8 _) rfl
      unfold ptr at hPE hb9 hp1
      obtain ⟨n, hn8⟩ : ∃ n, w8.heap.size = n := ⟨_, rfl⟩
      rw [hn8] at hPE hp1
      have H9 : Hid _ := And.intro hPE hb9
      clear hrc hR8 hb78 hb8 hPE hb9
      go_upto_region 20 with fail
      generalize hW9 : w8.alloc (.cells #[.pointer (some ⟨b0, 0, none⟩), .pointer (some ⟨b1, 0, none⟩), .pointer (some ⟨d0, 0, none⟩), .pointer (some ⟨d1, 0, none⟩)] 73) = w9 at *
      clear HV H7 HM HR HB1 HB2 HB3 HB5 HO hW9 hn8 hp1 HL HH
      go_wp2
      go_loopw [13] (fun j wr => ∃ k : Nat, k ≤ sc.length ∧ k ≤ 60 ∧ j = .int .i64 (k : Int) ∧ SP w.heap.size n w9 wr k) (fun j _ => 60 - (intOf j).toNat)
      case atStart => exact ⟨0, by omega, by omega, rfl, H9.out.1⟩
      case round =>
        obtain ⟨k, hk1, hk2, rfl, hP⟩ := hrel
        by_cases hlt : k < sc.length ∧ k < 60
        · have i1 : decide ((k : Int) < (sc.length : Int)) = true := decide_eq_true (by omega)
          have i2 : decide ((k : Int) < (60 : Int)) = true := decide_eq_true (by omega)
          have i3 : (k : Int) < (sc.length : Int) := by omega
          obtain ⟨⟨b, o, hpb, e0, e1, e2, e3, e4, e5, e6⟩, z0, z1, x0, x1, y0, y1⟩ := HS.out k sc[k] (List.getElem?_eq_getElem hlt.1)
          generalize sc[k] = t at *
          have hbw : b < w.heap.size := World.block_lt_of_cell? w _ e0
          have hkb := (H9.out.2.trans hP.2).block b hbw
          have g0 := (World.cell?_of_block (w := w) (a := ⟨b, o + k * 7, none⟩) hkb).trans e0
          have g1 := (World.cell?_of_block (w := w) (a := ⟨b, o + k * 7 + 1, none⟩) hkb).trans e1
          have g2 := (World.cell?_of_block (w := w) (a := ⟨b, o + k * 7 + 2, none⟩) hkb).trans e2
          have g3 := (World.cell?_of_block (w := w) (a := ⟨b, o + k * 7 + 3, none⟩) hkb).trans e3
          have g4 := (World.cell?_of_block (w := w) (a := ⟨b, o + k * 7 + 4, none⟩) hkb).trans e4
          have g5 := (World.cell?_of_block (w := w) (a := ⟨b, o + k * 7 + 5, none⟩) hkb).trans e5
          have g6 := (World.cell?_of_block (w := w) (a := ⟨b, o + k * 7 + 6, none⟩) hkb).trans e6
          have hPc := hP
          obtain ⟨⟨c', mb, rb, s, D, ht⟩, _⟩ := hPc
          have hp := plays_any w.heap.size n t.k t.wh t.at_ t.x t.y t.c t.n z0 z1 x0 x1 y0 y1 (3 * k) (by omega) _ D ht
          have HP : Hid _ := hP
          clear hP D ht e0 e1 e2 e3 e4 e5 e6 z0 z1 x0 x1 y0 y1 hkb
          subst hpb
          go_wp2_with fail
          refine hp.mono ?_
          rintro e w2 ⟨rfl, hE⟩
          have hS2 := SP.step HP.out hE
          have HS2 : Hid _ := hS2
          clear hp hE hS2 HP g0 g1 g2 g3 g4 g5 g6
          go_wp2
          go_roundw
          case rel => exact ⟨k + 1, by omega, by omega, by go_num, HS2.out⟩
          case measure => first | (simp [intOf]; done) | (simp [intOf]; omega)
        · have hend : (decide ((k : Int) < (sc.length : Int)) = false) ∨ (decide ((k : Int) < (sc.length : Int)) = true ∧ decide ((k : Int) < (60 : Int)) = false) := by
            by_cases c1 : k < sc.length
            · exact .inr ⟨decide_eq_true (by omega), decide_eq_false (by omega)⟩
            · exact .inl (decide_eq_false (by omega))
          have hP2 : PlE w.heap.size n 180 w9 wr := by
            obtain ⟨⟨c', mb, rb, s, D, ht⟩, hb⟩ := hP
            exact ⟨⟨c', mb, rb, s, D, fun j hj => Nat.le_trans (ht j hj) (by omega)⟩, hb⟩
          have HP : Hid _ := hP2
          clear hP hP2
          go_upto_region 21 with fail
          go_cut [95] (fun sx wc => sx = .bool false ∧ wc = wr)
          case first =>
            by_cases c1 : k < sc.length
            · have c2 : ¬ k < 60 := by omega
              have c3 : ¬ (k : Int) < 60 := by omega
              have i2 : decide ((k : Int) < 60) = false := decide_eq_false c3
              go_wp2
              go_meet
              case rel => exact ⟨by simp [c3], rfl⟩
            · go_wp2
              go_meet
              case rel => exact ⟨rfl, rfl⟩
          case rest =>
            obtain ⟨rfl, hwc⟩ := hcut
            obtain rfl := hwc
            clear hend
            go_wp2
            go_loopw [14] (fun j wr2 => ∃ k : Nat, k ≤ 2 ∧ j = .int .i64 (k : Int) ∧ PlE w.heap.size n 180 w9 wr2) (fun j _ => 2 - (intOf j).toNat)
            case atStart => exact ⟨0, by omega, rfl, HP.out⟩
            case round =>
              clear HP
              obtain ⟨k, hk, rfl, hP⟩ := hrel
              have HP : Hid _ := hP
              clear hP
              have hk3 : k = 0 ∨ k = 1 ∨ k = 2 := by omega
              rcases hk3 with rfl | rfl | rfl
              · as_aux_lemma =>
                  obtain ⟨⟨cc, mb, rb, s, D0, ht⟩, hb9⟩ := HP.out
                  have D1 := D0.below ((Below.refl _ wr).drew)
                  have a1 := D1.a 0 (by omega)
                  have hwf := HasM.wf a1
                  have hfu := inO_full (s 0) hwf 16
                  have hil := inO_len (s 0) 16
                  have t0 := ht 0 (by omega)
                  obtain ⟨hw2, u0, gr0, gc0, gs0, tv, hR⟩ := D1.b 0 (by omega)
                  obtain ⟨tp, tq, etv⟩ := own_form hR.tones
                  subst etv
                  have SF : ∀ wz, Below wr.drew.heap.size wr.drew wz → (fun wz : World => wz.cell? ⟨n, 0, none⟩ = some (.pointer (some ⟨mb 0, 0, none⟩)) ∧ wz.cell? ⟨n, 2, none⟩ = some (.pointer (some ⟨rb 0, 0, none⟩)) ∧ wz.cell? ⟨rb 0, 9, none⟩ = some (.slice tp (s 0).tones.length tq)) wz ∧ TRow wz 0 (.slice tp (s 0).tones.length tq) (s 0).tones ∧ Duo wz w.heap.size n cc mb rb s s := fun wz k => by
                    have h' := hR.kept (W' := wz) fun i hi _ => k.block i hi
                    have d' := D1.below k
                    exact ⟨⟨cell_of wz n 0 _ 73 _ d'.pb rfl, cell_of wz n 2 _ 73 _ d'.pb rfl, cell_of wz (rb 0) 9 _ 80 _ h'.blk rfl⟩, h'.tones, d'⟩
                  have s0 := (SF wr.drew (Below.refl _ _)).1
                  have k1 := image_has (mb 0) wr.drew a1
                  unfold imgC at k1
                  have hBz : w.heap.size ≤ wr.drew.heap.size := Nat.le_of_lt D1.sz
                  have hb9d : Below w.heap.size w9 wr.drew := hb9.trans ((Below.refl _ wr).drew)
                  have HF : Hid _ := SF
                  have HG : Hid _ := And.intro hBz (And.intro hb9d ht)
                  clear D0 D1 a1 hR hw2 SF hb9 HP ht hBz hb9d
                  go_upto_region 28 with fail
                  refine wp_region_held_drew (S := (fun wz : World => wz.cell? ⟨n, 0, none⟩ = some (.pointer (some ⟨mb 0, 0, none⟩)) ∧ wz.cell? ⟨n, 2, none⟩ = some (.pointer (some ⟨rb 0, 0, none⟩)) ∧ wz.cell? ⟨rb 0, 9, none⟩ = some (.slice tp (s 0).tones.length tq))) (by kernel_rfl) s0 (fun hHeld => ?_)
                  generalize hWd : wr.drew = Wd at *
                  refine wpAnyH_take (i := 0) (v := ?_) rfl (by kernel_rfl) (by kernel_rfl) (by kernel_rfl) (fun c a w h => h) (Or.inl ⟨by rfl, ?_⟩) hHeld ?_
                  rotate_left
                  · (intro w hSw; (try dsimp only at hSw); go_simp; try with_reducible rfl)
                  simp only [Act.put, List.getElem_toArray, List.getElem_cons_zero, List.getElem_cons_succ, List.setIfInBounds_toArray, List.set_cons_zero, List.set_cons_succ]
                  refine wpAnyH_take (i := 1) (v := ?_) rfl (by kernel_rfl) (by kernel_rfl) (by kernel_rfl) (fun c a w h => h) (Or.inl ⟨by rfl, ?_⟩) hHeld ?_
                  rotate_left
                  · (intro w hSw; (try dsimp only at hSw); go_simp; try with_reducible rfl)
                  simp only [Act.put, List.getElem_toArray, List.getElem_cons_zero, List.getElem_cons_succ, List.setIfInBounds_toArray, List.set_cons_zero, List.set_cons_succ]
                  refine wpAnyH_take (i := 2) (v := ?_) rfl (by kernel_rfl) (by kernel_rfl) (by kernel_rfl) (fun c a w h => h) (Or.inl ⟨by rfl, ?_⟩) hHeld ?_
                  rotate_left
                  · (intro w hSw; (try dsimp only at hSw); go_simp; try with_reducible rfl)
                  simp only [Act.put, List.getElem_toArray, List.getElem_cons_zero, List.getElem_cons_succ, List.setIfInBounds_toArray, List.set_cons_zero, List.set_cons_succ]
                  refine wpAnyH_take (i := 3) (v := ?_) rfl (by kernel_rfl) (by kernel_rfl) (by kernel_rfl) (fun c a w h => h) (Or.inl ⟨by rfl, ?_⟩) hHeld ?_
                  rotate_left
                  · (intro w hSw; (try dsimp only at hSw); go_simp; try with_reducible rfl)
                  simp only [Act.put, List.getElem_toArray, List.getElem_cons_zero, List.getElem_cons_succ, List.setIfInBounds_toArray, List.set_cons_zero, List.set_cons_succ]
                  refine wpAnyH_take (i := 4) (v := ?_) rfl (by kernel_rfl) (by kernel_rfl) (by kernel_rfl) (fun c a w h => h) (Or.inl ⟨by rfl, ?_⟩) hHeld ?_
                  rotate_left
                  · (intro w hSw; (try dsimp only at hSw); go_simp; try with_reducible rfl)
                  simp only [Act.put, List.getElem_toArray, List.getElem_cons_zero, List.getElem_cons_succ, List.setIfInBounds_toArray, List.set_cons_zero, List.set_cons_succ]
                  refine wpAnyH_take (i := 5) (v := ?_) rfl (by kernel_rfl) (by kernel_rfl) (by kernel_rfl) (fun c a w h => h) (Or.inl ⟨by rfl, ?_⟩) hHeld ?_
                  rotate_left
                  · (intro w hSw; (try dsimp only at hSw); go_simp; try with_reducible rfl)
                  simp only [Act.put, List.getElem_toArray, List.getElem_cons_zero, List.getElem_cons_succ, List.setIfInBounds_toArray, List.set_cons_zero, List.set_cons_succ]
                  refine wpAnyH_take (i := 8) (v := ?_) rfl (by kernel_rfl) (by kernel_rfl) (by kernel_rfl) (fun c a w h => h) (Or.inl ⟨by rfl, ?_⟩) hHeld ?_
                  rotate_left
                  · (intro w hSw; (try dsimp only at hSw); go_simp; try with_reducible rfl)
                  simp only [Act.put, List.getElem_toArray, List.getElem_cons_zero, List.getElem_cons_succ, List.setIfInBounds_toArray, List.set_cons_zero, List.set_cons_succ]
                  refine wpAnyH_take (i := 9) (v := ?_) rfl (by kernel_rfl) (by kernel_rfl) (by kernel_rfl) (fun c a w h => h) (Or.inl ⟨by rfl, ?_⟩) hHeld ?_
                  rotate_left
                  · (intro w hSw; (try dsimp only at hSw); go_simp; try with_reducible rfl)
                  simp only [Act.put, List.getElem_toArray, List.getElem_cons_zero, List.getElem_cons_succ, List.setIfInBounds_toArray, List.set_cons_zero, List.set_cons_succ]
                  refine wpAnyH_take (i := 10) (v := ?_) rfl (by kernel_rfl) (by kernel_rfl) (by kernel_rfl) (fun c a w h => h) (Or.inl ⟨by rfl, ?_⟩) hHeld ?_
                  rotate_left
                  · (intro w hSw; (try dsimp only at hSw); go_simp; try with_reducible rfl)
                  simp only [Act.put, List.getElem_toArray, List.getElem_cons_zero, List.getElem_cons_succ, List.setIfInBounds_toArray, List.set_cons_zero, List.set_cons_succ]
                  refine wpAnyH_take (i := 11) (v := ?_) rfl (by kernel_rfl) (by kernel_rfl) (by kernel_rfl) (fun c a w h => h) (Or.inl ⟨by rfl, ?_⟩) hHeld ?_
                  rotate_left
                  · (intro w hSw; (try dsimp only at hSw); go_simp; try with_reducible rfl)
                  simp only [Act.put, List.getElem_toArray, List.getElem_cons_zero, List.getElem_cons_succ, List.setIfInBounds_toArray, List.set_cons_zero, List.set_cons_succ]
                  refine wpAnyH_take (i := 12) (v := ?_) rfl (by kernel_rfl) (by kernel_rfl) (by kernel_rfl) (fun c a w h => h) (Or.inl ⟨by rfl, ?_⟩) hHeld ?_
                  rotate_left
                  · (intro w hSw; (try dsimp only at hSw); go_simp; try with_reducible rfl)
                  simp only [Act.put, List.getElem_toArray, List.getElem_cons_zero, List.getElem_cons_succ, List.setIfInBounds_toArray, List.set_cons_zero, List.set_cons_succ]
                  refine wpAnyH_take (i := 13) (v := ?_) rfl (by kernel_rfl) (by kernel_rfl) (by kernel_rfl) (fun c a w h => h) (Or.inl ⟨by rfl, ?_⟩) hHeld ?_
                  rotate_left
                  · (intro w hSw; (try dsimp only at hSw); go_simp; try with_reducible rfl)
                  simp only [Act.put, List.getElem_toArray, List.getElem_cons_zero, List.getElem_cons_succ, List.setIfInBounds_toArray, List.set_cons_zero, List.set_cons_succ]
                  refine wpAnyH_ready (rs := [6]) (by kernel_rfl) (by simp) ?_
                  refine AllReadyH.cons rfl (fun K hK => ?_) AllReadyH.nil
                  go_simp
                  refine k1.mono ?_
                  rintro e w2 ⟨u, rv, sv, gs9, N1, N2, rfl, hIm, hB2⟩
                  obtain ⟨p1, c1, rp, rc, sp, sc', rfl, rfl, rfl, hbn, hr, hs⟩ := hIm.forms (fun t ht => by have := hfu t ht; unfold room; omega)
                  have hc1 := image_any p1 (inO (s 0) 16).length c1 rp sp (s 0).ram.length rc (s 0).scr.length sc' (s 0) w2
                  unfold img at hc1
                  have s2 := (HF.out _ hB2).1
                  have H2 : Hid _ := And.intro hbn (And.intro hr (And.intro hs hB2))
                  clear k1 hIm hbn hr hs hB2
                  refine hK.out _ _ s2 (fun hHeld => ?_)
                  clear hK K
                  try simp only [Act.put, List.getElem_toArray, List.getElem_cons_zero, List.getElem_cons_succ, List.setIfInBounds_toArray, List.set_cons_zero, List.set_cons_succ]
                  refine wpAnyH_ready (rs := [7]) (by kernel_rfl) (by simp) ?_
                  refine AllReadyH.cons rfl (fun K hK => ?_) AllReadyH.nil
                  go_simp
                  refine hc1.mono ?_
                  rintro e w3 ⟨rfl, hB3⟩
                  have hA3 := H2.out.2.2.2.trans (hB3.mono H2.out.2.2.2.size)
                  have s3 := (HF.out _ hA3).1
                  have hc2 := rimage_any (rb 0) w3 ((HF.out _ hA3).2.2.b 0 (by omega)) (by omega)
                  unfold imgC at hc2
                  have H3 : Hid _ := And.intro hB3 hA3
                  clear hc1 hB3 hA3 s2
                  refine hK.out _ _ s3 (fun hHeld => ?_)
                  clear hK K
                  try simp only [Act.put, List.getElem_toArray, List.getElem_cons_zero, List.getElem_cons_succ, List.setIfInBounds_toArray, List.set_cons_zero, List.set_cons_succ]
                  refine wpAnyH_ready (rs := [14]) (by kernel_rfl) (by simp) ?_
                  refine AllReadyH.cons rfl (fun K hK => ?_) AllReadyH.nil
                  go_simp
                  refine hc2.mono ?_
                  rintro e w4 ⟨pb, cb, gr9, gc9, rfl, hRI, hB4⟩
                  have hA4 := H3.out.2.trans (hB4.mono H3.out.2.size)
                  have hB24 := H3.out.1.trans (hB4.mono H3.out.1.size)
                  have s4 := (HF.out _ hA4).1
                  have hc3 := sameImage_any p1 pb c1 cb (inO (s 0) 16) (by unfold room; omega) (.slice rp (s 0).ram.length rc) (.slice (some ⟨gr9, 0, none⟩) 16384 16384) (.slice sp (s 0).scr.length sc') (.slice (some ⟨gc9, 0, none⟩) 3072 3072) (s 0).ram (s 0).scr (s 0) w4 (BnS.below H2.out.1 hB24) hRI.bn (Sl.below H2.out.2.1 hB24) hRI.ram (Sl.below H2.out.2.2.1 hB24) hRI.scr
                  unfold img at hc3
                  have H4 : Hid _ := hA4
                  clear hc2 hRI hB4 hA4 hB24 s3 H3
                  refine hK.out _ _ s4 (fun hHeld => ?_)
                  clear hK K
                  try simp only [Act.put, List.getElem_toArray, List.getElem_cons_zero, List.getElem_cons_succ, List.setIfInBounds_toArray, List.set_cons_zero, List.set_cons_succ]
                  refine wpAnyH_ready (rs := [15]) (by kernel_rfl) (by simp) ?_
                  refine AllReadyH.cons rfl (fun K hK => ?_) AllReadyH.nil
                  go_simp
                  refine hc3.mono ?_
                  rintro e w5 ⟨rfl, hB5⟩
                  have hA5 := H4.out.trans (hB5.mono H4.out.size)
                  have s5 := (HF.out _ hA5).1
                  have hc4 := tones_any (mb 0) w5 ((HF.out _ hA5).2.2.a 0 (by omega)) (by omega)
                  have H5 : Hid _ := hA5
                  clear hc3 hB5 hA5 s4 H4 H2
                  refine hK.out _ _ s5 (fun hHeld => ?_)
                  clear hK K
                  try simp only [Act.put, List.getElem_toArray, List.getElem_cons_zero, List.getElem_cons_succ, List.setIfInBounds_toArray, List.set_cons_zero, List.set_cons_succ]
                  refine wpAnyH_take (i := 16) (v := ?_) rfl (by kernel_rfl) (by kernel_rfl) (by kernel_rfl) (fun c a w h => h) (Or.inl ⟨by rfl, ?_⟩) hHeld ?_
                  rotate_left
                  · (intro w hSw; (try dsimp only at hSw); go_simp; try with_reducible rfl)
                  simp only [Act.put, List.getElem_toArray, List.getElem_cons_zero, List.getElem_cons_succ, List.setIfInBounds_toArray, List.set_cons_zero, List.set_cons_succ]
                  refine wpAnyH_take (i := 17) (v := ?_) rfl (by kernel_rfl) (by kernel_rfl) (by kernel_rfl) (fun c a w h => h) (Or.inl ⟨by rfl, ?_⟩) hHeld ?_
                  rotate_left
                  · (intro w hSw; (try dsimp only at hSw); go_simp; try with_reducible rfl)
                  simp only [Act.put, List.getElem_toArray, List.getElem_cons_zero, List.getElem_cons_succ, List.setIfInBounds_toArray, List.set_cons_zero, List.set_cons_succ]
                  refine wpAnyH_take (i := 18) (v := ?_) rfl (by kernel_rfl) (by kernel_rfl) (by kernel_rfl) (fun c a w h => h) (Or.inl ⟨by rfl, ?_⟩) hHeld ?_
                  rotate_left
                  · (intro w hSw; (try dsimp only at hSw); go_simp; try with_reducible rfl)
                  simp only [Act.put, List.getElem_toArray, List.getElem_cons_zero, List.getElem_cons_succ, List.setIfInBounds_toArray, List.set_cons_zero, List.set_cons_succ]
                  refine wpAnyH_take (i := 19) (v := ?_) rfl (by kernel_rfl) (by kernel_rfl) (by kernel_rfl) (fun c a w h => h) (Or.inl ⟨by rfl, ?_⟩) hHeld ?_
                  rotate_left
                  · (intro w hSw; (try dsimp only at hSw); go_simp; try with_reducible rfl)
                  simp only [Act.put, List.getElem_toArray, List.getElem_cons_zero, List.getElem_cons_succ, List.setIfInBounds_toArray, List.set_cons_zero, List.set_cons_succ]
                  refine wpAnyH_take (i := 20) (v := ?_) rfl (by kernel_rfl) (by kernel_rfl) (by kernel_rfl) (fun c a w h => h) (Or.inl ⟨by rfl, ?_⟩) hHeld ?_
                  rotate_left
                  · (intro w hSw; (try dsimp only at hSw); go_simp; try with_reducible rfl)
                  simp only [Act.put, List.getElem_toArray, List.getElem_cons_zero, List.getElem_cons_succ, List.setIfInBounds_toArray, List.set_cons_zero, List.set_cons_succ]
                  refine wpAnyH_take (i := 21) (v := ?_) rfl (by kernel_rfl) (by kernel_rfl) (by kernel_rfl) (fun c a w h => h) (Or.inl ⟨by rfl, ?_⟩) hHeld ?_
                  rotate_left
                  · (intro w hSw; (try dsimp only at hSw); go_simp; try with_reducible rfl)
                  simp only [Act.put, List.getElem_toArray, List.getElem_cons_zero, List.getElem_cons_succ, List.setIfInBounds_toArray, List.set_cons_zero, List.set_cons_succ]
                  refine wpAnyH_take (i := 22) (v := ?_) rfl (by kernel_rfl) (by kernel_rfl) (by kernel_rfl) (fun c a w h => h) (Or.inl ⟨by rfl, ?_⟩) hHeld ?_
                  rotate_left
                  · (intro w hSw; (try dsimp only at hSw); go_simp; try with_reducible rfl)
                  simp only [Act.put, List.getElem_toArray, List.getElem_cons_zero, List.getElem_cons_succ, List.setIfInBounds_toArray, List.set_cons_zero, List.set_cons_succ]
                  refine wpAnyH_take (i := 23) (v := ?_) rfl (by kernel_rfl) (by kernel_rfl) (by kernel_rfl) (fun c a w h => h) (Or.inl ⟨by rfl, ?_⟩) hHeld ?_
                  rotate_left
                  · (intro w hSw; (try dsimp only at hSw); go_simp; try with_reducible rfl)
                  simp only [Act.put, List.getElem_toArray, List.getElem_cons_zero, List.getElem_cons_succ, List.setIfInBounds_toArray, List.set_cons_zero, List.set_cons_succ]
                  refine wpAnyH_take (i := 25) (v := ?_) rfl (by kernel_rfl) (by kernel_rfl) (by kernel_rfl) (fun c a w h => h) (Or.inl ⟨by rfl, ?_⟩) hHeld ?_
                  rotate_left
                  · (intro w hSw; (try dsimp only at hSw); go_simp; try with_reducible rfl)
                  simp only [Act.put, List.getElem_toArray, List.getElem_cons_zero, List.getElem_cons_succ, List.setIfInBounds_toArray, List.set_cons_zero, List.set_cons_succ]
                  refine wpAnyH_take (i := 26) (v := ?_) rfl (by kernel_rfl) (by kernel_rfl) (by kernel_rfl) (fun c a w h => h) (Or.inl ⟨by rfl, ?_⟩) hHeld ?_
                  rotate_left
                  · (intro w hSw; (try dsimp only at hSw); go_simp; try with_reducible rfl)
                  simp only [Act.put, List.getElem_toArray, List.getElem_cons_zero, List.getElem_cons_succ, List.setIfInBounds_toArray, List.set_cons_zero, List.set_cons_succ]
                  refine wpAnyH_take (i := 27) (v := ?_) rfl (by kernel_rfl) (by kernel_rfl) (by kernel_rfl) (fun c a w h => h) (Or.inl ⟨by rfl, ?_⟩) hHeld ?_
                  rotate_left
                  · (intro w hSw; (try dsimp only at hSw); go_simp; try with_reducible rfl)
                  simp only [Act.put, List.getElem_toArray, List.getElem_cons_zero, List.getElem_cons_succ, List.setIfInBounds_toArray, List.set_cons_zero, List.set_cons_succ]
                  refine wpAnyH_take (i := 28) (v := ?_) rfl (by kernel_rfl) (by kernel_rfl) (by kernel_rfl) (fun c a w h => h) (Or.inl ⟨by rfl, ?_⟩) hHeld ?_
                  rotate_left
                  · (intro w hSw; (try dsimp only at hSw); go_simp; try with_reducible rfl)
                  simp only [Act.put, List.getElem_toArray, List.getElem_cons_zero, List.getElem_cons_succ, List.setIfInBounds_toArray, List.set_cons_zero, List.set_cons_succ]
                  refine wpAnyH_take (i := 29) (v := ?_) rfl (by kernel_rfl) (by kernel_rfl) (by kernel_rfl) (fun c a w h => h) (Or.inl ⟨by rfl, ?_⟩) hHeld ?_
                  rotate_left
                  · (intro w hSw; (try dsimp only at hSw); go_simp; try with_reducible rfl)
                  simp only [Act.put, List.getElem_toArray, List.getElem_cons_zero, List.getElem_cons_succ, List.setIfInBounds_toArray, List.set_cons_zero, List.set_cons_succ]
                  refine wpAnyH_take (i := 30) (v := ?_) rfl (by kernel_rfl) (by kernel_rfl) (by kernel_rfl) (fun c a w h => h) (Or.inl ⟨by rfl, ?_⟩) hHeld ?_
                  rotate_left
                  · (intro w hSw; (try dsimp only at hSw); go_simp; try with_reducible rfl)
                  simp only [Act.put, List.getElem_toArray, List.getElem_cons_zero, List.getElem_cons_succ, List.setIfInBounds_toArray, List.set_cons_zero, List.set_cons_succ]
                  refine wpAnyH_take (i := 31) (v := ?_) rfl (by kernel_rfl) (by kernel_rfl) (by kernel_rfl) (fun c a w h => h) (Or.inl ⟨by rfl, ?_⟩) hHeld ?_
                  rotate_left
                  · (intro w hSw; (try dsimp only at hSw); go_simp; try with_reducible rfl)
                  simp only [Act.put, List.getElem_toArray, List.getElem_cons_zero, List.getElem_cons_succ, List.setIfInBounds_toArray, List.set_cons_zero, List.set_cons_succ]
                  refine wpAnyH_take (i := 32) (v := ?_) rfl (by kernel_rfl) (by kernel_rfl) (by kernel_rfl) (fun c a w h => h) (Or.inl ⟨by rfl, ?_⟩) hHeld ?_
                  rotate_left
                  · (intro w hSw; (try dsimp only at hSw); go_simp; try with_reducible rfl)
                  simp only [Act.put, List.getElem_toArray, List.getElem_cons_zero, List.getElem_cons_succ, List.setIfInBounds_toArray, List.set_cons_zero, List.set_cons_succ]
                  refine wpAnyH_take (i := 33) (v := ?_) rfl (by kernel_rfl) (by kernel_rfl) (by kernel_rfl) (fun c a w h => h) (Or.inl ⟨by rfl, ?_⟩) hHeld ?_
                  rotate_left
                  · (intro w hSw; (try dsimp only at hSw); go_simp; try with_reducible rfl)
                  simp only [Act.put, List.getElem_toArray, List.getElem_cons_zero, List.getElem_cons_succ, List.setIfInBounds_toArray, List.set_cons_zero, List.set_cons_succ]
                  refine wpAnyH_ready (rs := [24]) (by kernel_rfl) (by simp) ?_
                  refine AllReadyH.cons rfl (fun K hK => ?_) AllReadyH.nil
                  go_simp
                  refine hc4.mono ?_
                  rintro e w6 ⟨u6, rfl, hu, hB6⟩
                  obtain ⟨up', uc, rfl⟩ := own_form hu
                  have hA6 := H5.out.trans (hB6.mono H5.out.size)
                  have s6 := (HF.out _ hA6).1
                  have hc5 := sameTones_any _ _ (s 0).tones (by unfold room; omega) w6 hu (HF.out _ hA6).2.1
                  have H6 : Hid _ := hA6
                  clear hc4 hu hB6 hA6 s5 H5
                  refine hK.out _ _ s6 (fun hHeld => ?_)
                  clear hK K
                  try simp only [Act.put, List.getElem_toArray, List.getElem_cons_zero, List.getElem_cons_succ, List.setIfInBounds_toArray, List.set_cons_zero, List.set_cons_succ]
                  refine wpAnyH_ready (rs := [34]) (by kernel_rfl) (by simp) ?_
                  refine AllReadyH.cons rfl (fun K hK => ?_) AllReadyH.nil
                  go_simp
                  refine hc5.mono ?_
                  rintro e w7 ⟨rfl, q7, hw7⟩
                  have hA7 : Below Wd.heap.size Wd w7 := by rw [hw7]; exact H6.out.trans ⟨rfl, rfl, rfl, Nat.le_refl _, fun _ _ => rfl⟩
                  have s7 := (HF.out _ hA7).1
                  have H7 : Hid _ := hA7
                  clear hc5 hA7 s6 H6 hw7
                  refine hK.out _ _ s7 (fun hHeld => ?_)
                  clear hK K
                  try simp only [Act.put, List.getElem_toArray, List.getElem_cons_zero, List.getElem_cons_succ, List.setIfInBounds_toArray, List.set_cons_zero, List.set_cons_succ]
                  refine wpAnyH_take (i := 35) (v := ?_) rfl (by kernel_rfl) (by kernel_rfl) (by kernel_rfl) (fun c a w h => h) (Or.inl ⟨by rfl, ?_⟩) hHeld ?_
                  rotate_left
                  · (intro w hSw; (try dsimp only at hSw); go_simp; try with_reducible rfl)
                  simp only [Act.put, List.getElem_toArray, List.getElem_cons_zero, List.getElem_cons_succ, List.setIfInBounds_toArray, List.set_cons_zero, List.set_cons_succ]
                  refine wpAnyH_take (i := 36) (v := ?_) rfl (by kernel_rfl) (by kernel_rfl) (by kernel_rfl) (fun c a w h => h) (Or.inl ⟨by rfl, ?_⟩) hHeld ?_
                  rotate_left
                  · (intro w hSw; (try dsimp only at hSw); go_simp; try with_reducible rfl)
                  simp only [Act.put, List.getElem_toArray, List.getElem_cons_zero, List.getElem_cons_succ, List.setIfInBounds_toArray, List.set_cons_zero, List.set_cons_succ]
                  refine wpAnyH_done (by kernel_rfl) ?_ _
                  try simp only [Act.put, List.setIfInBounds_toArray, List.set_cons_zero, List.set_cons_succ]
                  clear hHeld s0 s7
                  go_wp2
                  go_roundw
                  case rel => exact ⟨0 + 1, by omega, by go_num, ⟨⟨cc, mb, rb, s, (HF.out _ H7.out).2.2, HG.out.2.2⟩, HG.out.2.1.trans (H7.out.mono HG.out.1)⟩⟩
                  case measure => first | (simp [intOf]; done) | (simp [intOf]; omega)
                
              · as_aux_lemma =>
                  obtain ⟨⟨cc, mb, rb, s, D0, ht⟩, hb9⟩ := HP.out
                  have D1 := D0.below ((Below.refl _ wr).drew)
                  have a1 := D1.a 1 (by omega)
                  have hwf := HasM.wf a1
                  have hfu := inO_full (s 1) hwf 16
                  have hil := inO_len (s 1) 16
                  have t1 := ht 1 (by omega)
                  obtain ⟨hw2, u0, gr0, gc0, gs0, tv, hR⟩ := D1.b 1 (by omega)
                  obtain ⟨tp, tq, etv⟩ := own_form hR.tones
                  subst etv
                  have SF : ∀ wz, Below wr.drew.heap.size wr.drew wz → (fun wz : World => wz.cell? ⟨n, 1, none⟩ = some (.pointer (some ⟨mb 1, 0, none⟩)) ∧ wz.cell? ⟨n, 3, none⟩ = some (.pointer (some ⟨rb 1, 0, none⟩)) ∧ wz.cell? ⟨rb 1, 9, none⟩ = some (.slice tp (s 1).tones.length tq)) wz ∧ TRow wz 0 (.slice tp (s 1).tones.length tq) (s 1).tones ∧ Duo wz w.heap.size n cc mb rb s s := fun wz k => by
                    have h' := hR.kept (W' := wz) fun i hi _ => k.block i hi
                    have d' := D1.below k
                    exact ⟨⟨cell_of wz n 1 _ 73 _ d'.pb rfl, cell_of wz n 3 _ 73 _ d'.pb rfl, cell_of wz (rb 1) 9 _ 80 _ h'.blk rfl⟩, h'.tones, d'⟩
                  have s0 := (SF wr.drew (Below.refl _ _)).1
                  have k1 := image_has (mb 1) wr.drew a1
                  unfold imgC at k1
                  have hBz : w.heap.size ≤ wr.drew.heap.size := Nat.le_of_lt D1.sz
                  have hb9d : Below w.heap.size w9 wr.drew := hb9.trans ((Below.refl _ wr).drew)
                  have HF : Hid _ := SF
                  have HG : Hid _ := And.intro hBz (And.intro hb9d ht)
                  clear D0 D1 a1 hR hw2 SF hb9 HP ht hBz hb9d
                  go_upto_region 28 with fail
                  refine wp_region_held_drew (S := (fun wz : World => wz.cell? ⟨n, 1, none⟩ = some (.pointer (some ⟨mb 1, 0, none⟩)) ∧ wz.cell? ⟨n, 3, none⟩ = some (.pointer (some ⟨rb 1, 0, none⟩)) ∧ wz.cell? ⟨rb 1, 9, none⟩ = some (.slice tp (s 1).tones.length tq))) (by kernel_rfl) s0 (fun hHeld => ?_)
                  generalize hWd : wr.drew = Wd at *
                  refine wpAnyH_take (i := 0) (v := ?_) rfl (by kernel_rfl) (by kernel_rfl) (by kernel_rfl) (fun c a w h => h) (Or.inl ⟨by rfl, ?_⟩) hHeld ?_
                  rotate_left
                  · (intro w hSw; (try dsimp only at hSw); go_simp; try with_reducible rfl)
                  simp only [Act.put, List.getElem_toArray, List.getElem_cons_zero, List.getElem_cons_succ, List.setIfInBounds_toArray, List.set_cons_zero, List.set_cons_succ]
                  refine wpAnyH_take (i := 1) (v := ?_) rfl (by kernel_rfl) (by kernel_rfl) (by kernel_rfl) (fun c a w h => h) (Or.inl ⟨by rfl, ?_⟩) hHeld ?_
                  rotate_left
                  · (intro w hSw; (try dsimp only at hSw); go_simp; try with_reducible rfl)
                  simp only [Act.put, List.getElem_toArray, List.getElem_cons_zero, List.getElem_cons_succ, List.setIfInBounds_toArray, List.set_cons_zero, List.set_cons_succ]
                  refine wpAnyH_take (i := 2) (v := ?_) rfl (by kernel_rfl) (by kernel_rfl) (by kernel_rfl) (fun c a w h => h) (Or.inl ⟨by rfl, ?_⟩) hHeld ?_
                  rotate_left
                  · (intro w hSw; (try dsimp only at hSw); go_simp; try with_reducible rfl)
                  simp only [Act.put, List.getElem_toArray, List.getElem_cons_zero, List.getElem_cons_succ, List.setIfInBounds_toArray, List.set_cons_zero, List.set_cons_succ]
                  refine wpAnyH_take (i := 3) (v := ?_) rfl (by kernel_rfl) (by kernel_rfl) (by kernel_rfl) (fun c a w h => h) (Or.inl ⟨by rfl, ?_⟩) hHeld ?_
                  rotate_left
                  · (intro w hSw; (try dsimp only at hSw); go_simp; try with_reducible rfl)
                  simp only [Act.put, List.getElem_toArray, List.getElem_cons_zero, List.getElem_cons_succ, List.setIfInBounds_toArray, List.set_cons_zero, List.set_cons_succ]
                  refine wpAnyH_take (i := 4) (v := ?_) rfl (by kernel_rfl) (by kernel_rfl) (by kernel_rfl) (fun c a w h => h) (Or.inl ⟨by rfl, ?_⟩) hHeld ?_
                  rotate_left
                  · (intro w hSw; (try dsimp only at hSw); go_simp; try with_reducible rfl)
                  simp only [Act.put, List.getElem_toArray, List.getElem_cons_zero, List.getElem_cons_succ, List.setIfInBounds_toArray, List.set_cons_zero, List.set_cons_succ]
                  refine wpAnyH_take (i := 5) (v := ?_) rfl (by kernel_rfl) (by kernel_rfl) (by kernel_rfl) (fun c a w h => h) (Or.inl ⟨by rfl, ?_⟩) hHeld ?_
                  rotate_left
                  · (intro w hSw; (try dsimp only at hSw); go_simp; try with_reducible rfl)
                  simp only [Act.put, List.getElem_toArray, List.getElem_cons_zero, List.getElem_cons_succ, List.setIfInBounds_toArray, List.set_cons_zero, List.set_cons_succ]
                  refine wpAnyH_take (i := 8) (v := ?_) rfl (by kernel_rfl) (by kernel_rfl) (by kernel_rfl) (fun c a w h => h) (Or.inl ⟨by rfl, ?_⟩) hHeld ?_
                  rotate_left
                  · (intro w hSw; (try dsimp only at hSw); go_simp; try with_reducible rfl)
                  simp only [Act.put, List.getElem_toArray, List.getElem_cons_zero, List.getElem_cons_succ, List.setIfInBounds_toArray, List.set_cons_zero, List.set_cons_succ]
                  refine wpAnyH_take (i := 9) (v := ?_) rfl (by kernel_rfl) (by kernel_rfl) (by kernel_rfl) (fun c a w h => h) (Or.inl ⟨by rfl, ?_⟩) hHeld ?_
                  rotate_left
                  · (intro w hSw; (try dsimp only at hSw); go_simp; try with_reducible rfl)
                  simp only [Act.put, List.getElem_toArray, List.getElem_cons_zero, List.getElem_cons_succ, List.setIfInBounds_toArray, List.set_cons_zero, List.set_cons_succ]
                  refine wpAnyH_take (i := 10) (v := ?_) rfl (by kernel_rfl) (by kernel_rfl) (by kernel_rfl) (fun c a w h => h) (Or.inl ⟨by rfl, ?_⟩) hHeld ?_
                  rotate_left
                  · (intro w hSw; (try dsimp only at hSw); go_simp; try with_reducible rfl)
                  simp only [Act.put, List.getElem_toArray, List.getElem_cons_zero, List.getElem_cons_succ, List.setIfInBounds_toArray, List.set_cons_zero, List.set_cons_succ]
                  refine wpAnyH_take (i := 11) (v := ?_) rfl (by kernel_rfl) (by kernel_rfl) (by kernel_rfl) (fun c a w h => h) (Or.inl ⟨by rfl, ?_⟩) hHeld ?_
                  rotate_left
                  · (intro w hSw; (try dsimp only at hSw); go_simp; try with_reducible rfl)
                  simp only [Act.put, List.getElem_toArray, List.getElem_cons_zero, List.getElem_cons_succ, List.setIfInBounds_toArray, List.set_cons_zero, List.set_cons_succ]
                  refine wpAnyH_take (i := 12) (v := ?_) rfl (by kernel_rfl) (by kernel_rfl) (by kernel_rfl) (fun c a w h => h) (Or.inl ⟨by rfl, ?_⟩) hHeld ?_
                  rotate_left
                  · (intro w hSw; (try dsimp only at hSw); go_simp; try with_reducible rfl)
                  simp only [Act.put, List.getElem_toArray, List.getElem_cons_zero, List.getElem_cons_succ, List.setIfInBounds_toArray, List.set_cons_zero, List.set_cons_succ]
                  refine wpAnyH_take (i := 13) (v := ?_) rfl (by kernel_rfl) (by kernel_rfl) (by kernel_rfl) (fun c a w h => h) (Or.inl ⟨by rfl, ?_⟩) hHeld ?_
                  rotate_left
                  · (intro w hSw; (try dsimp only at hSw); go_simp; try with_reducible rfl)
                  simp only [Act.put, List.getElem_toArray, List.getElem_cons_zero, List.getElem_cons_succ, List.setIfInBounds_toArray, List.set_cons_zero, List.set_cons_succ]
                  refine wpAnyH_ready (rs := [6]) (by kernel_rfl) (by simp) ?_
                  refine AllReadyH.cons rfl (fun K hK => ?_) AllReadyH.nil
                  go_simp
                  refine k1.mono ?_
                  rintro e w2 ⟨u, rv, sv, gs9, N1, N2, rfl, hIm, hB2⟩
                  obtain ⟨p1, c1, rp, rc, sp, sc', rfl, rfl, rfl, hbn, hr, hs⟩ := hIm.forms (fun t ht => by have := hfu t ht; unfold room; omega)
                  have hc1 := image_any p1 (inO (s 1) 16).length c1 rp sp (s 1).ram.length rc (s 1).scr.length sc' (s 1) w2
                  unfold img at hc1
                  have s2 := (HF.out _ hB2).1
                  have H2 : Hid _ := And.intro hbn (And.intro hr (And.intro hs hB2))
                  clear k1 hIm hbn hr hs hB2
                  refine hK.out _ _ s2 (fun hHeld => ?_)
                  clear hK K
                  try simp only [Act.put, List.getElem_toArray, List.getElem_cons_zero, List.getElem_cons_succ, List.setIfInBounds_toArray, List.set_cons_zero, List.set_cons_succ]
                  refine wpAnyH_ready (rs := [7]) (by kernel_rfl) (by simp) ?_
                  refine AllReadyH.cons rfl (fun K hK => ?_) AllReadyH.nil
                  go_simp
                  refine hc1.mono ?_
                  rintro e w3 ⟨rfl, hB3⟩
                  have hA3 := H2.out.2.2.2.trans (hB3.mono H2.out.2.2.2.size)
                  have s3 := (HF.out _ hA3).1
                  have hc2 := rimage_any (rb 1) w3 ((HF.out _ hA3).2.2.b 1 (by omega)) (by omega)
                  unfold imgC at hc2
                  have H3 : Hid _ := And.intro hB3 hA3
                  clear hc1 hB3 hA3 s2
                  refine hK.out _ _ s3 (fun hHeld => ?_)
                  clear hK K
                  try simp only [Act.put, List.getElem_toArray, List.getElem_cons_zero, List.getElem_cons_succ, List.setIfInBounds_toArray, List.set_cons_zero, List.set_cons_succ]
                  refine wpAnyH_ready (rs := [14]) (by kernel_rfl) (by simp) ?_
                  refine AllReadyH.cons rfl (fun K hK => ?_) AllReadyH.nil
                  go_simp
                  refine hc2.mono ?_
                  rintro e w4 ⟨pb, cb, gr9, gc9, rfl, hRI, hB4⟩
                  have hA4 := H3.out.2.trans (hB4.mono H3.out.2.size)
                  have hB24 := H3.out.1.trans (hB4.mono H3.out.1.size)
                  have s4 := (HF.out _ hA4).1
                  have hc3 := sameImage_any p1 pb c1 cb (inO (s 1) 16) (by unfold room; omega) (.slice rp (s 1).ram.length rc) (.slice (some ⟨gr9, 0, none⟩) 16384 16384) (.slice sp (s 1).scr.length sc') (.slice (some ⟨gc9, 0, none⟩) 3072 3072) (s 1).ram (s 1).scr (s 1) w4 (BnS.below H2.out.1 hB24) hRI.bn (Sl.below H2.out.2.1 hB24) hRI.ram (Sl.below H2.out.2.2.1 hB24) hRI.scr
                  unfold img at hc3
                  have H4 : Hid _ := hA4
                  clear hc2 hRI hB4 hA4 hB24 s3 H3
                  refine hK.out _ _ s4 (fun hHeld => ?_)
                  clear hK K
                  try simp only [Act.put, List.getElem_toArray, List.getElem_cons_zero, List.getElem_cons_succ, List.setIfInBounds_toArray, List.set_cons_zero, List.set_cons_succ]
                  refine wpAnyH_ready (rs := [15]) (by kernel_rfl) (by simp) ?_
                  refine AllReadyH.cons rfl (fun K hK => ?_) AllReadyH.nil
                  go_simp
                  refine hc3.mono ?_
                  rintro e w5 ⟨rfl, hB5⟩
                  have hA5 := H4.out.trans (hB5.mono H4.out.size)
                  have s5 := (HF.out _ hA5).1
                  have hc4 := tones_any (mb 1) w5 ((HF.out _ hA5).2.2.a 1 (by omega)) (by omega)
                  have H5 : Hid _ := hA5
                  clear hc3 hB5 hA5 s4 H4 H2
                  refine hK.out _ _ s5 (fun hHeld => ?_)
                  clear hK K
                  try simp only [Act.put, List.getElem_toArray, List.getElem_cons_zero, List.getElem_cons_succ, List.setIfInBounds_toArray, List.set_cons_zero, List.set_cons_succ]
                  refine wpAnyH_take (i := 16) (v := ?_) rfl (by kernel_rfl) (by kernel_rfl) (by kernel_rfl) (fun c a w h => h) (Or.inl ⟨by rfl, ?_⟩) hHeld ?_
                  rotate_left
                  · (intro w hSw; (try dsimp only at hSw); go_simp; try with_reducible rfl)
                  simp only [Act.put, List.getElem_toArray, List.getElem_cons_zero, List.getElem_cons_succ, List.setIfInBounds_toArray, List.set_cons_zero, List.set_cons_succ]
                  refine wpAnyH_take (i := 17) (v := ?_) rfl (by kernel_rfl) (by kernel_rfl) (by kernel_rfl) (fun c a w h => h) (Or.inl ⟨by rfl, ?_⟩) hHeld ?_
                  rotate_left
                  · (intro w hSw; (try dsimp only at hSw); go_simp; try with_reducible rfl)
                  simp only [Act.put, List.getElem_toArray, List.getElem_cons_zero, List.getElem_cons_succ, List.setIfInBounds_toArray, List.set_cons_zero, List.set_cons_succ]
                  refine wpAnyH_take (i := 18) (v := ?_) rfl (by kernel_rfl) (by kernel_rfl) (by kernel_rfl) (fun c a w h => h) (Or.inl ⟨by rfl, ?_⟩) hHeld ?_
                  rotate_left
                  · (intro w hSw; (try dsimp only at hSw); go_simp; try with_reducible rfl)
                  simp only [Act.put, List.getElem_toArray, List.getElem_cons_zero, List.getElem_cons_succ, List.setIfInBounds_toArray, List.set_cons_zero, List.set_cons_succ]
                  refine wpAnyH_take (i := 19) (v := ?_) rfl (by kernel_rfl) (by kernel_rfl) (by kernel_rfl) (fun c a w h => h) (Or.inl ⟨by rfl, ?_⟩) hHeld ?_
                  rotate_left
                  · (intro w hSw; (try dsimp only at hSw); go_simp; try with_reducible rfl)
                  simp only [Act.put, List.getElem_toArray, List.getElem_cons_zero, List.getElem_cons_succ, List.setIfInBounds_toArray, List.set_cons_zero, List.set_cons_succ]
                  refine wpAnyH_take (i := 20) (v := ?_) rfl (by kernel_rfl) (by kernel_rfl) (by kernel_rfl) (fun c a w h => h) (Or.inl ⟨by rfl, ?_⟩) hHeld ?_
                  rotate_left
                  · (intro w hSw; (try dsimp only at hSw); go_simp; try with_reducible rfl)
                  simp only [Act.put, List.getElem_toArray, List.getElem_cons_zero, List.getElem_cons_succ, List.setIfInBounds_toArray, List.set_cons_zero, List.set_cons_succ]
                  refine wpAnyH_take (i := 21) (v := ?_) rfl (by kernel_rfl) (by kernel_rfl) (by kernel_rfl) (fun c a w h => h) (Or.inl ⟨by rfl, ?_⟩) hHeld ?_
                  rotate_left
                  · (intro w hSw; (try dsimp only at hSw); go_simp; try with_reducible rfl)
                  simp only [Act.put, List.getElem_toArray, List.getElem_cons_zero, List.getElem_cons_succ, List.setIfInBounds_toArray, List.set_cons_zero, List.set_cons_succ]
                  refine wpAnyH_take (i := 22) (v := ?_) rfl (by kernel_rfl) (by kernel_rfl) (by kernel_rfl) (fun c a w h => h) (Or.inl ⟨by rfl, ?_⟩) hHeld ?_
                  rotate_left
                  · (intro w hSw; (try dsimp only at hSw); go_simp; try with_reducible rfl)
                  simp only [Act.put, List.getElem_toArray, List.getElem_cons_zero, List.getElem_cons_succ, List.setIfInBounds_toArray, List.set_cons_zero, List.set_cons_succ]
                  refine wpAnyH_take (i := 23) (v := ?_) rfl (by kernel_rfl) (by kernel_rfl) (by kernel_rfl) (fun c a w h => h) (Or.inl ⟨by rfl, ?_⟩) hHeld ?_
                  rotate_left
                  · (intro w hSw; (try dsimp only at hSw); go_simp; try with_reducible rfl)
                  simp only [Act.put, List.getElem_toArray, List.getElem_cons_zero, List.getElem_cons_succ, List.setIfInBounds_toArray, List.set_cons_zero, List.set_cons_succ]
                  refine wpAnyH_take (i := 25) (v := ?_) rfl (by kernel_rfl) (by kernel_rfl) (by kernel_rfl) (fun c a w h => h) (Or.inl ⟨by rfl, ?_⟩) hHeld ?_
                  rotate_left
                  · (intro w hSw; (try dsimp only at hSw); go_simp; try with_reducible rfl)
                  simp only [Act.put, List.getElem_toArray, List.getElem_cons_zero, List.getElem_cons_succ, List.setIfInBounds_toArray, List.set_cons_zero, List.set_cons_succ]
                  refine wpAnyH_take (i := 26) (v := ?_) rfl (by kernel_rfl) (by kernel_rfl) (by kernel_rfl) (fun c a w h => h) (Or.inl ⟨by rfl, ?_⟩) hHeld ?_
                  rotate_left
                  · (intro w hSw; (try dsimp only at hSw); go_simp; try with_reducible rfl)
                  simp only [Act.put, List.getElem_toArray, List.getElem_cons_zero, List.getElem_cons_succ, List.setIfInBounds_toArray, List.set_cons_zero, List.set_cons_succ]
                  refine wpAnyH_take (i := 27) (v := ?_) rfl (by kernel_rfl) (by kernel_rfl) (by kernel_rfl) (fun c a w h => h) (Or.inl ⟨by rfl, ?_⟩) hHeld ?_
                  rotate_left
                  · (intro w hSw; (try dsimp only at hSw); go_simp; try with_reducible rfl)
                  simp only [Act.put, List.getElem_toArray, List.getElem_cons_zero, List.getElem_cons_succ, List.setIfInBounds_toArray, List.set_cons_zero, List.set_cons_succ]
                  refine wpAnyH_take (i := 28) (v := ?_) rfl (by kernel_rfl) (by kernel_rfl) (by kernel_rfl) (fun c a w h => h) (Or.inl ⟨by rfl, ?_⟩) hHeld ?_
                  rotate_left
                  · (intro w hSw; (try dsimp only at hSw); go_simp; try with_reducible rfl)
                  simp only [Act.put, List.getElem_toArray, List.getElem_cons_zero, List.getElem_cons_succ, List.setIfInBounds_toArray, List.set_cons_zero, List.set_cons_succ]
                  refine wpAnyH_take (i := 29) (v := ?_) rfl (by kernel_rfl) (by kernel_rfl) (by kernel_rfl) (fun c a w h => h) (Or.inl ⟨by rfl, ?_⟩) hHeld ?_
                  rotate_left
                  · (intro w hSw; (try dsimp only at hSw); go_simp; try with_reducible rfl)
                  simp only [Act.put, List.getElem_toArray, List.getElem_cons_zero, List.getElem_cons_succ, List.setIfInBounds_toArray, List.set_cons_zero, List.set_cons_succ]
                  refine wpAnyH_take (i := 30) (v := ?_) rfl (by kernel_rfl) (by kernel_rfl) (by kernel_rfl) (fun c a w h => h) (Or.inl ⟨by rfl, ?_⟩) hHeld ?_
                  rotate_left
                  · (intro w hSw; (try dsimp only at hSw); go_simp; try with_reducible rfl)
                  simp only [Act.put, List.getElem_toArray, List.getElem_cons_zero, List.getElem_cons_succ, List.setIfInBounds_toArray, List.set_cons_zero, List.set_cons_succ]
                  refine wpAnyH_take (i := 31) (v := ?_) rfl (by kernel_rfl) (by kernel_rfl) (by kernel_rfl) (fun c a w h => h) (Or.inl ⟨by rfl, ?_⟩) hHeld ?_
                  rotate_left
                  · (intro w hSw; (try dsimp only at hSw); go_simp; try with_reducible rfl)
                  simp only [Act.put, List.getElem_toArray, List.getElem_cons_zero, List.getElem_cons_succ, List.setIfInBounds_toArray, List.set_cons_zero, List.set_cons_succ]
                  refine wpAnyH_take (i := 32) (v := ?_) rfl (by kernel_rfl) (by kernel_rfl) (by kernel_rfl) (fun c a w h => h) (Or.inl ⟨by rfl, ?_⟩) hHeld ?_
                  rotate_left
                  · (intro w hSw; (try dsimp only at hSw); go_simp; try with_reducible rfl)
                  simp only [Act.put, List.getElem_toArray, List.getElem_cons_zero, List.getElem_cons_succ, List.setIfInBounds_toArray, List.set_cons_zero, List.set_cons_succ]
                  refine wpAnyH_take (i := 33) (v := ?_) rfl (by kernel_rfl) (by kernel_rfl) (by kernel_rfl) (fun c a w h => h) (Or.inl ⟨by rfl, ?_⟩) hHeld ?_
                  rotate_left
                  · (intro w hSw; (try dsimp only at hSw); go_simp; try with_reducible rfl)
                  simp only [Act.put, List.getElem_toArray, List.getElem_cons_zero, List.getElem_cons_succ, List.setIfInBounds_toArray, List.set_cons_zero, List.set_cons_succ]
                  refine wpAnyH_ready (rs := [24]) (by kernel_rfl) (by simp) ?_
                  refine AllReadyH.cons rfl (fun K hK => ?_) AllReadyH.nil
                  go_simp
                  refine hc4.mono ?_
                  rintro e w6 ⟨u6, rfl, hu, hB6⟩
                  obtain ⟨up', uc, rfl⟩ := own_form hu
                  have hA6 := H5.out.trans (hB6.mono H5.out.size)
                  have s6 := (HF.out _ hA6).1
                  have hc5 := sameTones_any _ _ (s 1).tones (by unfold room; omega) w6 hu (HF.out _ hA6).2.1
                  have H6 : Hid _ := hA6
                  clear hc4 hu hB6 hA6 s5 H5
                  refine hK.out _ _ s6 (fun hHeld => ?_)
                  clear hK K
                  try simp only [Act.put, List.getElem_toArray, List.getElem_cons_zero, List.getElem_cons_succ, List.setIfInBounds_toArray, List.set_cons_zero, List.set_cons_succ]
                  refine wpAnyH_ready (rs := [34]) (by kernel_rfl) (by simp) ?_
                  refine AllReadyH.cons rfl (fun K hK => ?_) AllReadyH.nil
                  go_simp
                  refine hc5.mono ?_
                  rintro e w7 ⟨rfl, q7, hw7⟩
                  have hA7 : Below Wd.heap.size Wd w7 := by rw [hw7]; exact H6.out.trans ⟨rfl, rfl, rfl, Nat.le_refl _, fun _ _ => rfl⟩
                  have s7 := (HF.out _ hA7).1
                  have H7 : Hid _ := hA7
                  clear hc5 hA7 s6 H6 hw7
                  refine hK.out _ _ s7 (fun hHeld => ?_)
                  clear hK K
                  try simp only [Act.put, List.getElem_toArray, List.getElem_cons_zero, List.getElem_cons_succ, List.setIfInBounds_toArray, List.set_cons_zero, List.set_cons_succ]
                  refine wpAnyH_take (i := 35) (v := ?_) rfl (by kernel_rfl) (by kernel_rfl) (by kernel_rfl) (fun c a w h => h) (Or.inl ⟨by rfl, ?_⟩) hHeld ?_
                  rotate_left
                  · (intro w hSw; (try dsimp only at hSw); go_simp; try with_reducible rfl)
                  simp only [Act.put, List.getElem_toArray, List.getElem_cons_zero, List.getElem_cons_succ, List.setIfInBounds_toArray, List.set_cons_zero, List.set_cons_succ]
                  refine wpAnyH_take (i := 36) (v := ?_) rfl (by kernel_rfl) (by kernel_rfl) (by kernel_rfl) (fun c a w h => h) (Or.inl ⟨by rfl, ?_⟩) hHeld ?_
                  rotate_left
                  · (intro w hSw; (try dsimp only at hSw); go_simp; try with_reducible rfl)
                  simp only [Act.put, List.getElem_toArray, List.getElem_cons_zero, List.getElem_cons_succ, List.setIfInBounds_toArray, List.set_cons_zero, List.set_cons_succ]
                  refine wpAnyH_done (by kernel_rfl) ?_ _
                  try simp only [Act.put, List.setIfInBounds_toArray, List.set_cons_zero, List.set_cons_succ]
                  clear hHeld s0 s7
                  go_wp2
                  go_roundw
                  case rel => exact ⟨1 + 1, by omega, by go_num, ⟨⟨cc, mb, rb, s, (HF.out _ H7.out).2.2, HG.out.2.2⟩, HG.out.2.1.trans (H7.out.mono HG.out.1)⟩⟩
                  case measure => first | (simp [intOf]; done) | (simp [intOf]; omega)
                
              · go_wp2
                go_ret
                exact ⟨rfl, H9.out.2.trans HP.out.2⟩
end Go.Proofs.Ytcmaccefjlgbfaa
