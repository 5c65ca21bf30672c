import Derived.Test.YthphmeckcmhijaaDoorAgainH
import Derived.Deep.RegionHeld
/-! again: what a reader has taken up a writer lays down as just these bytes. -/
namespace Go.Proofs.YthphmeckcmhijaaDoor
open Go.RowKit
set_option linter.unusedVariables false

set_option maxHeartbeats 8000000 in
set_option maxRecDepth 100000 in
theorem again_any (v0 : Value) (b : List UInt8) (hb : b.length ≤ 1048576) (p : Option Addr) (c : Nat) (ts : List (Int × Int)) (hn : ts.length ≤ room) (w : World) (hpos : 0 < w.heap.size) (h0 : Sl w v0 b) (hs : TakesS w p ts) :
    Calls Tryd.prog 30 #[v0, .slice p ts.length c] w fun r w' => r = .returned (.bool true) ∧ Below w.heap.size w w' := by
  have hnr := newreader_any v0 b (by unfold room; omega) w h0
  obtain ⟨p0, cc0, hv0, _⟩ := h0.ex
  subst hv0
  have hcap0 : b.length ≤ cc0 := by
    rcases h0 with ⟨e, rfl⟩ | ⟨_, _, e, hc, _⟩
    · simp
    · simp only [Value.slice.injEq] at e; rw [e.2.2]; exact hc
  unfold room at hn
  go_enter Tryd.func30, Tryd.ntmps30
  go_wp2_with fail
  refine hnr.mono ?_
  rintro r w2 ⟨br, gr0, v2, rfl, h21, h22, h23, hRd2, hb2, hg2⟩
  have hz2 := hb2.size
  obtain ⟨gr, hRd, hgrl, hgrn, _⟩ := hRd2.base hg2 h23 w.heap.size hpos h21 h22 hz2
  have hbrl := hRd.lt
  have hb3 : Below w2.heap.size w2 (w2.alloc (.cells #[.slice none 0 0] 36)) := (Below.refl _ _).alloc (Nat.le_refl _) _
  have hz3 := hb3.size
  have hAG : AG w (w2.alloc (.cells #[.slice none 0 0] 36)) w2.heap.size br gr (.slice none 0 0) v2 [] b 0 :=
    ⟨hb2.trans (hb3.mono hz2), ⟨heap_alloc_any w2 _, row_nil _ _⟩, hRd.below hb3, by omega, by omega, by simp [Value.ownBlock], by simp [Value.ownBlock], hz2, h21, by omega⟩
  generalize hW3 : w2.alloc (.cells #[.slice none 0 0] 36) = W3 at *
  generalize hbw : w2.heap.size = bw at *
  have HA : Hid _ := hAG
  clear hAG hRd hRd2 hgrl hgrn hg2 h23 h22 h21 hbrl hb3 hz3 hb2 hz2 hnr
  go_wp2_with fail
  clear hW3 hbw
  go_loopw [7] (fun i wr => ∃ (k j : Nat) (vw vr : Value), k ≤ ts.length ∧ k ≤ 60 ∧ j ≤ b.length ∧ i = .int .i64 (k : Int) ∧ AG w wr bw br gr vw vr (b.take j) (b.drop j) 0) (fun i _ => ts.length - (intOf i).toNat)
  case atStart => exact ⟨0, 0, _, _, by omega, by omega, by omega, rfl, by simpa using HA.out⟩
  case round =>
    clear HA
    obtain ⟨k, j, vw, vr, hk, hk60, hj, rfl, hA⟩ := hrel
    have hjt : (b.take j).length = j := by simp; omega
    have hjd : (b.drop j).length = b.length - j := by simp
    by_cases hlt : k < ts.length ∧ k < 60
    · obtain ⟨hlt, hlt60⟩ := hlt
      have i1 : (k : Int) < ts.length := by omega
      have i2 : (k : Int) < 60 := by omega
      obtain ⟨bs, o, rfl, c0, c1, wk, wn⟩ := hs k ts[k] (by simp)
      generalize ts[k] = tt at *
      obtain ⟨tk0, tn⟩ := tt
      simp only at c0 c1 wk wn
      have hd := wdone_any w.heap.size bw vw (b.take j) (by unfold room; omega) wr hA.wr
      go_wp2_with fail
      refine hd.mono ?_
      rintro r w2 ⟨u, rfl, hu, hb2⟩
      have hA2 := hA.next hb2
      obtain ⟨pu, cu, hue⟩ := own_val hu
      rw [hjt] at hue
      subst hue
      have d0 : w2.cell? ⟨bs, o + k * 2, none⟩ = some (.int .i64 tk0) := by rw [hA2.below.cell (World.block_lt_of_cell? w _ c0)]; exact c0
      have d1 : w2.cell? ⟨bs, o + k * 2 + 1, none⟩ = some (.int .i64 tn) := by rw [hA2.below.cell (World.block_lt_of_cell? w _ c1)]; exact c1
      clear hd hu hb2 hA
      by_cases k1 : tk0 = 1
      · subst k1
        have hr := rbyte_any br gr vr (b.drop j) 0 (by decide) w2 hA2.rd
        have hle : (tk (b.drop j) 0 1).1.length ≤ 1 := tk_len (b.drop j) 0 1
        have hlt2 := numL_lt (tk (b.drop j) 0 1).1
        have hp2 : 2 ^ (8 * (tk (b.drop j) 0 1).1.length) ≤ 2 ^ (8 * 1) := Nat.pow_le_pow_right (by decide) (by omega)
        go_wp2_with fail
        refine hr.mono ?_
        rintro r w3 ⟨rfl, vr3, hd3, s3⟩
        have hA3 := hA2.rstep s3 hd3
        have hw := wbyte_any w.heap.size bw vw (by8 (numL (tk (b.drop j) 0 1).1)) (b.take j) (by unfold room; omega) w3 hA3.wr hA3.size
        have hb8 : ((by8 (numL (tk (b.drop j) 0 1).1)).toNat : Int) = (numL (tk (b.drop j) 0 1).1 : Int) := by rw [by8_nat]; omega
        rw [hb8, show [by8 (numL (tk (b.drop j) 0 1).1)] = low 1 (numL (tk (b.drop j) 0 1).1) from rfl] at hw
        clear hb8
        go_wp2_with fail
        refine hw.mono ?_
        rintro r w4 ⟨rfl, vw4, hw4, s4⟩
        have hA4' := hA3.wstep s4 hw4
        have hF : Aft b j (b.take j ++ low 1 (numL (tk (b.drop j) 0 1).1)) (tk (b.drop j) 0 1).2.1 (tk (b.drop j) 0 1).2.2 := aft_low b j hj hb 1 (by decide)
        obtain ⟨lw2, lr2, e2, vw2, vr2, hA4, hAft⟩ : ∃ lw2 lr2 e2 vw2 vr2, AG w w4 bw br gr vw2 vr2 lw2 lr2 e2 ∧ Aft b j lw2 lr2 e2 := ⟨_, _, _, _, _, hA4', hF⟩
        clear hr hA3 hd3 s3 hw hw4 s4 hA4' hF hA2 hle hlt2 hp2
        have hE := err_any br gr vr2 lr2 e2 w4 hA4.rd
        have hN := num_any (e2 : Int) w4
        rcases hAft with ⟨rfl, j2, hj2, rfl, rfl⟩ | ⟨he0, hel, rfl, x, rfl, hxl⟩
        · have HA : Hid _ := hA4
          clear hA4
          go_wp2_with fail
          refine hE.mono ?_
          rintro r w5 ⟨rfl, rfl⟩
          go_wp2_with fail
          refine hN.mono ?_
          rintro r w6 ⟨rfl, rfl⟩
          clear hE hN
          go_wp2
          go_roundw
          case rel =>
            refine ⟨k + 1, j2, _, _, ?_, ?_, hj2, ?_, HA.out⟩
            · omega
            · omega
            · go_num
          case measure => simp [intOf]; omega
        · have e20 : ((e2 : Int) != 0) = true := by simp; omega
          have hD9 := wdone_any w.heap.size bw vw2 (b.take j ++ x) (by unfold room; simp; omega) w4 hA4.wr
          go_wp2_with fail
          refine hE.mono ?_
          rintro r w5 ⟨rfl, rfl⟩
          go_wp2_with fail
          refine hN.mono ?_
          rintro r w6 ⟨rfl, rfl⟩
          clear hE hN
          go_wp2_with fail
          refine hD9.mono ?_
          rintro r w7 ⟨u7, rfl, hu7, hb7⟩
          have hA7 := hA4.next hb7
          obtain ⟨p7, c7, hu7e⟩ := own_val hu7
          have hl7 : (b.take j ++ x).length = j + x.length := by rw [List.length_append, hjt]
          rw [hl7] at hu7e
          subst hu7e
          have hs7 := (hu7.sl.take j (by rw [hl7]; omega))
          rw [List.take_left' hjt] at hs7
          have hs0 := ((h0.below hA7.below).take j hj)
          have hcap7 : j + x.length ≤ c7 := by
            rcases hu7.sl with ⟨e, e0⟩ | ⟨_, _, e, hc, _⟩
            · have := congrArg List.length e0; rw [hl7, List.length_nil] at this; omega
            · simp only [Value.slice.injEq] at e; rw [e.2.2]; rw [hl7] at hc; exact hc
          have s1 := fun W => slice_to W p7 (j + x.length) c7 j (j : Int) rfl (by omega)
          have s2 := fun W => slice_to W p0 b.length cc0 j (j : Int) rfl (by omega)
          have v1 := fun q => Sl.conv (W := w7.drewN q) hs7 (by unfold maxLen; omega)
          have v2' := fun q => Sl.conv (W := w7.drewN q) hs0 (by unfold maxLen; simp; omega)
          have qL := fun q => left_any br gr _ _ _ (w7.drewN q) ⟨hA7.rd.blk, hA7.rd.sl, hA7.rd.own, hA7.rd.len⟩
          rw [hjd] at qL
          have g1 : (j : Int) ≤ b.length := by omega
          have g2 : (j : Int) ≤ (j : Int) + x.length := by omega
          have g3 : ((j : Int) == (b.length : Int) - ((b.length - j : Nat) : Int)) = true := ieq (by omega)
          have g4 : IntKind.i64.wrap ((b.length : Int) - ((b.length - j : Nat) : Int)) = (b.length : Int) - ((b.length - j : Nat) : Int) := by simp [IntKind.wrap, IntKind.bits, IntKind.signed]; omega
          have HB : Hid _ := hA7.below
          clear hA4 hA7 hu7 hb7 hD9 hs7 hs0
          generalize b.length - j = bj at *
          go_wp2_with fail
          go_quiet ((go_at_call 24; exact Calls.quiet_of_same (qL _)))
          go_wp2
          go_ret
          exact ⟨rfl, below_drewN HB.out _⟩
      by_cases k2 : tk0 = 2
      · subst k2
        have hr := rcell_any br gr vr (b.drop j) 0 (by decide) w2 hA2.rd
        have hle : (tk (b.drop j) 0 2).1.length ≤ 2 := tk_len (b.drop j) 0 2
        have hlt2 := numL_lt (tk (b.drop j) 0 2).1
        have hp2 : 2 ^ (8 * (tk (b.drop j) 0 2).1.length) ≤ 2 ^ (8 * 2) := Nat.pow_le_pow_right (by decide) (by omega)
        go_wp2_with fail
        refine hr.mono ?_
        rintro r w3 ⟨rfl, vr3, hd3, s3⟩
        have hA3 := hA2.rstep s3 hd3
        have hw := wcell_any w.heap.size bw vw (numL (tk (b.drop j) 0 2).1) (by omega) (b.take j) (by unfold room; omega) w3 hA3.wr hA3.size
        go_wp2_with fail
        refine hw.mono ?_
        rintro r w4 ⟨rfl, vw4, hw4, s4⟩
        have hA4' := hA3.wstep s4 hw4
        have hF : Aft b j (b.take j ++ low 2 (numL (tk (b.drop j) 0 2).1)) (tk (b.drop j) 0 2).2.1 (tk (b.drop j) 0 2).2.2 := aft_low b j hj hb 2 (by decide)
        obtain ⟨lw2, lr2, e2, vw2, vr2, hA4, hAft⟩ : ∃ lw2 lr2 e2 vw2 vr2, AG w w4 bw br gr vw2 vr2 lw2 lr2 e2 ∧ Aft b j lw2 lr2 e2 := ⟨_, _, _, _, _, hA4', hF⟩
        clear hr hA3 hd3 s3 hw hw4 s4 hA4' hF hA2 hle hlt2 hp2
        have hE := err_any br gr vr2 lr2 e2 w4 hA4.rd
        have hN := num_any (e2 : Int) w4
        rcases hAft with ⟨rfl, j2, hj2, rfl, rfl⟩ | ⟨he0, hel, rfl, x, rfl, hxl⟩
        · have HA : Hid _ := hA4
          clear hA4
          go_wp2_with fail
          refine hE.mono ?_
          rintro r w5 ⟨rfl, rfl⟩
          go_wp2_with fail
          refine hN.mono ?_
          rintro r w6 ⟨rfl, rfl⟩
          clear hE hN
          go_wp2
          go_roundw
          case rel =>
            refine ⟨k + 1, j2, _, _, ?_, ?_, hj2, ?_, HA.out⟩
            · omega
            · omega
            · go_num
          case measure => simp [intOf]; omega
        · have e20 : ((e2 : Int) != 0) = true := by simp; omega
          have hD9 := wdone_any w.heap.size bw vw2 (b.take j ++ x) (by unfold room; simp; omega) w4 hA4.wr
          go_wp2_with fail
          refine hE.mono ?_
          rintro r w5 ⟨rfl, rfl⟩
          go_wp2_with fail
          refine hN.mono ?_
          rintro r w6 ⟨rfl, rfl⟩
          clear hE hN
          go_wp2_with fail
          refine hD9.mono ?_
          rintro r w7 ⟨u7, rfl, hu7, hb7⟩
          have hA7 := hA4.next hb7
          obtain ⟨p7, c7, hu7e⟩ := own_val hu7
          have hl7 : (b.take j ++ x).length = j + x.length := by rw [List.length_append, hjt]
          rw [hl7] at hu7e
          subst hu7e
          have hs7 := (hu7.sl.take j (by rw [hl7]; omega))
          rw [List.take_left' hjt] at hs7
          have hs0 := ((h0.below hA7.below).take j hj)
          have hcap7 : j + x.length ≤ c7 := by
            rcases hu7.sl with ⟨e, e0⟩ | ⟨_, _, e, hc, _⟩
            · have := congrArg List.length e0; rw [hl7, List.length_nil] at this; omega
            · simp only [Value.slice.injEq] at e; rw [e.2.2]; rw [hl7] at hc; exact hc
          have s1 := fun W => slice_to W p7 (j + x.length) c7 j (j : Int) rfl (by omega)
          have s2 := fun W => slice_to W p0 b.length cc0 j (j : Int) rfl (by omega)
          have v1 := fun q => Sl.conv (W := w7.drewN q) hs7 (by unfold maxLen; omega)
          have v2' := fun q => Sl.conv (W := w7.drewN q) hs0 (by unfold maxLen; simp; omega)
          have qL := fun q => left_any br gr _ _ _ (w7.drewN q) ⟨hA7.rd.blk, hA7.rd.sl, hA7.rd.own, hA7.rd.len⟩
          rw [hjd] at qL
          have g1 : (j : Int) ≤ b.length := by omega
          have g2 : (j : Int) ≤ (j : Int) + x.length := by omega
          have g3 : ((j : Int) == (b.length : Int) - ((b.length - j : Nat) : Int)) = true := ieq (by omega)
          have g4 : IntKind.i64.wrap ((b.length : Int) - ((b.length - j : Nat) : Int)) = (b.length : Int) - ((b.length - j : Nat) : Int) := by simp [IntKind.wrap, IntKind.bits, IntKind.signed]; omega
          have HB : Hid _ := hA7.below
          clear hA4 hA7 hu7 hb7 hD9 hs7 hs0
          generalize b.length - j = bj at *
          go_wp2_with fail
          go_quiet ((go_at_call 24; exact Calls.quiet_of_same (qL _)))
          go_wp2
          go_ret
          exact ⟨rfl, below_drewN HB.out _⟩
      by_cases k3 : tk0 = 3
      · subst k3
        have hr := rword_any br gr vr (b.drop j) 0 (by decide) w2 hA2.rd
        have hle : (tk (b.drop j) 0 4).1.length ≤ 4 := tk_len (b.drop j) 0 4
        have hlt2 := numL_lt (tk (b.drop j) 0 4).1
        have hp2 : 2 ^ (8 * (tk (b.drop j) 0 4).1.length) ≤ 2 ^ (8 * 4) := Nat.pow_le_pow_right (by decide) (by omega)
        go_wp2_with fail
        refine hr.mono ?_
        rintro r w3 ⟨rfl, vr3, hd3, s3⟩
        have hA3 := hA2.rstep s3 hd3
        have hw := wword_any w.heap.size bw vw (numL (tk (b.drop j) 0 4).1) (by omega) (b.take j) (by unfold room; omega) w3 hA3.wr hA3.size
        go_wp2_with fail
        refine hw.mono ?_
        rintro r w4 ⟨rfl, vw4, hw4, s4⟩
        have hA4' := hA3.wstep s4 hw4
        have hF : Aft b j (b.take j ++ low 4 (numL (tk (b.drop j) 0 4).1)) (tk (b.drop j) 0 4).2.1 (tk (b.drop j) 0 4).2.2 := aft_low b j hj hb 4 (by decide)
        obtain ⟨lw2, lr2, e2, vw2, vr2, hA4, hAft⟩ : ∃ lw2 lr2 e2 vw2 vr2, AG w w4 bw br gr vw2 vr2 lw2 lr2 e2 ∧ Aft b j lw2 lr2 e2 := ⟨_, _, _, _, _, hA4', hF⟩
        clear hr hA3 hd3 s3 hw hw4 s4 hA4' hF hA2 hle hlt2 hp2
        have hE := err_any br gr vr2 lr2 e2 w4 hA4.rd
        have hN := num_any (e2 : Int) w4
        rcases hAft with ⟨rfl, j2, hj2, rfl, rfl⟩ | ⟨he0, hel, rfl, x, rfl, hxl⟩
        · have HA : Hid _ := hA4
          clear hA4
          go_wp2_with fail
          refine hE.mono ?_
          rintro r w5 ⟨rfl, rfl⟩
          go_wp2_with fail
          refine hN.mono ?_
          rintro r w6 ⟨rfl, rfl⟩
          clear hE hN
          go_wp2
          go_roundw
          case rel =>
            refine ⟨k + 1, j2, _, _, ?_, ?_, hj2, ?_, HA.out⟩
            · omega
            · omega
            · go_num
          case measure => simp [intOf]; omega
        · have e20 : ((e2 : Int) != 0) = true := by simp; omega
          have hD9 := wdone_any w.heap.size bw vw2 (b.take j ++ x) (by unfold room; simp; omega) w4 hA4.wr
          go_wp2_with fail
          refine hE.mono ?_
          rintro r w5 ⟨rfl, rfl⟩
          go_wp2_with fail
          refine hN.mono ?_
          rintro r w6 ⟨rfl, rfl⟩
          clear hE hN
          go_wp2_with fail
          refine hD9.mono ?_
          rintro r w7 ⟨u7, rfl, hu7, hb7⟩
          have hA7 := hA4.next hb7
          obtain ⟨p7, c7, hu7e⟩ := own_val hu7
          have hl7 : (b.take j ++ x).length = j + x.length := by rw [List.length_append, hjt]
          rw [hl7] at hu7e
          subst hu7e
          have hs7 := (hu7.sl.take j (by rw [hl7]; omega))
          rw [List.take_left' hjt] at hs7
          have hs0 := ((h0.below hA7.below).take j hj)
          have hcap7 : j + x.length ≤ c7 := by
            rcases hu7.sl with ⟨e, e0⟩ | ⟨_, _, e, hc, _⟩
            · have := congrArg List.length e0; rw [hl7, List.length_nil] at this; omega
            · simp only [Value.slice.injEq] at e; rw [e.2.2]; rw [hl7] at hc; exact hc
          have s1 := fun W => slice_to W p7 (j + x.length) c7 j (j : Int) rfl (by omega)
          have s2 := fun W => slice_to W p0 b.length cc0 j (j : Int) rfl (by omega)
          have v1 := fun q => Sl.conv (W := w7.drewN q) hs7 (by unfold maxLen; omega)
          have v2' := fun q => Sl.conv (W := w7.drewN q) hs0 (by unfold maxLen; simp; omega)
          have qL := fun q => left_any br gr _ _ _ (w7.drewN q) ⟨hA7.rd.blk, hA7.rd.sl, hA7.rd.own, hA7.rd.len⟩
          rw [hjd] at qL
          have g1 : (j : Int) ≤ b.length := by omega
          have g2 : (j : Int) ≤ (j : Int) + x.length := by omega
          have g3 : ((j : Int) == (b.length : Int) - ((b.length - j : Nat) : Int)) = true := ieq (by omega)
          have g4 : IntKind.i64.wrap ((b.length : Int) - ((b.length - j : Nat) : Int)) = (b.length : Int) - ((b.length - j : Nat) : Int) := by simp [IntKind.wrap, IntKind.bits, IntKind.signed]; omega
          have HB : Hid _ := hA7.below
          clear hA4 hA7 hu7 hb7 hD9 hs7 hs0
          generalize b.length - j = bj at *
          go_wp2_with fail
          go_quiet ((go_at_call 24; exact Calls.quiet_of_same (qL _)))
          go_wp2
          go_ret
          exact ⟨rfl, below_drewN HB.out _⟩
      by_cases k4 : tk0 = 4
      · subst k4
        have hr := rbytes_any br gr vr (b.drop j) 0 (by decide) tn w2 hA2.rd
        have hle := tk_le (b.drop j) 0 tn
        go_wp2_with fail
        refine hr.mono ?_
        rintro r w3 ⟨u3, vr3, rfl, hu3, hd3, s3⟩
        have hA3 := hA2.rstep s3 hd3
        have hw := wbytes_any w.heap.size bw vw u3 (b.take j) (tk (b.drop j) 0 tn).1 (by unfold room; omega) w3 hA3.wr hu3.sl hA3.size
        go_wp2_with fail
        refine hw.mono ?_
        rintro r w4 ⟨rfl, vw4, hw4, s4⟩
        have hA4' := hA3.wstep s4 hw4
        have hF : Aft b j (b.take j ++ (tk (b.drop j) 0 tn).1) (tk (b.drop j) 0 tn).2.1 (tk (b.drop j) 0 tn).2.2 := aft_tk b j hj hb tn _ (fun _ => rfl) (fun _ => ⟨_, rfl, by omega⟩)
        obtain ⟨lw2, lr2, e2, vw2, vr2, hA4, hAft⟩ : ∃ lw2 lr2 e2 vw2 vr2, AG w w4 bw br gr vw2 vr2 lw2 lr2 e2 ∧ Aft b j lw2 lr2 e2 := ⟨_, _, _, _, _, hA4', hF⟩
        clear hr hA3 hu3 hd3 s3 hw hw4 s4 hA4' hF hA2 hle
        have hE := err_any br gr vr2 lr2 e2 w4 hA4.rd
        have hN := num_any (e2 : Int) w4
        rcases hAft with ⟨rfl, j2, hj2, rfl, rfl⟩ | ⟨he0, hel, rfl, x, rfl, hxl⟩
        · have HA : Hid _ := hA4
          clear hA4
          go_wp2_with fail
          refine hE.mono ?_
          rintro r w5 ⟨rfl, rfl⟩
          go_wp2_with fail
          refine hN.mono ?_
          rintro r w6 ⟨rfl, rfl⟩
          clear hE hN
          go_wp2
          go_roundw
          case rel =>
            refine ⟨k + 1, j2, _, _, ?_, ?_, hj2, ?_, HA.out⟩
            · omega
            · omega
            · go_num
          case measure => simp [intOf]; omega
        · have e20 : ((e2 : Int) != 0) = true := by simp; omega
          have hD9 := wdone_any w.heap.size bw vw2 (b.take j ++ x) (by unfold room; simp; omega) w4 hA4.wr
          go_wp2_with fail
          refine hE.mono ?_
          rintro r w5 ⟨rfl, rfl⟩
          go_wp2_with fail
          refine hN.mono ?_
          rintro r w6 ⟨rfl, rfl⟩
          clear hE hN
          go_wp2_with fail
          refine hD9.mono ?_
          rintro r w7 ⟨u7, rfl, hu7, hb7⟩
          have hA7 := hA4.next hb7
          obtain ⟨p7, c7, hu7e⟩ := own_val hu7
          have hl7 : (b.take j ++ x).length = j + x.length := by rw [List.length_append, hjt]
          rw [hl7] at hu7e
          subst hu7e
          have hs7 := (hu7.sl.take j (by rw [hl7]; omega))
          rw [List.take_left' hjt] at hs7
          have hs0 := ((h0.below hA7.below).take j hj)
          have hcap7 : j + x.length ≤ c7 := by
            rcases hu7.sl with ⟨e, e0⟩ | ⟨_, _, e, hc, _⟩
            · have := congrArg List.length e0; rw [hl7, List.length_nil] at this; omega
            · simp only [Value.slice.injEq] at e; rw [e.2.2]; rw [hl7] at hc; exact hc
          have s1 := fun W => slice_to W p7 (j + x.length) c7 j (j : Int) rfl (by omega)
          have s2 := fun W => slice_to W p0 b.length cc0 j (j : Int) rfl (by omega)
          have v1 := fun q => Sl.conv (W := w7.drewN q) hs7 (by unfold maxLen; omega)
          have v2' := fun q => Sl.conv (W := w7.drewN q) hs0 (by unfold maxLen; simp; omega)
          have qL := fun q => left_any br gr _ _ _ (w7.drewN q) ⟨hA7.rd.blk, hA7.rd.sl, hA7.rd.own, hA7.rd.len⟩
          rw [hjd] at qL
          have g1 : (j : Int) ≤ b.length := by omega
          have g2 : (j : Int) ≤ (j : Int) + x.length := by omega
          have g3 : ((j : Int) == (b.length : Int) - ((b.length - j : Nat) : Int)) = true := ieq (by omega)
          have g4 : IntKind.i64.wrap ((b.length : Int) - ((b.length - j : Nat) : Int)) = (b.length : Int) - ((b.length - j : Nat) : Int) := by simp [IntKind.wrap, IntKind.bits, IntKind.signed]; omega
          have HB : Hid _ := hA7.below
          clear hA4 hA7 hu7 hb7 hD9 hs7 hs0
          generalize b.length - j = bj at *
          go_wp2_with fail
          go_quiet ((go_at_call 24; exact Calls.quiet_of_same (qL _)))
          go_wp2
          go_ret
          exact ⟨rfl, below_drewN HB.out _⟩
      by_cases k5 : tk0 = 5
      · subst k5
        have hr := rnumber_any br gr vr (b.drop j) 0 (by decide) w2 hA2.rd
        have hx5 : (nr (b.drop j) 0).1 < 4294967296 := by rw [nr_ok]; exact (nmA_err 5 0 0 (b.drop j)).2
        go_wp2_with fail
        refine hr.mono ?_
        rintro r w3 ⟨rfl, vr3, hd3, s3⟩
        have hA3 := hA2.rstep s3 hd3
        have hw := wnumber_any w.heap.size bw vw ((nr (b.drop j) 0).1 : Int) (by simp [Lit.wf, IntKind.min, IntKind.max, IntKind.bits, IntKind.signed]; omega) (b.take j) (by unfold room; omega) w3 hA3.wr hA3.size
        rw [show ((((nr (b.drop j) 0).1 : Nat) : Int) % 4294967296).toNat = (nr (b.drop j) 0).1 by omega] at hw
        go_wp2_with fail
        refine hw.mono ?_
        rintro r w4 ⟨rfl, vw4, hw4, s4⟩
        have hA4' := hA3.wstep s4 hw4
        have hF := aft_nr b j hj
        obtain ⟨lw2, lr2, e2, vw2, vr2, hA4, hAft⟩ : ∃ lw2 lr2 e2 vw2 vr2, AG w w4 bw br gr vw2 vr2 lw2 lr2 e2 ∧ Aft b j lw2 lr2 e2 := ⟨_, _, _, _, _, hA4', hF⟩
        clear hr hA3 hd3 s3 hw hw4 s4 hA4' hF hA2 hx5
        have hE := err_any br gr vr2 lr2 e2 w4 hA4.rd
        have hN := num_any (e2 : Int) w4
        rcases hAft with ⟨rfl, j2, hj2, rfl, rfl⟩ | ⟨he0, hel, rfl, x, rfl, hxl⟩
        · have HA : Hid _ := hA4
          clear hA4
          go_wp2_with fail
          refine hE.mono ?_
          rintro r w5 ⟨rfl, rfl⟩
          go_wp2_with fail
          refine hN.mono ?_
          rintro r w6 ⟨rfl, rfl⟩
          clear hE hN
          go_wp2
          go_roundw
          case rel =>
            refine ⟨k + 1, j2, _, _, ?_, ?_, hj2, ?_, HA.out⟩
            · omega
            · omega
            · go_num
          case measure => simp [intOf]; omega
        · have e20 : ((e2 : Int) != 0) = true := by simp; omega
          have hD9 := wdone_any w.heap.size bw vw2 (b.take j ++ x) (by unfold room; simp; omega) w4 hA4.wr
          go_wp2_with fail
          refine hE.mono ?_
          rintro r w5 ⟨rfl, rfl⟩
          go_wp2_with fail
          refine hN.mono ?_
          rintro r w6 ⟨rfl, rfl⟩
          clear hE hN
          go_wp2_with fail
          refine hD9.mono ?_
          rintro r w7 ⟨u7, rfl, hu7, hb7⟩
          have hA7 := hA4.next hb7
          obtain ⟨p7, c7, hu7e⟩ := own_val hu7
          have hl7 : (b.take j ++ x).length = j + x.length := by rw [List.length_append, hjt]
          rw [hl7] at hu7e
          subst hu7e
          have hs7 := (hu7.sl.take j (by rw [hl7]; omega))
          rw [List.take_left' hjt] at hs7
          have hs0 := ((h0.below hA7.below).take j hj)
          have hcap7 : j + x.length ≤ c7 := by
            rcases hu7.sl with ⟨e, e0⟩ | ⟨_, _, e, hc, _⟩
            · have := congrArg List.length e0; rw [hl7, List.length_nil] at this; omega
            · simp only [Value.slice.injEq] at e; rw [e.2.2]; rw [hl7] at hc; exact hc
          have s1 := fun W => slice_to W p7 (j + x.length) c7 j (j : Int) rfl (by omega)
          have s2 := fun W => slice_to W p0 b.length cc0 j (j : Int) rfl (by omega)
          have v1 := fun q => Sl.conv (W := w7.drewN q) hs7 (by unfold maxLen; omega)
          have v2' := fun q => Sl.conv (W := w7.drewN q) hs0 (by unfold maxLen; simp; omega)
          have qL := fun q => left_any br gr _ _ _ (w7.drewN q) ⟨hA7.rd.blk, hA7.rd.sl, hA7.rd.own, hA7.rd.len⟩
          rw [hjd] at qL
          have g1 : (j : Int) ≤ b.length := by omega
          have g2 : (j : Int) ≤ (j : Int) + x.length := by omega
          have g3 : ((j : Int) == (b.length : Int) - ((b.length - j : Nat) : Int)) = true := ieq (by omega)
          have g4 : IntKind.i64.wrap ((b.length : Int) - ((b.length - j : Nat) : Int)) = (b.length : Int) - ((b.length - j : Nat) : Int) := by simp [IntKind.wrap, IntKind.bits, IntKind.signed]; omega
          have HB : Hid _ := hA7.below
          clear hA4 hA7 hu7 hb7 hD9 hs7 hs0
          generalize b.length - j = bj at *
          go_wp2_with fail
          go_quiet ((go_at_call 24; exact Calls.quiet_of_same (qL _)))
          go_wp2
          go_ret
          exact ⟨rfl, below_drewN HB.out _⟩
      · have j1 : (tk0 == 1) = false := by simp [k1]
        have j2' : (tk0 == 2) = false := by simp [k2]
        have j3 : (tk0 == 3) = false := by simp [k3]
        have j4 : (tk0 == 4) = false := by simp [k4]
        have j5 : (tk0 == 5) = false := by simp [k5]
        have hE := err_any br gr vr (b.drop j) 0 w2 hA2.rd
        have hN := num_any 0 w2
        have HA : Hid _ := hA2
        clear hA2
        go_wp2_with fail
        refine hE.mono ?_
        rintro r w5 ⟨rfl, rfl⟩
        go_wp2_with fail
        refine hN.mono ?_
        rintro r w6 ⟨rfl, rfl⟩
        clear hE hN
        go_wp2
        go_roundw
        case rel =>
          refine ⟨k + 1, j, _, _, ?_, ?_, hj, ?_, HA.out⟩
          · omega
          · omega
          · go_num
        case measure => simp [intOf]; omega
    · by_cases q1 : (k : Int) < ts.length
      · have q2 : decide ((k : Int) < 60) = false := by simp; omega
        have hLl := left_any br gr vr (b.drop j) 0 wr hA.rd
        rw [hjd] at hLl
        have hbj : (b.length : Int) - ((b.length - j : Nat) : Int) = (j : Int) := by omega
        have hs0 := ((h0.below hA.below).take j hj)
        have s2 := fun W => slice_to W p0 b.length cc0 j (j : Int) rfl (by omega)
        have hml : (b.take j).length ≤ maxLen := by unfold maxLen; omega
        have hdD := wdone_any w.heap.size bw vw (b.take j) (by unfold room; omega) wr.drew ⟨hA.wr.blk, hA.wr.row⟩
        have vb0 := Sl.conv (W := wr.drew) hs0 hml
        have g1 : (0 : Int) ≤ (j : Int) := by omega
        have g2 : (j : Int) ≤ b.length := by omega
        have hzA := hA.size
        have HB : Hid _ := hA.below
        have HS : Hid (Sl wr (.slice p0 j cc0) (b.take j)) := hs0
        have HZ : Hid _ := hzA
        have HML : Hid _ := hml
        clear hA hs0 hzA hml
        go_wp2_with fail
        refine hLl.mono ?_
        rintro r w2 ⟨rfl, rfl⟩
        clear hLl
        go_wp2_with fail
        clear hs h0 hn hpos hcap0 hj hjt hjd hk hk60 hb hbj hlt q1 q2
        generalize b.take j = T at *
        generalize b.length - j = bj at *
        generalize b.length = nb at *
        go_region_held (fun w' => (convert 22 9 (.slice p0 j cc0)).run Tryd.prog w' = .ok (.string ⟨T.toArray⟩) w') (first | exact vb0 | exact cvb | assumption) (first | (go_at_call 15; refine hdD.mono ?_; rintro e w7 ⟨u, rfl, hu, hb7⟩; have cvu := hu.sl.conv HML.out; have cvb := (Sl.below (W := w2.drew) HS.out hb7).conv HML.out))
        all_goals go_wp2
        all_goals go_ret
        all_goals exact ⟨rfl, HB.out.trans (Below.mono (b_drew hb7) HZ.out)⟩
      · have q2 : ¬ ((k : Int) < ts.length) := q1
        have hLl := left_any br gr vr (b.drop j) 0 wr hA.rd
        rw [hjd] at hLl
        have hbj : (b.length : Int) - ((b.length - j : Nat) : Int) = (j : Int) := by omega
        have hs0 := ((h0.below hA.below).take j hj)
        have s2 := fun W => slice_to W p0 b.length cc0 j (j : Int) rfl (by omega)
        have hml : (b.take j).length ≤ maxLen := by unfold maxLen; omega
        have hdD := wdone_any w.heap.size bw vw (b.take j) (by unfold room; omega) wr.drew ⟨hA.wr.blk, hA.wr.row⟩
        have vb0 := Sl.conv (W := wr.drew) hs0 hml
        have g1 : (0 : Int) ≤ (j : Int) := by omega
        have g2 : (j : Int) ≤ b.length := by omega
        have hzA := hA.size
        have HB : Hid _ := hA.below
        have HS : Hid (Sl wr (.slice p0 j cc0) (b.take j)) := hs0
        have HZ : Hid _ := hzA
        have HML : Hid _ := hml
        clear hA hs0 hzA hml
        go_wp2_with fail
        refine hLl.mono ?_
        rintro r w2 ⟨rfl, rfl⟩
        clear hLl
        go_wp2_with fail
        clear hs h0 hn hpos hcap0 hj hjt hjd hk hk60 hb hbj hlt q1 q2
        generalize b.take j = T at *
        generalize b.length - j = bj at *
        generalize b.length = nb at *
        go_region_held (fun w' => (convert 22 9 (.slice p0 j cc0)).run Tryd.prog w' = .ok (.string ⟨T.toArray⟩) w') (first | exact vb0 | exact cvb | assumption) (first | (go_at_call 15; refine hdD.mono ?_; rintro e w7 ⟨u, rfl, hu, hb7⟩; have cvu := hu.sl.conv HML.out; have cvb := (Sl.below (W := w2.drew) HS.out hb7).conv HML.out))
        all_goals go_wp2
        all_goals go_ret
        all_goals exact ⟨rfl, HB.out.trans (Below.mono (b_drew hb7) HZ.out)⟩
end Go.Proofs.YthphmeckcmhijaaDoor
