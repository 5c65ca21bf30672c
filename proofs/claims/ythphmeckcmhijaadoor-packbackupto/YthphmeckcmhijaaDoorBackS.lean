import Derived.Test.YthphmeckcmhijaaDoorAgainH
import Derived.Test.YthphmeckcmhijaaDoorScripts
/-! PackBack's walk. -/
namespace Go.Proofs.YthphmeckcmhijaaDoor
open Go.RowKit
set_option linter.unusedVariables false

set_option maxHeartbeats 8000000 in
set_option maxRecDepth 100000 in
theorem back_walkS (p : Option Addr) (c : Nat) (ps : List (Int × Int × List UInt8)) (hn : ps.length ≤ 1048576) (hcap : ps.length ≤ 60) (v0 : Value) (b : List UInt8) (hb : b.length ≤ 1048576) (p2 : Option Addr) (c2 : Nat) (ts : List (Int × Int)) (hts : ts.length ≤ room) (w : World) (h : PutsS w p ps) (h0 : Sl w v0 b) (hT : Tab w)
    (hag0 : ∀ w1 : World, Below w.heap.size w w1 → Calls Tryd.prog 30 #[v0, .slice p2 ts.length c2] w1 fun r w' => r = .returned (.bool true) ∧ Below w1.heap.size w1 w') :
    Calls Tryd.prog 7 #[.slice p ps.length c, v0, .slice p2 ts.length c2] w fun r w' => r = .returned (.bool true) ∧ Below w.heap.size w w' := by
  have hpos := hT.pos
  have hb1 : Below w.heap.size w (w.alloc (.cells #[.slice none 0 0] 36)) := (Below.refl _ _).alloc (Nat.le_refl _) _
  have hw1 : Wr (w.alloc (.cells #[.slice none 0 0] 36)) w.heap.size w.heap.size (.slice none 0 0) [] := ⟨heap_alloc_new w _, row_nil _ _⟩
  have hL1 : LSt w _ w.heap.size (.slice none 0 0) [] := ⟨hb1, hw1, Nat.le_refl _⟩
  obtain ⟨p0, cc0, hv0, _⟩ := h0.ex
  subst hv0
  have HAG : Hid _ := hag0
  clear hag0
  clear hb1 hw1
  have hm : ∃ m, m = ps.length := ⟨_, rfl⟩
  obtain ⟨m, hm⟩ := hm
  have hm1 : m ≤ ps.length := by omega
  have hm2 : m ≤ 60 := by omega
  have HM : Hid _ := hm
  clear hm
  go_enter Tryd.func7, Tryd.ntmps7
  go_wp2_with fail
  go_loopw [8] (fun i wr => ∃ (k : Nat) (v : Value), k ≤ m ∧ i = .int .i64 (k : Int) ∧ LSt w wr w.heap.size v (layAll (ps.take k)) ∧ (layAll (ps.take k)).length ≤ k * 1048700) (fun i _ => m - (intOf i).toNat)
  case atStart => exact ⟨0, _, by omega, rfl, by simpa [layAll] using hL1, by simp [layAll]⟩
  case round =>
    clear hL1
    obtain ⟨k, v, hk, rfl, hL, hll⟩ := hrel
    by_cases hlt : k < m
    · have i1 : (k : Int) < ps.length := by omega
      have i2 : (k : Int) < 60 := by omega
      obtain ⟨bs, o, vB, rfl, c0, c1, c2', hsB, hmB, wk, wn⟩ := h k ps[k] (by simp)
      have hstep := layAll_take ps k (by omega)
      generalize hpk : ps[k] = t at *
      obtain ⟨tk0, tn, tm⟩ := t
      simp only at c0 c1 c2' hsB hmB wk wn hstep
      have hcl : ∀ {a : Addr} {x : Value}, w.cell? a = some x → wr.cell? a = some x := fun {a x} e => by rw [hL.below.cell (World.block_lt_of_cell? w a e)]; exact e
      have d0 := hcl c0
      have d1 := hcl c1
      have d2 := hcl c2'
      have hlay := lay_any w wr w.heap.size v (layAll (ps.take k)) tm tk0 tn wn vB hsB (by unfold room; omega) hL
      have hlo := lay_len0 tk0 tn tm
      obtain ⟨pB, cB, hvB, _⟩ := hsB.ex
      subst hvB
      have hl2 : (layAll (ps.take (k + 1))).length ≤ (k + 1) * 1048700 := by rw [hstep, List.length_append]; omega
      rw [← hstep] at hlay
      clear hcl hstep
      go_wp2_with fail
      refine hlay.mono ?_
      rintro r w2 ⟨u, v', rfl, hu, hL2, hs2⟩
      have HL2 : Hid _ := hL2
      clear hlay hs2 hL hL2 hu
      go_wp2
      go_roundw
      case rel =>
        refine ⟨k + 1, v', ?_, ?_, HL2.out, hl2⟩
        · omega
        · go_num
      case measure => simp [intOf]; omega
    · obtain rfl : k = m := by omega
      have hmm := HM.out
      have q1 : ¬ ((k : Int) < ps.length) := by omega
      clear hmm
      have hd := wdone_any w.heap.size w.heap.size v (layAll (ps.take k)) (by unfold room; omega) wr hL.wr
      go_wp2_with fail
      refine hd.mono ?_
      rintro r w2 ⟨u, rfl, hu, hb2⟩
      have hLb := hL.below.trans (hb2.mono hL.size)
      have hnr := newreader_any u (layAll (ps.take k)) (by unfold room; omega) w2 hu.sl
      have hz2 : w.heap.size ≤ w2.heap.size := hLb.size
      clear hd hu hb2 hL
      go_wp2_with fail
      refine hnr.mono ?_
      rintro r w3 ⟨br, gr0, v3, rfl, h31, h32, h33, hRd3, hb3, hg3⟩
      have hz3 := hb3.size
      obtain ⟨gr, hRd, hgrl, hgrn, _⟩ := hRd3.base hg3 h33 w.heap.size hpos (by omega) (by omega) (by omega)
      have hB3 := hLb.trans (hb3.mono hz2)
      have hbrw : w.heap.size ≤ br := by omega
      have hfull : (ps.take k).drop 0 = ps.take k := rfl
      have HR : Hid _ := hRd
      have HB : Hid _ := hB3
      clear hnr hRd hRd3 hg3 h33 h32 h31 hb3 hLb hB3 hz3
      clear q1
      go_wp2_with fail
      go_loopw [10] (fun i wr => ∃ (a : Nat) (v : Value), a ≤ k ∧ i = .int .i64 (a : Int) ∧ Below w.heap.size w wr ∧ Rd wr br gr v (layAll ((ps.take k).drop a)) 0 ∧ gr < wr.heap.size) (fun i _ => k - (intOf i).toNat)
      case atStart => exact ⟨0, _, by omega, rfl, HB.out, HR.out, hgrl⟩
      case round =>
        clear HR HB hfull
        obtain ⟨a, v, ha, rfl, hB, hR, hgl⟩ := hrel
        by_cases hlt2 : a < k
        · have i1 : (a : Int) < ps.length := by omega
          have i2 : (a : Int) < 60 := by omega
          obtain ⟨bs, o, vB, rfl, c0, c1, c2', hsB, hmB, wk, wn⟩ := h a ps[a] (by simp)
          have hstep := layAll_drop (ps.take k) a (by simp; omega)
          rw [List.getElem_take] at hstep
          generalize hpk : ps[a] = t at *
          obtain ⟨tk0, tn, tm⟩ := t
          simp only at c0 c1 c2' hsB hmB wk wn hstep
          have hcl : ∀ {x : Addr} {y : Value}, w.cell? x = some y → wr.cell? x = some y := fun {x y} e => by rw [hB.cell (World.block_lt_of_cell? w x e)]; exact e
          have d0 := hcl c0
          have d1 := hcl c1
          have d2 := hcl c2'
          obtain ⟨pB, cB, hvB, _⟩ := hsB.ex
          subst hvB
          clear hcl
          rw [hstep] at hR
          generalize hrest : layAll ((ps.take k).drop (a + 1)) = rest at *
          have hal : Below wr.heap.size wr (wr.alloc (.cells #[.int .i64 tk0, .int .i64 tn, .slice pB tm.length cB] 39)) := (Below.refl _ _).alloc (Nat.le_refl _) _
          have hcl2 : ∀ j, (wr.alloc (.cells #[.int .i64 tk0, .int .i64 tn, .slice pB tm.length cB] 39)).cell? ⟨wr.heap.size, j, none⟩ = (#[.int .i64 tk0, .int .i64 tn, .slice pB tm.length cB] : Array Value)[j]? := fun j => cell_of_any _ _ j _ _ _ (heap_alloc_any wr _)
          have hzw : w.heap.size ≤ wr.heap.size := hB.size
          have hbrl := hR.lt
          have hR1 := hR.below hal
          have hB1 := hB.trans (hal.mono hzw)
          have hz1 := hal.size
          have hwlt : wr.heap.size < (wr.alloc (.cells #[.int .i64 tk0, .int .i64 tn, .slice pB tm.length cB] 39)).heap.size := by simp
          generalize hbp : wr.heap.size = bp at *
          generalize hW1 : wr.alloc (.cells #[.int .i64 tk0, .int .i64 tn, .slice pB tm.length cB] 39) = W1 at *
          have x0 : W1.cell? ⟨bp, 0, none⟩ = some (.int .i64 tk0) := hcl2 0
          have y1 : W1.drew.cell? ⟨bp, 1, none⟩ = some (.int .i64 tn) := hcl2 1
          have y2 : W1.drew.cell? ⟨bp, 2, none⟩ = some (.slice pB tm.length cB) := hcl2 2
          have hRd : Rd W1.drew br gr v (layOf tk0 tn tm ++ rest) 0 := ⟨hR1.blk, hR1.sl, hR1.own, hR1.len⟩
          have hBd : Below w.heap.size w W1.drew := hB1.trans ⟨rfl, rfl, rfl, Nat.le_refl _, fun _ _ => rfl⟩
          have hzd : w.heap.size ≤ W1.drew.heap.size := hBd.size
          have hnw : -9223372036854775808 ≤ tn ∧ tn ≤ 9223372036854775807 := by
            have := wn
            simp [Lit.wf, IntKind.min, IntKind.max, IntKind.bits, IntKind.signed] at this
            omega
          have hsd := hsB.below hBd
          have hw8 : IntKind.u8.wrap tn = tn % 256 := by simp [IntKind.wrap, IntKind.bits, IntKind.signed]
          have hw16 : IntKind.u16.wrap tn = tn % 65536 := by simp [IntKind.wrap, IntKind.bits, IntKind.signed]
          have hw32 : IntKind.u32.wrap tn = tn % 4294967296 := by simp [IntKind.wrap, IntKind.bits, IntKind.signed]
          have hw64 : IntKind.i64.wrap (tn % 4294967296) = tn % 4294967296 := by simp [IntKind.wrap, IntKind.bits, IntKind.signed]; omega
          have hkeep : ∀ {w3 : World} (j : Nat), RStep br W1.drew w3 → w3.cell? ⟨bp, j, none⟩ = W1.drew.cell? ⟨bp, j, none⟩ := fun {w3} j s3 => World.cell?_of_block (a := ⟨bp, j, none⟩) (s3.block bp hwlt (by omega))
          have HK : Hid _ := @hkeep
          have HBd : Hid _ := hBd
          have HS : Hid _ := hsB
          have HE : Hid _ := hrest
          have hgl1 : gr < W1.drew.heap.size := by show gr < W1.heap.size; omega
          clear hcl2 hal hkeep hBd hB1 hR1 hR hB hrest hsB
          by_cases k1 : tk0 = 1
          · subst k1
            have hlo : layOf 1 tn tm = low 1 (tn % 18446744073709551616).toNat := by simp [layOf]
            rw [hlo] at hRd
            have hc := rbyte_any br gr v _ 0 (by decide) W1.drew hRd
            rw [tk_front (low 1 (tn % 18446744073709551616).toNat) rest 1 (by rw [low_len]; rfl), numL_low] at hc
            simp only at hc
            rw [show (((tn % 18446744073709551616).toNat % 256 ^ 1 : Nat) : Int) = tn % 256 by simp; omega] at hc
            clear hlo hRd
            go_wp2_with fail
            clear hW1
            go_region_with (go_at_call 25; refine hc.mono ?_; rintro r w3 ⟨rfl, v3, hR3, s3⟩; have z1 := (HK.out 1 s3).trans y1)
            all_goals go_wp2
            all_goals exact ⟨⟨a + 1, v3, by omega, by go_num, HBd.out.trans (RStep.belowB s3 hbrw hzd), by rw [HE.out]; exact hR3, Nat.lt_of_lt_of_le hgl1 s3.size⟩, by simp [intOf]; omega⟩
          by_cases k2 : tk0 = 2
          · subst k2
            have hlo : layOf 2 tn tm = low 2 (tn % 18446744073709551616).toNat := by simp [layOf]
            rw [hlo] at hRd
            have hc := rcell_any br gr v _ 0 (by decide) W1.drew hRd
            rw [tk_front (low 2 (tn % 18446744073709551616).toNat) rest 2 (by rw [low_len]; rfl), numL_low] at hc
            simp only at hc
            rw [show (((tn % 18446744073709551616).toNat % 256 ^ 2 : Nat) : Int) = tn % 65536 by simp; omega] at hc
            clear hlo hRd
            go_wp2_with fail
            clear hW1
            go_region_with (go_at_call 28; refine hc.mono ?_; rintro r w3 ⟨rfl, v3, hR3, s3⟩; have z1 := (HK.out 1 s3).trans y1)
            all_goals go_wp2
            all_goals exact ⟨⟨a + 1, v3, by omega, by go_num, HBd.out.trans (RStep.belowB s3 hbrw hzd), by rw [HE.out]; exact hR3, Nat.lt_of_lt_of_le hgl1 s3.size⟩, by simp [intOf]; omega⟩
          by_cases k3 : tk0 = 3
          · subst k3
            have hlo : layOf 3 tn tm = low 4 (tn % 18446744073709551616).toNat := by simp [layOf]
            rw [hlo] at hRd
            have hc := rword_any br gr v _ 0 (by decide) W1.drew hRd
            rw [tk_front (low 4 (tn % 18446744073709551616).toNat) rest 4 (by rw [low_len]; rfl), numL_low] at hc
            simp only at hc
            rw [show (((tn % 18446744073709551616).toNat % 256 ^ 4 : Nat) : Int) = tn % 4294967296 by simp; omega] at hc
            clear hlo hRd
            go_wp2_with fail
            clear hW1
            go_region_with (go_at_call 29; refine hc.mono ?_; rintro r w3 ⟨rfl, v3, hR3, s3⟩; have z1 := (HK.out 1 s3).trans y1)
            all_goals go_wp2
            all_goals exact ⟨⟨a + 1, v3, by omega, by go_num, HBd.out.trans (RStep.belowB s3 hbrw hzd), by rw [HE.out]; exact hR3, Nat.lt_of_lt_of_le hgl1 s3.size⟩, by simp [intOf]; omega⟩
          by_cases k4 : tk0 = 4
          · subst k4
            have hlo : layOf 4 tn tm = tm := by simp [layOf]
            rw [hlo] at hRd
            have hc := rbytes_any br gr v _ 0 (by decide) (tm.length : Int) W1.drew hRd
            rw [tk_front tm rest (tm.length : Int) rfl] at hc
            simp only at hc
            have cv1 := hsd.conv (by unfold maxLen; omega)
            clear hlo hRd
            go_wp2_with fail
            clear hW1
            go_region_with (go_at_call 26; refine hc.mono ?_; rintro r w3 ⟨u3, v3, rfl, hu3, hR3, s3⟩; have z2 := (HK.out 2 s3).trans y2; have cv2 := hu3.sl.conv (by unfold maxLen; omega); have cv3 := (Sl.below HS.out (HBd.out.trans (RStep.belowB s3 hbrw hzd))).conv (by unfold maxLen; omega))
            all_goals go_wp2
            all_goals exact ⟨⟨a + 1, v3, by omega, by go_num, HBd.out.trans (RStep.belowB s3 hbrw hzd), by rw [HE.out]; exact hR3, Nat.lt_of_lt_of_le hgl1 s3.size⟩, by simp [intOf]; omega⟩
          by_cases k5 : tk0 = 5
          · subst k5
            have hlo : layOf 5 tn tm = form (tn % 4294967296).toNat := by simp [layOf]
            rw [hlo] at hRd
            have hc := rnumber_any br gr v _ 0 (by decide) W1.drew hRd
            rw [nr_ok, nm_form (tn % 4294967296).toNat rest (by omega)] at hc
            simp only [List.drop_left] at hc
            rw [show (((tn % 4294967296).toNat : Nat) : Int) = tn % 4294967296 by omega] at hc
            clear hlo hRd
            go_wp2_with fail
            clear hW1
            go_region_with (go_at_call 27; refine hc.mono ?_; rintro r w3 ⟨rfl, v3, hR3, s3⟩; have z1 := (HK.out 1 s3).trans y1)
            all_goals go_wp2
            all_goals exact ⟨⟨a + 1, v3, by omega, by go_num, HBd.out.trans (RStep.belowB s3 hbrw hzd), by rw [HE.out]; exact hR3, Nat.lt_of_lt_of_le hgl1 s3.size⟩, by simp [intOf]; omega⟩
          · have hlo : layOf tk0 tn tm = [] := by simp [layOf, k1, k2, k3, k4, k5]
            rw [hlo, List.nil_append] at hRd
            have j1 : (tk0 == 1) = false := by simp [k1]
            have j2 : (tk0 == 2) = false := by simp [k2]
            have j3 : (tk0 == 3) = false := by simp [k3]
            have j4 : (tk0 == 4) = false := by simp [k4]
            have j5 : (tk0 == 5) = false := by simp [k5]
            have hBn : Below w.heap.size w W1 := HBd.out.trans ⟨rfl, rfl, rfl, Nat.le_refl _, fun _ _ => rfl⟩
            have hRn : Rd W1 br gr v rest 0 := ⟨hRd.blk, hRd.sl, hRd.own, hRd.len⟩
            clear hlo hRd
            go_wp2_with fail
            exact ⟨⟨a + 1, v, by omega, by go_num, hBn, by rw [HE.out]; exact hRn, hgl1⟩, by simp [intOf]; omega⟩
        · obtain rfl : a = k := by omega
          have hmm := HM.out
          have q1 : ¬ ((a : Int) < ps.length) := by omega
          clear hmm
          have hempty : layAll ((ps.take a).drop a) = [] := by rw [List.drop_eq_nil_of_le (by simp; omega)]; rfl
          rw [hempty] at hR
          have hLf := left_any br gr v [] 0 wr hR
          have hEr := err_any br gr v [] 0 wr hR
          have hNm := num_any 0 wr
          have hzw : w.heap.size ≤ wr.heap.size := hB.size
          have hag := HAG.out wr hB
          have hTr := hT.below hB hpos
          clear hR hempty
          go_wp2_with fail
          refine hLf.mono ?_
          rintro r w4 ⟨rfl, rfl⟩
          go_wp2_with fail
          refine hEr.mono ?_
          rintro r w5 ⟨rfl, rfl⟩
          go_wp2_with fail
          refine hNm.mono ?_
          rintro r w6 ⟨rfl, rfl⟩
          clear hLf hEr hNm
          go_wp2_with fail
          refine hag.mono ?_
          rintro r w7 ⟨rfl, hb7⟩
          have hB7 := hB.trans (hb7.mono hzw)
          have hT7 := hT.below hB7 hpos
          have hz7 : w.heap.size ≤ w7.heap.size := hB7.size
          go_wp2_with fail
          refine (known_any w7 hT7).mono ?_
          rintro r w8 ⟨rfl, hb8⟩
          go_wp2
          go_ret
          exact ⟨rfl, hB7.trans (hb8.mono hz7)⟩
end Go.Proofs.YthphmeckcmhijaaDoor
