import Derived.Test.YthphmeckcmhijaaDoorReads
/-! PackReads' walk. -/
namespace Go.Proofs.YthphmeckcmhijaaDoor
open Go.RowKit
set_option linter.unusedVariables false

set_option maxHeartbeats 8000000 in
set_option maxRecDepth 100000 in
theorem reads_walk (v0 : Value) (l : List UInt8) (hl : l.length + 4096 ≤ room) (p : Option Addr) (c : Nat) (ts : List (Int × Int)) (hn : ts.length ≤ room) (w : World) (h0 : Sl w v0 l) (hs : TakesS w p ts) (hT : Tab w) :
    Calls Tryd.prog 6 #[v0, .slice p ts.length c] w fun r w' => r = .returned (.bool true) ∧ Below w.heap.size w w' := by
  have hpos := hT.pos
  have hro := roomy_any v0 l (by omega) w h0
  obtain ⟨p0, c0, hv0, _⟩ := h0.ex
  subst hv0
  unfold room at hl hn
  go_enter Tryd.func6, Tryd.ntmps6
  go_wp2_with fail
  refine hro.mono ?_
  rintro r w1 ⟨u1, rfl, hu1, hb1⟩
  have hnr := newreader_any u1 l (by unfold room; omega) w1 hu1.sl
  obtain ⟨gi, cap, hue, hrow⟩ := id hu1
  subst hue
  clear hro
  have hgi := hrow.lt gi rfl
  go_wp2_with fail
  refine hnr.mono ?_
  rintro r w2 ⟨br, gr0, v2, rfl, h21, h22, h23, hRd2, hb2, hg2⟩
  have hz1 := hb1.size
  have hz2 := hb2.size
  have hbrl := hRd2.lt
  obtain ⟨gr, hRd, hgrl, hgrn, hgr0⟩ := hRd2.base hg2 h23 w.heap.size hpos (by omega) (by omega) (by omega)
  have hb12 := hb1.trans (hb2.mono hz1)
  have hrow2 := hrow.below hb2
  have hr0 : Row (w2.alloc (.cells #[] 5)) w2.heap.size (.slice (some ⟨w2.heap.size, 0, none⟩) 0 0) [] := row_of_alloc w2 w2.heap.size (Nat.le_refl _) [] (by simp)
  have hb0 : Below w2.heap.size w2 (w2.alloc (.cells #[] 5)) := (Below.refl _ _).alloc (Nat.le_refl _) _
  have hs0 := (h0.below hb12).below hb0
  clear hnr hRd2 hg2 hrow hu1
  go_wp2_with (first | (at_builtin; refine wpList_append_bytes _ rfl _ _ rfl w2.heap.size _ [] rfl hr0 _ l rfl hs0 (by unfold room; simp; omega) hb0.size ?_))
  intro vm0 w3 hvm hg3
  have hb3 : Below w2.heap.size w2 w3 := hg3.belowAll (fun g e => (hr0.lt g e).1) hb0 (Nat.le_refl _)
  obtain ⟨pm, cm, hvme⟩ := own_val hvm
  subst hvme
  have hz3 := hb3.size
  have hb4 : Below w3.heap.size w3 (w3.alloc (.cells #[.slice pm l.length cm, .int .i64 0] 50)) := (Below.refl _ _).alloc (Nat.le_refl _) _
  have hz4 : w3.heap.size < (w3.alloc (.cells #[.slice pm l.length cm, .int .i64 0] 50)).heap.size := by simp
  have hRS : ∃ gm, RS w (w3.alloc (.cells #[.slice pm l.length cm, .int .i64 0] 50)) br gr w3.heap.size gm gi cap v2 (.slice pm l.length cm) (.slice p0 l.length c0) l l 0 l.length := by
    have hbl := (hb12.trans (hb3.mono (by omega))).trans (hb4.mono (by omega))
    have hrd := (hRd.below hb3).below hb4
    have hrw := ((hrow2.below hb3).below hb4).mono (show w.heap.size ≤ w.heap.size from Nat.le_refl _)
    have hsl := h0.below hbl
    have hlr : l.length ≤ room := by unfold room; omega
    have hob : ∀ g, (Value.slice p0 l.length c0).ownBlock = some g → l ≠ [] → g < w.heap.size := fun g e hne => by
      rcases h0 with ⟨e2, _⟩ | ⟨x, c', e2, _, hc⟩
      · rw [e2] at e; simp [Value.ownBlock] at e
      · simp only [Value.slice.injEq] at e2
        obtain ⟨rfl, _, _⟩ := e2
        simp [Value.ownBlock] at e
        cases hl0 : l with
        | nil => exact absurd hl0 hne
        | cons b t =>
          have h1 := hc 0 b (by rw [hl0]; rfl)
          have h2 := World.block_lt_of_cell? w _ h1
          simp [Addr.add] at h2
          omega
    have hobb : l = [] ∨ ∀ g, (Value.slice p0 l.length c0).ownBlock = some g → g ≠ br ∧ g ≠ w3.heap.size := by
      by_cases e : l = []
      · exact .inl e
      · refine .inr fun g e2 => ?_
        have := hob g e2 e
        omega
    have hi3 : gi ≠ gr := by rcases hgr0 with e | e <;> omega
    rcases hvm.2 with ⟨e, _⟩ | ⟨g, cap', cur, e, hgB, hgg, _⟩
    · refine ⟨0, ⟨hbl, hrd, ⟨heap_alloc_any w3 _, hvm.sl.below hb4, .inl (by rw [e]; rfl), hlr⟩, hrw, rfl, hsl, hobb, by omega, by omega, by omega, by omega, by omega, hi3, by omega, by omega, by omega, by omega, by omega, hgi.1, by decide, Nat.le_refl _⟩⟩
    · have hgl := (Array.getElem?_eq_some_iff.1 hgg).1
      refine ⟨g, ⟨hbl, hrd, ⟨heap_alloc_any w3 _, hvm.sl.below hb4, .inr (by rw [e]; rfl), hlr⟩, hrw, rfl, hsl, hobb, by omega, by omega, by omega, by omega, by omega, hi3, by omega, by omega, by omega, by omega, by omega, hgi.1, by decide, Nat.le_refl _⟩⟩
  obtain ⟨gm, hRS⟩ := hRS
  generalize hW4 : w3.alloc (.cells #[.slice pm l.length cm, .int .i64 0] 50) = W4 at *
  generalize hbm : w3.heap.size = bm at *
  have HR : Hid _ := hRS
  clear hRS hRd hgrn hgr0 hrow2 hr0 hb0 hs0 hvm hg3 hb3 hb4 hb12 hb1 hb2 h21 h22 h23 hgi hgrl hz1 hz2 hz3 hz4 hbrl
  go_wp2_with fail
  clear hW4 hbm
  go_loopw [0, 8] (fun vb i wr => ∃ (k : Nat) (lb l' : List UInt8) (e : Nat) (v vm : Value), k ≤ ts.length ∧ k ≤ 60 ∧ i = .int .i64 (k : Int) ∧ RS w wr br gr bm gm gi cap v vm vb lb l' e l.length) (fun _ i _ => ts.length - (intOf i).toNat)
  case atStart => exact ⟨0, _, _, _, _, _, by omega, by omega, rfl, HR.out⟩
  case round =>
    clear HR
    obtain ⟨k, lb, l', e, v, vm, hk, hk60, rfl, hRS⟩ := hrel
    by_cases hlt : k < ts.length ∧ k < 60
    · obtain ⟨hlt, hlt60⟩ := hlt
      have i1 : (k : Int) < ts.length := by omega
      have i2 : (k : Int) < 60 := by omega
      obtain ⟨bs, o, rfl, c0, c1, wk, wn⟩ := hs k ts[k] (by simp)
      generalize ts[k] = tt at *
      obtain ⟨tk, tn⟩ := tt
      simp only at c0 c1 wk wn
      have hlb := hRS.len
      obtain ⟨pvb, cvb, evb, _⟩ := hRS.sb.ex
      subst evb
      rw [hlb] at hRS
      by_cases hh : k = ts.length / 2
      · have hh' : ((k : Int) == (ts.length : Int) / 2) = true := ieq (by omega)
        clear hh
        have haw := aswas_any w.heap.size _ _ lb (by unfold room; omega) wr hRS.room hRS.sb
        have HR : Hid _ := hRS
        clear hRS
        go_wp2_with fail
        refine haw.mono ?_
        rintro r w2 ⟨rfl, q, rfl⟩
        clear haw
        go_wp2_with fail
        generalize wr = Wa at *
        have hst0 : Row (Wa.drewN q) w.heap.size (.slice (some ⟨gi, 0, none⟩) (l.length + 3) cap) (lb ++ marks) := HR.out.row
        go_loopw [46] (fun i w3 => ∃ (j : Nat) (L : List UInt8), j ≤ l.length ∧ i = .int .i64 (j : Int) ∧ L.length = l.length + 3 ∧ L.drop l.length = marks ∧ Row w3 w.heap.size (.slice (some ⟨gi, 0, none⟩) (l.length + 3) cap) L ∧ Only gi Wa w3) (fun i _ => l.length - (intOf i).toNat)
        case atStart => exact ⟨0, lb ++ marks, by omega, rfl, by simp [marks, hlb], by rw [← hlb, List.drop_left], hst0, (Only.refl gi Wa).drewN q⟩
        case round =>
          clear hst0
          obtain ⟨j, L, hj, rfl, hL, hLm, hrr, hon⟩ := hrel
          by_cases hlt2 : j < l.length
          · have m1 : (j : Int) < l.length := by omega
            have hcell := row_cell hrr j (by omega)
            have hfz := row_fz hrr j
            have hx8 : bits .xor .u8 (L[j].toNat : Int) 60 = ((L[j].toNat ^^^ 60 : Nat) : Int) := xor8 _ 60 (u8lt _) (by decide)
            have hlt8 : L[j].toNat ^^^ 60 < 2 ^ 8 := Nat.xor_lt_two_pow (u8lt _) (by decide)
            have hst := row_store hrr j (by omega) (by8 (L[j].toNat ^^^ 60))
            have hbn : (by8 (L[j].toNat ^^^ 60)).toNat = L[j].toNat ^^^ 60 := by rw [by8_nat]; omega
            rw [hbn] at hst
            have hLm2 : (L.set j (by8 (L[j].toNat ^^^ 60))).drop l.length = marks := by rw [List.drop_set_of_lt hlt2]; exact hLm
            generalize L[j].toNat ^^^ 60 = X8 at *
            have hon2 := hon.set j (.int .u8 (X8 : Int))
            have HS : Hid _ := hst
            have HO : Hid _ := hon2
            have HLM : Hid _ := hLm2
            clear hon hrr hlt8 hst hon2 hLm2 hLm
            go_wp2
            go_roundw
            case rel =>
              first
                | exact ⟨j + 1, _, by omega, by go_num, by simpa using hL, HLM.out, HS.out, HO.out⟩
                | ((repeat apply Exists.intro); refine ⟨⟨j + 1, _, by omega, ?_, ?_, HLM.out, HS.out, HO.out⟩, rfl⟩; · go_num
                   · simpa using hL)
            case measure => simp [intOf]; omega
          · obtain rfl : j = l.length := by omega
            have hr0 : Row (wr.alloc (.cells #[] 5)) wr.heap.size (.slice (some ⟨wr.heap.size, 0, none⟩) 0 0) [] := row_of_alloc wr wr.heap.size (Nat.le_refl _) [] (by simp)
            have hb0 : Below wr.heap.size wr (wr.alloc (.cells #[] 5)) := (Below.refl _ _).alloc (Nat.le_refl _) _
            have hsi := (hrr.sl.take l.length (by omega)).below hb0
            have hlt3 : (L.take l.length).length = l.length := by simp; omega
            go_wp2_with (first | (at_builtin; refine wpList_append_bytes _ rfl _ _ rfl wr.heap.size _ [] rfl hr0 _ (L.take l.length) rfl hsi (by unfold room; simp; omega) hb0.size ?_))
            intro vb2 w5 hvb2 hg5
            have hb5 : Below wr.heap.size wr w5 := hg5.belowAll (fun g e => (hr0.lt g e).1) hb0 (Nat.le_refl _)
            have hRS5 := HR.out.turned hon hrr hL hLm hb5 hvb2
            clear hr0 hb0 hsi hg5 hvb2 hb5 hrr hon HR
            have htk := takes_any br gr bm gm v vm l' e hRS5.le tk tn w5 hRS5.rd hRS5.rm hRS5.n1 hRS5.n2 hRS5.n3 hRS5.lg hRS5.lm (by have := hRS5.ll; unfold room; omega)
            have d0 : w5.cell? ⟨bs, o + k * 2, none⟩ = some (.int .i64 tk) := by rw [hRS5.below.cell (World.block_lt_of_cell? w _ c0)]; exact c0
            have d1 : w5.cell? ⟨bs, o + k * 2 + 1, none⟩ = some (.int .i64 tn) := by rw [hRS5.below.cell (World.block_lt_of_cell? w _ c1)]; exact c1
            have hst1 := stp_len tk tn l' e
            have hst2 := stp_lt tk tn l' e hRS5.le
            have HR : Hid _ := hRS5
            clear hRS5
            go_wp2_with fail
            refine htk.mono ?_
            rintro r w6 ⟨rfl, v6, vm6, hd6, hm6, t6⟩
            have hR6 := HR.out.step t6 hd6 hm6 hst2 (Nat.le_trans hst1 HR.out.ll)
            have HR6 : Hid _ := hR6
            clear hR6 hd6 hm6 t6 HR htk
            go_wp2
            go_roundw
            case rel =>
              refine ⟨k + 1, _, _, _, _, _, ?_, ?_, ?_, HR6.out⟩
              · omega
              · omega
              · go_num
            case measure => simp [intOf]; omega
      · have hh' : ((k : Int) == (ts.length : Int) / 2) = false := ine (by omega)
        clear hh
        have htk := takes_any br gr bm gm v vm l' e hRS.le tk tn wr hRS.rd hRS.rm hRS.n1 hRS.n2 hRS.n3 hRS.lg hRS.lm (by have := hRS.ll; unfold room; omega)
        have d0 : wr.cell? ⟨bs, o + k * 2, none⟩ = some (.int .i64 tk) := by rw [hRS.below.cell (World.block_lt_of_cell? w _ c0)]; exact c0
        have d1 : wr.cell? ⟨bs, o + k * 2 + 1, none⟩ = some (.int .i64 tn) := by rw [hRS.below.cell (World.block_lt_of_cell? w _ c1)]; exact c1
        have hst1 := stp_len tk tn l' e
        have hst2 := stp_lt tk tn l' e hRS.le
        have HR : Hid _ := hRS
        clear hRS
        go_wp2_with fail
        refine htk.mono ?_
        rintro r w6 ⟨rfl, v6, vm6, hd6, hm6, t6⟩
        have hR6 := HR.out.step t6 hd6 hm6 hst2 (Nat.le_trans hst1 HR.out.ll)
        have HR6 : Hid _ := hR6
        clear hR6 hd6 hm6 t6 HR htk
        go_wp2
        go_roundw
        case rel =>
          refine ⟨k + 1, _, _, _, _, _, ?_, ?_, ?_, HR6.out⟩
          · omega
          · omega
          · go_num
        case measure => simp [intOf]; omega
    · by_cases q1 : (k : Int) < ts.length
      · have q2 : decide ((k : Int) < 60) = false := by simp; omega
        have hT1 := hT.below hRS.below hpos
        have hz1 := hRS.size
        have hz0 : Below wr.heap.size wr (wr.alloc (.cells #[.slice none 0 0, .int .i64 0] 56)) := (Below.refl _ _).alloc (Nat.le_refl _) _
        have hRz : Rd (wr.alloc (.cells #[.slice none 0 0, .int .i64 0] 56)) wr.heap.size (wr.heap.size + 1) (.slice none 0 0) [] 0 := ⟨heap_alloc_any wr _, .inl ⟨rfl, rfl⟩, .inl rfl, by simp⟩
        have hro : Roomed (wr.alloc (.cells #[.slice none 0 0, .int .i64 0] 56)) w.heap.size (.slice (some ⟨gi, 0, none⟩) l.length cap) lb := hRS.room.k5 (K5.below hz0)
        have hsb := hRS.sb.below hz0
        have hTz := hT1.below hz0 hT1.pos
        have hbz := hRS.below.trans (hz0.mono hz1)
        have hlb := hRS.len
        obtain ⟨pvb, cvb, evb, _⟩ := hRS.sb.ex
        subst evb
        generalize hbz0 : wr.heap.size = bz at *
        generalize hWz : wr.alloc (.cells #[.slice none 0 0, .int .i64 0] 56) = Wz at *
        have haw := aswas_any w.heap.size _ _ lb (by unfold room; omega) Wz hro hsb
        rw [hlb] at haw
        clear hRS hro hsb hz0
        go_wp2_with fail
        clear hWz
        refine haw.mono ?_
        rintro r w2 ⟨rfl, q, rfl⟩
        have hRz2 : Rd (Wz.drewN q) bz (bz + 1) (.slice none 0 0) [] 0 := ⟨hRz.blk, hRz.sl, hRz.own, hRz.len⟩
        have hTz2 : Tab (Wz.drewN q) := fun i hi => hTz i hi
        have hbz2 := below_drewN hbz q
        clear haw hRz hTz hbz
        generalize Wz.drewN q = W3 at *
        go_wp2_with fail
        refine (err_nil W3).mono ?_
        rintro r w4 ⟨rfl, rfl⟩
        go_wp2_with fail
        refine (num_any 1 w4).mono ?_
        rintro r w5 ⟨rfl, rfl⟩
        go_wp2_with fail
        refine (left_nil w5).mono ?_
        rintro r w6 ⟨rfl, rfl⟩
        go_wp2_with fail
        refine (rbyte_nil w6).mono ?_
        rintro r w7 ⟨rfl, rfl⟩
        go_wp2_with fail
        refine (rbytes_nil w7).mono ?_
        rintro r w8 ⟨pz, cz, rfl, hb8⟩
        have hRz8 := hRz2.below hb8
        have hTz8 := hTz2.below hb8 hTz2.pos
        have hz7 : w.heap.size ≤ w7.heap.size := hbz2.size
        have hbz8 := hbz2.trans (hb8.mono hz7)
        clear hRz2 hTz2 hbz2 hb8
        go_wp2_with fail
        refine (rnumber_nil w8).mono ?_
        rintro r w9 ⟨rfl, rfl⟩
        go_wp2_with fail
        refine (err_any _ _ _ _ _ w9 hRz8).mono ?_
        rintro r w10 ⟨rfl, rfl⟩
        go_wp2_with fail
        refine (num_any 0 w10).mono ?_
        rintro r w11 ⟨rfl, rfl⟩
        have hrc := rcell_any _ _ _ _ _ (by decide) w11 hRz8
        rw [show tk [] 0 2 = ([], [], 30) by simp [tk]] at hrc
        go_wp2_with fail
        refine hrc.mono ?_
        rintro r w12 ⟨rfl, vz, hRz12, s12⟩
        have hz11 : w.heap.size ≤ w11.heap.size := hbz8.size
        have hb12 := s12.belowB (B := w.heap.size) (by omega) hz11
        have hbz12 := hbz8.trans hb12
        have hT12 := hTz8.below hb12 hpos
        have hz12 : w.heap.size ≤ w12.heap.size := hbz12.size
        clear hrc hb12 hbz8
        go_wp2_with fail
        refine (err_any _ _ _ _ _ w12 hRz12).mono ?_
        rintro r w13 ⟨rfl, rfl⟩
        go_wp2_with fail
        refine (num_any 30 w13).mono ?_
        rintro r w14 ⟨rfl, rfl⟩
        go_wp2_with fail
        refine (known_any w14 hT12).mono ?_
        rintro r w15 ⟨rfl, hb15⟩
        go_wp2
        go_ret
        exact ⟨rfl, hbz12.trans (hb15.mono hz12)⟩
      · have q2 : ¬ ((k : Int) < ts.length) := q1
        have hT1 := hT.below hRS.below hpos
        have hz1 := hRS.size
        have hz0 : Below wr.heap.size wr (wr.alloc (.cells #[.slice none 0 0, .int .i64 0] 56)) := (Below.refl _ _).alloc (Nat.le_refl _) _
        have hRz : Rd (wr.alloc (.cells #[.slice none 0 0, .int .i64 0] 56)) wr.heap.size (wr.heap.size + 1) (.slice none 0 0) [] 0 := ⟨heap_alloc_any wr _, .inl ⟨rfl, rfl⟩, .inl rfl, by simp⟩
        have hro : Roomed (wr.alloc (.cells #[.slice none 0 0, .int .i64 0] 56)) w.heap.size (.slice (some ⟨gi, 0, none⟩) l.length cap) lb := hRS.room.k5 (K5.below hz0)
        have hsb := hRS.sb.below hz0
        have hTz := hT1.below hz0 hT1.pos
        have hbz := hRS.below.trans (hz0.mono hz1)
        have hlb := hRS.len
        obtain ⟨pvb, cvb, evb, _⟩ := hRS.sb.ex
        subst evb
        generalize hbz0 : wr.heap.size = bz at *
        generalize hWz : wr.alloc (.cells #[.slice none 0 0, .int .i64 0] 56) = Wz at *
        have haw := aswas_any w.heap.size _ _ lb (by unfold room; omega) Wz hro hsb
        rw [hlb] at haw
        clear hRS hro hsb hz0
        go_wp2_with fail
        clear hWz
        refine haw.mono ?_
        rintro r w2 ⟨rfl, q, rfl⟩
        have hRz2 : Rd (Wz.drewN q) bz (bz + 1) (.slice none 0 0) [] 0 := ⟨hRz.blk, hRz.sl, hRz.own, hRz.len⟩
        have hTz2 : Tab (Wz.drewN q) := fun i hi => hTz i hi
        have hbz2 := below_drewN hbz q
        clear haw hRz hTz hbz
        generalize Wz.drewN q = W3 at *
        go_wp2_with fail
        refine (err_nil W3).mono ?_
        rintro r w4 ⟨rfl, rfl⟩
        go_wp2_with fail
        refine (num_any 1 w4).mono ?_
        rintro r w5 ⟨rfl, rfl⟩
        go_wp2_with fail
        refine (left_nil w5).mono ?_
        rintro r w6 ⟨rfl, rfl⟩
        go_wp2_with fail
        refine (rbyte_nil w6).mono ?_
        rintro r w7 ⟨rfl, rfl⟩
        go_wp2_with fail
        refine (rbytes_nil w7).mono ?_
        rintro r w8 ⟨pz, cz, rfl, hb8⟩
        have hRz8 := hRz2.below hb8
        have hTz8 := hTz2.below hb8 hTz2.pos
        have hz7 : w.heap.size ≤ w7.heap.size := hbz2.size
        have hbz8 := hbz2.trans (hb8.mono hz7)
        clear hRz2 hTz2 hbz2 hb8
        go_wp2_with fail
        refine (rnumber_nil w8).mono ?_
        rintro r w9 ⟨rfl, rfl⟩
        go_wp2_with fail
        refine (err_any _ _ _ _ _ w9 hRz8).mono ?_
        rintro r w10 ⟨rfl, rfl⟩
        go_wp2_with fail
        refine (num_any 0 w10).mono ?_
        rintro r w11 ⟨rfl, rfl⟩
        have hrc := rcell_any _ _ _ _ _ (by decide) w11 hRz8
        rw [show tk [] 0 2 = ([], [], 30) by simp [tk]] at hrc
        go_wp2_with fail
        refine hrc.mono ?_
        rintro r w12 ⟨rfl, vz, hRz12, s12⟩
        have hz11 : w.heap.size ≤ w11.heap.size := hbz8.size
        have hb12 := s12.belowB (B := w.heap.size) (by omega) hz11
        have hbz12 := hbz8.trans hb12
        have hT12 := hTz8.below hb12 hpos
        have hz12 : w.heap.size ≤ w12.heap.size := hbz12.size
        clear hrc hb12 hbz8
        go_wp2_with fail
        refine (err_any _ _ _ _ _ w12 hRz12).mono ?_
        rintro r w13 ⟨rfl, rfl⟩
        go_wp2_with fail
        refine (num_any 30 w13).mono ?_
        rintro r w14 ⟨rfl, rfl⟩
        go_wp2_with fail
        refine (known_any w14 hT12).mono ?_
        rintro r w15 ⟨rfl, hb15⟩
        go_wp2
        go_ret
        exact ⟨rfl, hbz12.trans (hb15.mono hz12)⟩
end Go.Proofs.YthphmeckcmhijaaDoor
