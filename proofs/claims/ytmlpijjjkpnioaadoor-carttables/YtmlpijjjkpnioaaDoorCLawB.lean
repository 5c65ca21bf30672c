import Derived.Test.YtmlpijjjkpnioaaDoorCPcK
import Derived.Test.YtmlpijjjkpnioaaDoorCDecS
import Derived.Test.YtmlpijjjkpnioaaDoorCLay
import Derived.Lib.SlBytesConst
/-! CartTables, walked. -/
namespace Go.Proofs.YtmlpijjjkpnioaaDoor.C
open Go.RowKit
open Go.Proofs
open Go.Proofs.YtmlpijjjkpnioaaDoor.K
set_option linter.unusedVariables false
set_option linter.unusedSimpArgs false
set_option maxHeartbeats 4000000
set_option maxRecDepth 100000
theorem tables_walk (en : Nat) (hen : en < 65536) (cb : UInt8) (pp : Option Addr) (pc : Nat) (ps : List Pc) (rv : Value) (rest : List UInt8) (W : World) (hp : PcS W pp ps) (hpl : ps.length * 12 + 4096 ≤ room) (hr : Sl W rv rest) (hT : Tab W) (hl : rest.length + 4096 ≤ room) :
    Calls Tryd.prog 5 #[.int .u16 (en : Int), .int .u8 (cb.toNat : Int), .slice pp ps.length pc, rv] W fun e w' => e = .returned (.bool true) ∧ Below W.heap.size W w' := by
  obtain ⟨rp, rc, rfl, _⟩ := hr.ex
  have hroom : room = 140737488355328 := rfl
  have hn0 := lw_new W
  obtain ⟨W1, hW1⟩ : ∃ W1, W.alloc (.cells #[.slice none 0 0] 45) = W1 := ⟨_, rfl⟩
  rw [hW1] at hn0
  have hm5 : magic.length ≤ maxLen := by decide
  have hro := sl_const W1 magic (5, 6)
  have hcv : (convert 22 22 (.slice (some ⟨W1.heap.size, 0, none⟩) 5 5)).run Tryd.prog (W1.alloc (.cells #[.int .u8 87, .int .u8 73, .int .u8 83, .int .u8 80, .int .u8 1] 5)) = .ok (.slice (some ⟨W1.heap.size, 0, none⟩) 5 5) (W1.alloc (.cells #[.int .u8 87, .int .u8 73, .int .u8 83, .int .u8 80, .int .u8 1] 5 (5, 6))) :=
    Go.Lib.run_convert_bytes_const (P := Tryd.prog) W1 22 5 #[.int .u8 87, .int .u8 73, .int .u8 83, .int .u8 80, .int .u8 1] 5 5 Tryd.underlying22 Tryd.underlying5
  obtain ⟨W2, hW2⟩ : ∃ W2, W1.alloc (.cells #[.int .u8 87, .int .u8 73, .int .u8 83, .int .u8 80, .int .u8 1] 5 (5, 6)) = W2 := ⟨_, rfl⟩
  have hb2 : Below W1.heap.size W1 W2 := by rw [← hW2]; exact (Below.refl _ _).alloc (Nat.le_refl _) _
  replace hro : Sl W2 (.slice (some ⟨W1.heap.size, 0, none⟩) 5 5) magic := by rw [← hW2]; exact hro
  have c1 := lw_bytes (hn0.next hb2) _ magic hro (by simp [magic, room])
  obtain ⟨bw, hbw⟩ : ∃ bw, W.heap.size = bw := ⟨_, rfl⟩
  have HW1 := hid hW1
  have HW2 := hid hW2
  have HBW := hid hbw
  have HP := hid hp
  have HR := hid hr
  have HT := hid hT
  rw [hbw] at c1
  clear hn0 hW1 hW2 hbw hro hb2 hp hr hT
  go_enter Tryd.func5, Tryd.ntmps5
  go_upto_region 2 with fail
  rw [HW1.out]
  go_wp2_with fail
  rw [HW2.out, HBW.out]
  refine c1.mono ?_
  rintro e w3 ⟨rfl, v3, h3, _⟩
  rw [List.nil_append] at h3
  have c2 := lw_byte h3 cb (by simp [magic, room])
  clear c1 h3 hcv
  go_wp2_with fail
  refine c2.mono ?_
  rintro e w4 ⟨rfl, v4, h4, _⟩
  have c3 := lw_cell h4 en hen (by simp [magic, room])
  clear c2 h4
  go_wp2_with fail
  refine c3.mono ?_
  rintro e w5 ⟨rfl, v5, h5, _⟩
  have hl0 : (magic ++ [cb] ++ low 2 en).length = 8 := by simp [magic, low_len]
  obtain ⟨L0, hL0⟩ : ∃ L0, (magic ++ [cb] ++ low 2 en) = L0 := ⟨_, rfl⟩
  rw [hL0] at h5 hl0
  obtain ⟨M, hM⟩ : ∃ M, min ps.length 20 = M := ⟨_, rfl⟩
  have hM1 : M ≤ ps.length := by omega
  have hM2 : M ≤ 20 := by omega
  have H5 := hid h5
  have HM := hid hM
  clear c3 h5 hL0 hM
  go_wp2_with fail
  go_loopw [10] (fun i wr => ∃ (k : Nat) (v : Value), k ≤ M ∧ i = .int .i64 (k : Int) ∧ Lw W bw wr v (L0 ++ pcsB (ps.take k))) (fun i _ => M - (intOf i).toNat)
  case atStart => exact ⟨0, v5, by omega, rfl, by rw [List.take_zero]; simpa [pcsB] using H5.out⟩
  case round =>
    clear H5
    obtain ⟨k, v, hk, rfl, hL⟩ := hrel
    have HL := hid hL
    clear hL
    go_upto_region 6 with fail
    go_cut [35] (fun s wz => s = .bool (decide (k < M)) ∧ wz = wr)
    case first =>
      have hM := HM.out
      by_cases q1 : k < ps.length
      · have e1 : (k : Int) < (ps.length : Int) := by omega
        by_cases q2 : k < 20
        · have e2 : (k : Int) < 20 := by omega
          have e3 : decide (k < M) = true := decide_eq_true (by omega)
          clear hM
          go_wp2
          go_meet
          case rel => exact ⟨by rw [e3], rfl⟩
        · have e2 : ¬ (k : Int) < 20 := by omega
          have e3 : decide (k < M) = false := decide_eq_false (by omega)
          clear hM
          go_wp2
          go_meet
          case rel => exact ⟨by rw [e3], rfl⟩
      · have e1 : ¬ (k : Int) < (ps.length : Int) := by omega
        have e3 : decide (k < M) = false := decide_eq_false (by omega)
        clear hM
        go_wp2
        go_meet
        case rel => exact ⟨by rw [e3], rfl⟩
    case rest =>
      obtain ⟨rfl, hwz⟩ := hcut
      subst hwz
      by_cases hlt : k < M
      · rw [decide_eq_true hlt]
        have i1 : (k : Int) < (ps.length : Int) := by omega
        have i2 : k < ps.length := by omega
        have et := List.getElem?_eq_getElem i2
        have etk : pcsB (ps.take (k + 1)) = pcsB (ps.take k) ++ pcB ps[k] := by rw [List.take_add_one, et]; exact pcsB_snoc _ _
        have hlk : (L0 ++ pcsB (ps.take k)).length ≤ 8 + 200 := by rw [List.length_append, pcsB_len, List.length_take, hl0]; omega
        generalize ps[k] = t at *
        obtain ⟨b, o, rfl, _, _, _, _, r2, r3⟩ := HP.out k t et
        have hc : ∀ X : World, Below W.heap.size W X → X.cell? ⟨b, o + k * 4, none⟩ = some (.int .u8 (t.1.toNat : Int)) ∧ X.cell? ⟨b, o + k * 4 + 1, none⟩ = some (.int .u8 (t.2.1.toNat : Int)) ∧ X.cell? ⟨b, o + k * 4 + 2, none⟩ = some (.int .u32 (t.2.2.1 : Int)) ∧ X.cell? ⟨b, o + k * 4 + 3, none⟩ = some (.int .u32 (t.2.2.2 : Int)) := fun X hX => by
          obtain ⟨b', o', e, c0, c1, c2, c3, _⟩ := (HP.out.below hX) k t et
          cases e
          exact ⟨c0, c1, c2, c3⟩
        have HC := hid hc
        have HET := hid etk
        obtain ⟨c0, _⟩ := hc wc HL.out.bel
        have d1 := lw_byte HL.out t.1 (by omega)
        clear hc etk et HL
        go_wp2_with fail
        refine d1.mono ?_
        rintro e y1 ⟨rfl, u1, h1, _⟩
        obtain ⟨_, c1, _⟩ := HC.out y1 h1.bel
        have d2 := lw_byte h1 t.2.1 (by rw [List.length_append]; simp only [List.length_cons, List.length_nil]; omega)
        clear d1 h1 c0
        go_wp2_with fail
        refine d2.mono ?_
        rintro e y2 ⟨rfl, u2, h2, _⟩
        obtain ⟨_, _, c2, _⟩ := HC.out y2 h2.bel
        have d3 := lw_word h2 t.2.2.1 r2 (by rw [List.length_append, List.length_append]; simp only [List.length_cons, List.length_nil]; omega)
        clear d2 h2 c1
        go_wp2_with fail
        refine d3.mono ?_
        rintro e y3 ⟨rfl, u3, h3, _⟩
        obtain ⟨_, _, _, c3⟩ := HC.out y3 h3.bel
        have d4 := lw_word h3 t.2.2.2 r3 (by rw [List.length_append, List.length_append, List.length_append, low_len]; simp only [List.length_cons, List.length_nil]; omega)
        clear d3 h3 c2
        go_wp2_with fail
        refine d4.mono ?_
        rintro e y4 ⟨rfl, u4, h4, _⟩
        have H4 := hid (show Lw W bw y4 u4 (L0 ++ pcsB (ps.take (k + 1))) by
          rw [HET.out]
          unfold pcB
          simpa only [List.append_assoc] using h4)
        clear d4 h4 c3
        go_wp2
        go_roundw
        case rel =>
          first
            | exact ⟨k + 1, _, by omega, by go_num, H4.out⟩
            | exact ⟨k + 1, by omega, by omega, _, H4.out⟩
            | exact ⟨k + 1, by omega, by go_num, _, H4.out⟩
        case measure => simp [intOf]; omega
      rw [decide_eq_false hlt]
      have hlk : (L0 ++ pcsB (ps.take k)).length ≤ 8 + 200 := by rw [List.length_append, pcsB_len, List.length_take, hl0]; omega
      obtain ⟨L1, hL1⟩ : ∃ L1, L0 ++ pcsB (ps.take k) = L1 := ⟨_, rfl⟩
      rw [hL1] at HL hlk
      have d1 := lw_bytes HL.out _ rest (HR.out.below HL.out.bel) (by omega)
      clear hL1 HL
      go_wp2_with fail
      refine d1.mono ?_
      rintro e y1 ⟨rfl, u1, h1, _⟩
      obtain ⟨L2, hL2⟩ : ∃ L2, L1 ++ rest = L2 := ⟨_, rfl⟩
      have hl2 : L2.length ≤ rest.length + 208 := by rw [← hL2, List.length_append]; omega
      rw [hL2] at h1
      have d2 := lw_done h1 (by omega)
      have H1 := hid h1
      clear d1 h1 hL2
      go_wp2_with fail
      refine d2.mono ?_
      rintro e y2 ⟨s2, rfl, hs2, k2⟩
      obtain ⟨sp, sc, hse, _⟩ := hs2.sl.ex
      subst hse
      have HT2 := hid (HT.out.below (H1.out.bel.trans (k2.mono H1.out.bel.size)) HT.out.pos)
      have d3 := sum_one _ L2 (by omega) y2 hs2.sl HT2.out
      obtain ⟨y3, hy3⟩ : ∃ y, y2.alloc (.cells #[.slice sp L2.length sc] 22) = y := ⟨_, rfl⟩
      have k3 : Below y2.heap.size y2 y3 := by rw [← hy3]; exact (Below.refl _ _).alloc (Nat.le_refl _) _
      rw [hy3] at d3
      have hlc := crc_lt L2
      have d4 := lw_word (H1.out.next (k2.trans (k3.mono k2.size))) (crc L2) (by omega) (by omega)
      have HY3 := hid hy3
      clear d2 hs2 k2 k3 hy3 H1
      go_wp2_with fail
      rw [HY3.out]
      refine d3.mono ?_
      rintro e y4 ⟨rfl, hy4⟩
      rw [hy4]
      clear hy4 d3
      go_wp2_with fail
      refine d4.mono ?_
      rintro e y5 ⟨rfl, u5, h5, _⟩
      obtain ⟨bb, hbb⟩ : ∃ bb, L2 ++ low 4 (crc L2) = bb := ⟨_, rfl⟩
      have hbl : bb.length ≤ rest.length + 212 := by rw [← hbb, List.length_append, low_len]; omega
      rw [hbb] at h5
      have d5 := lw_done h5 (by omega)
      have H5 := hid h5
      clear d4 h5 hbb
      go_wp2_with fail
      refine d5.mono ?_
      rintro e y6 ⟨s6, rfl, hs6, k6⟩
      obtain ⟨bp, bc, hse, _⟩ := hs6.sl.ex
      subst hse
      have HS6 := hid hs6.sl
      have HB6 := hid (H5.out.bel.trans (k6.mono H5.out.bel.size))
      have HT6 := hid (HT.out.below HB6.out HT.out.pos)
      have hds := dec_small bb
      obtain ⟨n, hn⟩ : ∃ n : Nat, (decB bb).1 = n := ⟨_, rfl⟩
      obtain ⟨d, hd⟩ : ∃ d : Ct, (decB bb).2 = d := ⟨_, rfl⟩
      rw [hd] at hds
      have HD := hid (And.intro hn hd)
      have HDS := hid hds
      clear d5 hs6 k6 H5 hds hn hd
      go_wp2_with fail
      refine (decode_any _ bb (by omega) y6 HS6.out HT6.out).mono ?_
      rintro e w2 ⟨⟨v2, rfl, kv2, ev2, bv2, prs2, hO2⟩, hb2⟩
      rw [HD.out.1]
      rw [HD.out.2] at hO2
      obtain ⟨kp2, kn2, kc2, ep2, en2, ec2, bp2, bn2, bc2, rfl, rfl, rfl⟩ := hO2.form
      have hv2 := hO2.val
      subst hv2
      obtain ⟨x2, hx2⟩ : ∃ x, x = w2.alloc (.cells #[.slice kp2 kn2 kc2, .int .u16 (d.entry : Int), .slice ep2 en2 ec2, .slice bp2 bn2 bc2] 27) := ⟨_, rfl⟩
      obtain ⟨g2, hg2⟩ : ∃ g, g = w2.heap.size := ⟨_, rfl⟩
      have hbx2 : Below w2.heap.size w2 x2 := by rw [hx2]; exact (Below.refl _ _).alloc (Nat.le_refl _) _
      have hn2 : x2.heap[g2]? = some (.cells [.slice kp2 kn2 kc2, .int .u16 (d.entry : Int), .slice ep2 en2 ec2, .slice bp2 bn2 bc2].toArray 27 (0, 0)) := by rw [hx2, hg2]; exact heap_alloc_new w2 _
      have HO2 := hid hO2
      have HB2 := hid (hb2.trans (hbx2.mono hb2.size))
      have HN2 := hid hn2
      have HX2 := hid (And.intro hx2 hg2)
      have HS2 := hid hbx2
      clear hO2 hb2 hbx2 hn2 hx2 hg2
      go_upto_region 16 with fail
      rw [← HX2.out.1, ← HX2.out.2]
      go_wp2_with fail
      refine (rdecode_any _ bb (by omega) x2 (HS6.out.below HB2.out)).mono ?_
      rintro e w4 ⟨⟨v4, rfl, kv4, ev4, bv4, prs4, hO4⟩, hb4⟩
      rw [HD.out.1]
      rw [HD.out.2] at hO4
      obtain ⟨kp4, kn4, kc4, ep4, en4, ec4, bp4, bn4, bc4, rfl, rfl, rfl⟩ := hO4.form
      have hv4 := hO4.val
      subst hv4
      obtain ⟨x4, hx4⟩ : ∃ x, x = w4.alloc (.cells #[.slice kp4 kn4 kc4, .int .u16 (d.entry : Int), .slice ep4 en4 ec4, .slice bp4 bn4 bc4] 27) := ⟨_, rfl⟩
      obtain ⟨g4, hg4⟩ : ∃ g, g = w4.heap.size := ⟨_, rfl⟩
      have hbx4 : Below w4.heap.size w4 x4 := by rw [hx4]; exact (Below.refl _ _).alloc (Nat.le_refl _) _
      have hn4 : x4.heap[g4]? = some (.cells [.slice kp4 kn4 kc4, .int .u16 (d.entry : Int), .slice ep4 en4 ec4, .slice bp4 bn4 bc4].toArray 27 (0, 0)) := by rw [hx4, hg4]; exact heap_alloc_new w4 _
      have HO4 := hid hO4
      have HB4 := hid (hb4.trans (hbx4.mono hb4.size))
      have HN4 := hid hn4
      have HX4 := hid (And.intro hx4 hg4)
      have HS4 := hid hbx4
      clear hO4 hb4 hbx4 hn4 hx4 hg4
      go_upto_region 17 with fail
      rw [← HX4.out.1, ← HX4.out.2]
      have n2 := (HB4.out.block _ (lt_of HN2.out)).trans HN2.out
      have o2 := (HO2.out.below HS2.out).below HB4.out
      have o4 := HO4.out.below HS4.out
      obtain ⟨fe2, fc2, fb2, fd2, i2⟩ := o2.isC HDS.out.1
      obtain ⟨fe4, fc4, fb4, fd4, i4⟩ := o4.isC HDS.out.1
      have hsm := same_true _ _ d _ _ _ _ _ _ _ _ _ _ x4 i2 i4
      have m20 := cell_of x4 g2 0 _ 27 _ n2 rfl
      have m21 := cell_of x4 g2 1 _ 27 _ n2 rfl
      have m22 := cell_of x4 g2 2 _ 27 _ n2 rfl
      have m23 := cell_of x4 g2 3 _ 27 _ n2 rfl
      have m40 := cell_of x4 g4 0 _ 27 _ HN4.out rfl
      have m41 := cell_of x4 g4 1 _ 27 _ HN4.out rfl
      have m42 := cell_of x4 g4 2 _ 27 _ HN4.out rfl
      have m43 := cell_of x4 g4 3 _ 27 _ HN4.out rfl
      have HBX := hid (HB6.out.trans ((HB2.out.trans (HB4.out.mono HB2.out.size)).mono HB6.out.size))
      clear n2 o2 o4 i2 i4
      go_wp2_with (refine (num_any _ _).mono ?_; rintro e wn ⟨rfl, hwn⟩; rw [hwn]; clear hwn wn)
      refine hsm.mono ?_
      rintro e x5 ⟨rfl, k5⟩
      have HBY := hid (HBX.out.trans (k5.mono HBX.out.size))
      clear hsm k5 m20 m21 m22 m23 m40 m41 m42 m43
      go_wp2_with fail
      refine (known_any x5 (HT.out.below HBY.out HT.out.pos)).mono ?_
      rintro e x9 ⟨rfl, k9⟩
      have HB9 := hid (HBY.out.trans (k9.mono HBY.out.size))
      clear k9
      go_wp2
      go_ret
      exact ⟨rfl, HB9.out⟩
end Go.Proofs.YtmlpijjjkpnioaaDoor.C
