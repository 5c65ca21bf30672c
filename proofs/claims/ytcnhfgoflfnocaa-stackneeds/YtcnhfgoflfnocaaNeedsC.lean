import Derived.Test.YtcnhfgoflfnocaaNeeds
/-! StackNeeds, walked. -/
namespace Go.Proofs.Ytcnhfgoflfnocaa
open Go.RowKit
open Go.Proofs
set_option linter.unusedVariables false
set_option linter.unusedSimpArgs false
set_option maxHeartbeats 4000000
set_option maxRecDepth 100000
theorem needs_cy (p p2 : Option Addr) (c c2 : Nat) (cells more : List Int) (hc : cells.length ≤ c) (hc2 : more.length ≤ c2) (hr : cells.length ≤ room) (hr2 : more.length ≤ room) (i o : Int) (w : World) (h1 : Sl eU 1 w p cells) (h2 : Sl eU 1 w p2 more) (hu : ¬ ((min cells.length 256 : Nat) : Int) < max i 0) (ho : ¬ max o 0 ≤ 300) (hx : ((min cells.length 256 : Nat) : Int) - max i 0 + ((min more.length 300 : Nat) : Int) ≤ 256) :
    Calls Try.prog 3 #[.slice p cells.length c, .int .i64 i, .int .i64 o, .slice p2 more.length c2] w fun e w' => e = .returned (.bool true) ∧ Below w.heap.size w w' := by
  have HU := hid hu
  have HX := hid hx
  have HO := hid ho
  clear hu hx ho
  have H1 := hid h1
  have H2 := hid h2
  clear h1 h2
  go_enter Try.func3, Try.ntmps3
  go_upto_if 23 with fail
  go_cut [0] (fun s0 wc => ∃ L : List Int, L.length = min cells.length 256 ∧ s0 = .slice p L.length c ∧ Sl eU 1 w p L ∧ wc = w)
  case first =>
    by_cases a : 256 < cells.length
    · have d1 : decide ((256 : Int) < (cells.length : Int)) = true := decide_eq_true (by omega)
      have hcc : 256 ≤ c := by omega
      go_wp2
      go_meet
      case rel => exact ⟨cells.take 256, by rw [List.length_take]; omega, by rw [List.length_take, Nat.min_eq_left (by omega)], H1.out.take 256, rfl⟩
    · have d1 : decide ((256 : Int) < (cells.length : Int)) = false := decide_eq_false (by omega)
      go_wp2
      go_meet
      case rel => exact ⟨cells, by omega, rfl, H1.out, rfl⟩
  case rest =>
    obtain ⟨L, hLm, rfl, hS, hwc⟩ := hcut
    have hL : L.length ≤ 256 := by omega
    have HL := hid hLm
    clear hLm
    obtain rfl := hwc.symm
    have S1 := hid hS
    have hst := stacks_any p none c 0 L [] (by unfold room; omega) (by decide) w hS (fun i a h => by simp at h)
    clear hS H1 hc hr
    go_wp2_with fail
    refine hst.mono ?_
    rintro e w1 ⟨bel, ⟨_, b, b2, rfl, g1, _, l1, _, _⟩ | ⟨cc, _⟩⟩
    rotate_left
    · exfalso; rw [mayS, decide_eq_true hL] at cc; exact absurd cc (by decide)
    have N1 := hid (NS.mk g1 l1 bel)
    clear hst bel g1 l1
    go_wp2_with fail
    refine (fixed_any w1).mono ?_
    rintro e w2 ⟨rfl, bel⟩
    have N2 := hid (N1.out.next bel)
    clear bel N1
    go_wp2_with fail
    refine (dneed b L i o w2 N2.out.d).mono ?_
    rintro e w3 ⟨rfl, hw3⟩
    obtain rfl := hw3.symm
    go_wp2_with fail
    refine (dlen b L w2 N2.out.d).mono ?_
    rintro e w3 ⟨rfl, hw3⟩
    obtain rfl := hw3.symm
    go_upto_region 9 with fail
    go_cut [1, 2] (fun s1 s2 wc => s1 = .int .i64 (max i 0) ∧ s2 = .int .i64 (max o 0) ∧ wc = w2)
    case first =>
      have hm : ∀ z : Int, max z 0 = if z < 0 then 0 else z := fun z => by split <;> omega
      by_cases a1 : i < 0
      · by_cases a2 : o < 0
        · go_wp2
          go_meet
          case rel => exact ⟨by rw [hm, if_pos a1], by rw [hm, if_pos a2], rfl⟩
        · go_wp2
          go_meet
          case rel => exact ⟨by rw [hm, if_pos a1], by rw [hm, if_neg (by omega)], rfl⟩
      · by_cases a2 : o < 0
        · go_wp2
          go_meet
          case rel => exact ⟨by rw [hm, if_neg (by omega)], by rw [hm, if_pos a2], rfl⟩
        · go_wp2
          go_meet
          case rel => exact ⟨by rw [hm, if_neg (by omega)], by rw [hm, if_neg (by omega)], rfl⟩
    case rest =>
      obtain ⟨rfl, rfl, hwc⟩ := hcut
      obtain rfl := hwc.symm
      have hI : 0 ≤ max i 0 := by omega
      have hO : 0 ≤ max o 0 := by omega
      have vu := hid (fun h => need_u (n := L.length) (i := i) (o := o) h)
      have vo := hid (fun h h2 => need_o (n := L.length) (i := i) (o := o) h h2)
      have v0 := hid (fun h h2 => need_0 (n := L.length) (i := i) (o := o) h h2)
      generalize need L.length i o = V at *
      generalize max i 0 = I at *
      generalize max o 0 = O at *
      have a1 : ¬ (L.length : Int) < I := by have := HU.out; have := HL.out; omega
      have d1 : decide ((L.length : Int) < I) = false := decide_eq_false a1
      obtain ⟨k0, rfl⟩ : ∃ k0 : Nat, I = k0 := ⟨I.toNat, by omega⟩
      have hk0 : k0 ≤ L.length := by omega
      clear vu hI
      go_wp2
      go_loopw [13] (fun j wr => ∃ k : Nat, k ≤ k0 ∧ j = .int .i64 (k : Int) ∧ NS w b wr (L.take (L.length - k))) (fun j _ => k0 - (intOf j).toNat)
      case atStart => exact ⟨0, by omega, rfl, by rw [Nat.sub_zero, List.take_length]; exact N2.out⟩
      case round =>
        obtain ⟨k, hk, rfl, hN⟩ := hrel
        by_cases hlt : k < k0
        · have i1 : decide ((k : Int) < (k0 : Int)) = true := decide_eq_true (by omega)
          obtain ⟨m, hm⟩ : ∃ m, L.length = m + k + 1 := ⟨L.length - k - 1, by omega⟩
          have hml : m < L.length := by omega
          obtain ⟨bc, oc, rfl, ec⟩ := S1.out.u m L[m] (List.getElem?_eq_getElem hml)
          have hbc : bc < w.heap.size := World.block_lt_of_cell? w _ ec
          have e1 : IntKind.i64.wrap ((L.length : Int) - 1) = (L.length : Int) - 1 := i64_id _ (by omega) (by omega)
          have e2 : IntKind.i64.wrap ((L.length : Int) - 1 - (k : Int)) = (m : Int) := by rw [i64_id _ (by omega) (by omega)]; omega
          have e3 : (m : Int) < (L.length : Int) := by omega
          rw [show L.length - k = m + 1 by omega, take_snoc L m hml] at hN
          have sW : wr.drew.cell? ⟨bc, oc + m, none⟩ = some (.int .u16 L[m]) := (World.cell?_of_block (w := w) (hN.bel.block bc hbc)).trans ec
          have hp := dpop b (L.take m) L[m] wr.drew hN.draw.d
          have hq : ∀ w5, HasD w5 b (L.take m) → At b wr.drew w5 → w5.cell? ⟨bc, oc + m, none⟩ = some (.int .u16 L[m]) ∧ NS w b w5 (L.take (L.length - (k + 1))) := by
            intro w5 g t
            have := hN.draw.at g t
            refine ⟨(World.cell?_of_block (w := w) (this.bel.block bc hbc)).trans ec, ?_⟩
            rw [show L.length - (k + 1) = m by omega]; exact this
          have HQ := hid hq
          clear hN ec hm hq vo v0 N2
          generalize L[m] = a at *
          go_wp2_with fail
          go_region_held (fun W => W.cell? ⟨bc, oc + m, none⟩ = some (.int .u16 a))
            (first | (with_reducible exact sW) | (with_reducible exact sB))
            ((go_at_call 11; refine hp.mono ?_; rintro e w5 ⟨rfl, g5, t5⟩; have sB := (HQ.out w5 g5 t5).1; have nB := hid (HQ.out w5 g5 t5).2; clear g5 t5))
          clear hp sW HQ
          go_wp2
          go_roundw
          case rel => exact ⟨k + 1, by omega, by go_num, nB.out⟩
          case measure => first | (simp [intOf]; done) | (simp [intOf]; omega)
        · obtain rfl : k = k0 := by omega
          have i1 : decide ((k : Int) < (k : Int)) = false := decide_eq_false (by omega)
          obtain ⟨left, hleft⟩ : ∃ left : Nat, L.length = left + k := ⟨L.length - k, by omega⟩
          have e1 : IntKind.i64.wrap ((L.length : Int) - (k : Int)) = (left : Int) := by rw [i64_id _ (by omega) (by omega)]; omega
          rw [show L.length - k = left by omega] at hN
          have hT : (L.take left).length = left := by rw [List.length_take]; omega
          have hleft2 : left ≤ L.length := by omega
          have hvo : 256 < (left : Int) + O → V = 2 := fun h => vo.out (by omega) (by omega)
          have hv0 : ¬ 256 < (left : Int) + O → V = 0 := fun h => v0.out (by omega) (by omega)
          have HT := hid hT
          have N3 := hid hN
          have HLf := hid hleft
          clear hN N2 vo v0 hleft hT
          have a2 : ¬ O ≤ 300 := by have := HO.out; omega
          · have d2 : decide ((300 : Int) < O) = true := decide_eq_true (by omega)
            obtain rfl := hvo (by omega)
            have hmk := make_zs 300 (by omega) wr
            obtain ⟨wA, hwA⟩ : ∃ wA, wr.alloc (.cells (en eU (zs 300)).toArray 32) = wA := ⟨_, rfl⟩
            have BA : Below wr.heap.size wr wA := by rw [← hwA]; exact (Below.refl _ _).alloc (Nat.le_refl _) _
            have N4 := hid (N3.out.next BA)
            have e4 : IntKind.i64.wrap ((left : Int) + 300) = (left : Int) + 300 := i64_id _ (by omega) (by omega)
            have d3 : decide ((256 : Int) < (left : Int) + 300) = true := decide_eq_true (by omega)
            have hp := dpush_no b (L.take left) (zs 300) (some ⟨wr.heap.size, 0, none⟩) 300 wA N4.out.d (by rw [HT.out, zs_len]; omega) (by rw [zs_len]; unfold room; omega)
            rw [zs_len] at hp
            have hln := dlen b _ wA N4.out.d
            rw [HT.out] at hln
            clear hvo hv0 BA N3
            simp only [Int.cast_ofNat_Int] at hmk
            go_wp2_with fail
            refine hp.mono ?_
            rintro e w4 ⟨rfl, hw4⟩
            obtain rfl := hw4.symm
            go_wp2_with fail
            refine hln.mono ?_
            rintro e w4 ⟨rfl, hw4⟩
            obtain rfl := hw4.symm
            obtain ⟨wx, hwx⟩ : ∃ wx, wx = wA := ⟨_, rfl⟩
            have NX := hid (show NS w b wx (L.take left) by rw [hwx]; exact N4.out)
            have hT := HT.out
            subst hwx
            clear hp hln N4 hmk hwA
            go_upto_if 132 with fail
            go_cut [3] (fun s3 wc => ∃ X : List Int, X.length = min more.length 300 ∧ s3 = .slice p2 X.length c2 ∧ Sl eU 1 w p2 X ∧ wc = wx)
            case first =>
              by_cases a : 300 < more.length
              · have d9 : decide ((300 : Int) < (more.length : Int)) = true := decide_eq_true (by omega)
                have hcc : 300 ≤ c2 := by omega
                go_wp2
                go_meet
                case rel => exact ⟨more.take 300, by rw [List.length_take]; omega, by rw [List.length_take, Nat.min_eq_left (by omega)], H2.out.take 300, rfl⟩
              · have d9 : decide ((300 : Int) < (more.length : Int)) = false := decide_eq_false (by omega)
                go_wp2
                go_meet
                case rel => exact ⟨more, by omega, rfl, H2.out, rfl⟩
            case rest =>
              obtain ⟨X, hXm, rfl, hSX, hwc⟩ := hcut
              have hX : X.length ≤ 300 := by omega
              have HXm := hid hXm
              clear hXm
              obtain rfl := hwc.symm
              have SX := hid hSX
              have SXx := hid (hSX.below NX.out.bel)
              clear hSX H2 hc2 hr2
              have e6 : IntKind.i64.wrap ((left : Int) + (X.length : Int)) = (left : Int) + (X.length : Int) := i64_id _ (by omega) (by omega)
              have e7 : IntKind.i64.wrap ((X.length : Int) - 1) = (X.length : Int) - 1 := i64_id _ (by omega) (by omega)
              have e8 : IntKind.i64.wrap ((left : Int) - 1) = (left : Int) - 1 := i64_id _ (by omega) (by omega)
              have a5 : left + X.length ≤ 256 := by have := HX.out; have := HU.out; have := HL.out; have := HXm.out; have := HLf.out; omega
              · have d5 : decide ((256 : Int) < (left : Int) + (X.length : Int)) = false := decide_eq_false (by omega)
                go_wp2_with fail
                refine (dpush_yes b (L.take left) X p2 c2 wx NX.out.d SXx.out (by rw [hT]; exact a5)).mono ?_
                rintro e w4 ⟨rfl, g4, t4⟩
                have NZ := hid (NX.out.at g4 t4)
                clear g4 t4 NX SXx
                go_wp2
                go_loopw [19] (fun j wr => ∃ (k : Nat) (z : Int), k ≤ X.length ∧ z = (k : Int) - 1 ∧ j = .int .i64 z ∧ NS w b wr (L.take left ++ X.take k)) (fun j _ => (intOf j + 1).toNat)
                case atStart => exact ⟨X.length, (X.length : Int) - 1, Nat.le_refl _, rfl, rfl, by rw [List.take_length]; exact NZ.out⟩
                case round =>
                  obtain ⟨k, z, hk, hz, rfl, hN⟩ := hrel
                  cases k with
                  | succ m =>
                    obtain rfl : (m : Int) = z := by omega
                    have hml : m < X.length := by omega
                    have i1 : decide ((0 : Int) ≤ (m : Int)) = true := decide_eq_true (by omega)
                    obtain ⟨bc, oc, hpc, ec⟩ := SX.out.u m X[m] (List.getElem?_eq_getElem hml)
                    have hbc : bc < w.heap.size := World.block_lt_of_cell? w _ ec
                    have e1 : IntKind.i64.wrap ((m : Int) - 1) = (m : Int) - 1 := i64_id _ (by omega) (by omega)
                    have e3 : (m : Int) < (X.length : Int) := by omega
                    rw [take_snoc X m hml, ← List.append_assoc] at hN
                    have sW : wr.drew.cell? ⟨bc, oc + m, none⟩ = some (.int .u16 X[m]) := (World.cell?_of_block (w := w) (hN.bel.block bc hbc)).trans ec
                    have hp := dpop b (L.take left ++ X.take m) X[m] wr.drew hN.draw.d
                    have hq : ∀ w5, HasD w5 b (L.take left ++ X.take m) → At b wr.drew w5 → w5.cell? ⟨bc, oc + m, none⟩ = some (.int .u16 X[m]) ∧ NS w b w5 (L.take left ++ X.take m) := by
                      intro w5 g t
                      have := hN.draw.at g t
                      exact ⟨(World.cell?_of_block (w := w) (this.bel.block bc hbc)).trans ec, this⟩
                    have HQ := hid hq
                    clear hN ec hq hz NZ
                    generalize X[m] = a at *
                    subst hpc
                    go_wp2_with fail
                    go_region_held (fun W => W.cell? ⟨bc, oc + m, none⟩ = some (.int .u16 a))
                      (first | (with_reducible exact sW) | (with_reducible exact sB))
                      ((go_at_call 11; refine hp.mono ?_; rintro e w5 ⟨rfl, g5, t5⟩; have sB := (HQ.out w5 g5 t5).1; have nB := hid (HQ.out w5 g5 t5).2; clear g5 t5))
                    clear hp sW HQ
                    go_wp2
                    go_roundw
                    case rel => exact ⟨m, (m : Int) - 1, by omega, rfl, rfl, nB.out⟩
                    case measure => first | (simp [intOf]; done) | (simp [intOf]; omega)
                  | zero =>
                    obtain rfl : z = -1 := by omega
                    have i1 : decide ((0 : Int) ≤ -1) = false := by decide
                    have NY := hid (show NS w b wr (L.take left) by simpa using hN)
                    clear hN NZ hz
                    go_wp2
                    go_loopw [20] (fun j wr => ∃ (k : Nat) (z : Int), k ≤ left ∧ z = (k : Int) - 1 ∧ j = .int .i64 z ∧ NS w b wr (L.take k)) (fun j _ => (intOf j + 1).toNat)
                    case atStart => exact ⟨left, (left : Int) - 1, Nat.le_refl _, rfl, rfl, NY.out⟩
                    case round =>
                      obtain ⟨k, z, hk, hz, rfl, hN⟩ := hrel
                      cases k with
                      | succ m =>
                        obtain rfl : (m : Int) = z := by omega
                        have hml : m < L.length := by omega
                        have i1 : decide ((0 : Int) ≤ (m : Int)) = true := decide_eq_true (by omega)
                        obtain ⟨bc, oc, hpc, ec⟩ := S1.out.u m L[m] (List.getElem?_eq_getElem hml)
                        have hbc : bc < w.heap.size := World.block_lt_of_cell? w _ ec
                        have e1 : IntKind.i64.wrap ((m : Int) - 1) = (m : Int) - 1 := i64_id _ (by omega) (by omega)
                        have e3 : (m : Int) < (L.length : Int) := by omega
                        rw [take_snoc L m hml] at hN
                        have sW : wr.drew.cell? ⟨bc, oc + m, none⟩ = some (.int .u16 L[m]) := (World.cell?_of_block (w := w) (hN.bel.block bc hbc)).trans ec
                        have hp := dpop b (L.take m) L[m] wr.drew hN.draw.d
                        have hq : ∀ w5, HasD w5 b (L.take m) → At b wr.drew w5 → w5.cell? ⟨bc, oc + m, none⟩ = some (.int .u16 L[m]) ∧ NS w b w5 (L.take m) := by
                          intro w5 g t
                          have := hN.draw.at g t
                          exact ⟨(World.cell?_of_block (w := w) (this.bel.block bc hbc)).trans ec, this⟩
                        have HQ := hid hq
                        clear hN ec hq hz NY
                        generalize L[m] = a at *
                        subst hpc
                        go_wp2_with fail
                        go_region_held (fun W => W.cell? ⟨bc, oc + m, none⟩ = some (.int .u16 a))
                          (first | (with_reducible exact sW) | (with_reducible exact sB))
                          ((go_at_call 11; refine hp.mono ?_; rintro e w5 ⟨rfl, g5, t5⟩; have sB := (HQ.out w5 g5 t5).1; have nB := hid (HQ.out w5 g5 t5).2; clear g5 t5))
                        clear hp sW HQ
                        go_wp2
                        go_roundw
                        case rel => exact ⟨m, (m : Int) - 1, by omega, rfl, rfl, nB.out⟩
                        case measure => first | (simp [intOf]; done) | (simp [intOf]; omega)
                      | zero =>
                        obtain rfl : z = -1 := by omega
                        have i1 : decide ((0 : Int) ≤ -1) = false := by decide
                        have N9 := hid hN
                        clear hN NY hz
                        go_wp2_with fail
                        refine (dlen b _ wr N9.out.d).mono ?_
                        rintro e w7 ⟨rfl, hw7⟩
                        obtain rfl := hw7.symm
                        go_wp2_with fail
                        refine (dpop_empty b wr (by have := N9.out.d; simpa using this)).mono ?_
                        rintro e w7 ⟨rfl, hw7⟩
                        obtain rfl := hw7.symm
                        go_wp2
                        go_ret
                        exact ⟨rfl, N9.out.bel⟩
theorem needs_cn (p p2 : Option Addr) (c c2 : Nat) (cells more : List Int) (hc : cells.length ≤ c) (hc2 : more.length ≤ c2) (hr : cells.length ≤ room) (hr2 : more.length ≤ room) (i o : Int) (w : World) (h1 : Sl eU 1 w p cells) (h2 : Sl eU 1 w p2 more) (hu : ¬ ((min cells.length 256 : Nat) : Int) < max i 0) (ho : ¬ max o 0 ≤ 300) (hx : ¬ ((min cells.length 256 : Nat) : Int) - max i 0 + ((min more.length 300 : Nat) : Int) ≤ 256) :
    Calls Try.prog 3 #[.slice p cells.length c, .int .i64 i, .int .i64 o, .slice p2 more.length c2] w fun e w' => e = .returned (.bool true) ∧ Below w.heap.size w w' := by
  have HU := hid hu
  have HX := hid hx
  have HO := hid ho
  clear hu hx ho
  have H1 := hid h1
  have H2 := hid h2
  clear h1 h2
  go_enter Try.func3, Try.ntmps3
  go_upto_if 23 with fail
  go_cut [0] (fun s0 wc => ∃ L : List Int, L.length = min cells.length 256 ∧ s0 = .slice p L.length c ∧ Sl eU 1 w p L ∧ wc = w)
  case first =>
    by_cases a : 256 < cells.length
    · have d1 : decide ((256 : Int) < (cells.length : Int)) = true := decide_eq_true (by omega)
      have hcc : 256 ≤ c := by omega
      go_wp2
      go_meet
      case rel => exact ⟨cells.take 256, by rw [List.length_take]; omega, by rw [List.length_take, Nat.min_eq_left (by omega)], H1.out.take 256, rfl⟩
    · have d1 : decide ((256 : Int) < (cells.length : Int)) = false := decide_eq_false (by omega)
      go_wp2
      go_meet
      case rel => exact ⟨cells, by omega, rfl, H1.out, rfl⟩
  case rest =>
    obtain ⟨L, hLm, rfl, hS, hwc⟩ := hcut
    have hL : L.length ≤ 256 := by omega
    have HL := hid hLm
    clear hLm
    obtain rfl := hwc.symm
    have S1 := hid hS
    have hst := stacks_any p none c 0 L [] (by unfold room; omega) (by decide) w hS (fun i a h => by simp at h)
    clear hS H1 hc hr
    go_wp2_with fail
    refine hst.mono ?_
    rintro e w1 ⟨bel, ⟨_, b, b2, rfl, g1, _, l1, _, _⟩ | ⟨cc, _⟩⟩
    rotate_left
    · exfalso; rw [mayS, decide_eq_true hL] at cc; exact absurd cc (by decide)
    have N1 := hid (NS.mk g1 l1 bel)
    clear hst bel g1 l1
    go_wp2_with fail
    refine (fixed_any w1).mono ?_
    rintro e w2 ⟨rfl, bel⟩
    have N2 := hid (N1.out.next bel)
    clear bel N1
    go_wp2_with fail
    refine (dneed b L i o w2 N2.out.d).mono ?_
    rintro e w3 ⟨rfl, hw3⟩
    obtain rfl := hw3.symm
    go_wp2_with fail
    refine (dlen b L w2 N2.out.d).mono ?_
    rintro e w3 ⟨rfl, hw3⟩
    obtain rfl := hw3.symm
    go_upto_region 9 with fail
    go_cut [1, 2] (fun s1 s2 wc => s1 = .int .i64 (max i 0) ∧ s2 = .int .i64 (max o 0) ∧ wc = w2)
    case first =>
      have hm : ∀ z : Int, max z 0 = if z < 0 then 0 else z := fun z => by split <;> omega
      by_cases a1 : i < 0
      · by_cases a2 : o < 0
        · go_wp2
          go_meet
          case rel => exact ⟨by rw [hm, if_pos a1], by rw [hm, if_pos a2], rfl⟩
        · go_wp2
          go_meet
          case rel => exact ⟨by rw [hm, if_pos a1], by rw [hm, if_neg (by omega)], rfl⟩
      · by_cases a2 : o < 0
        · go_wp2
          go_meet
          case rel => exact ⟨by rw [hm, if_neg (by omega)], by rw [hm, if_pos a2], rfl⟩
        · go_wp2
          go_meet
          case rel => exact ⟨by rw [hm, if_neg (by omega)], by rw [hm, if_neg (by omega)], rfl⟩
    case rest =>
      obtain ⟨rfl, rfl, hwc⟩ := hcut
      obtain rfl := hwc.symm
      have hI : 0 ≤ max i 0 := by omega
      have hO : 0 ≤ max o 0 := by omega
      have vu := hid (fun h => need_u (n := L.length) (i := i) (o := o) h)
      have vo := hid (fun h h2 => need_o (n := L.length) (i := i) (o := o) h h2)
      have v0 := hid (fun h h2 => need_0 (n := L.length) (i := i) (o := o) h h2)
      generalize need L.length i o = V at *
      generalize max i 0 = I at *
      generalize max o 0 = O at *
      have a1 : ¬ (L.length : Int) < I := by have := HU.out; have := HL.out; omega
      have d1 : decide ((L.length : Int) < I) = false := decide_eq_false a1
      obtain ⟨k0, rfl⟩ : ∃ k0 : Nat, I = k0 := ⟨I.toNat, by omega⟩
      have hk0 : k0 ≤ L.length := by omega
      clear vu hI
      go_wp2
      go_loopw [13] (fun j wr => ∃ k : Nat, k ≤ k0 ∧ j = .int .i64 (k : Int) ∧ NS w b wr (L.take (L.length - k))) (fun j _ => k0 - (intOf j).toNat)
      case atStart => exact ⟨0, by omega, rfl, by rw [Nat.sub_zero, List.take_length]; exact N2.out⟩
      case round =>
        obtain ⟨k, hk, rfl, hN⟩ := hrel
        by_cases hlt : k < k0
        · have i1 : decide ((k : Int) < (k0 : Int)) = true := decide_eq_true (by omega)
          obtain ⟨m, hm⟩ : ∃ m, L.length = m + k + 1 := ⟨L.length - k - 1, by omega⟩
          have hml : m < L.length := by omega
          obtain ⟨bc, oc, rfl, ec⟩ := S1.out.u m L[m] (List.getElem?_eq_getElem hml)
          have hbc : bc < w.heap.size := World.block_lt_of_cell? w _ ec
          have e1 : IntKind.i64.wrap ((L.length : Int) - 1) = (L.length : Int) - 1 := i64_id _ (by omega) (by omega)
          have e2 : IntKind.i64.wrap ((L.length : Int) - 1 - (k : Int)) = (m : Int) := by rw [i64_id _ (by omega) (by omega)]; omega
          have e3 : (m : Int) < (L.length : Int) := by omega
          rw [show L.length - k = m + 1 by omega, take_snoc L m hml] at hN
          have sW : wr.drew.cell? ⟨bc, oc + m, none⟩ = some (.int .u16 L[m]) := (World.cell?_of_block (w := w) (hN.bel.block bc hbc)).trans ec
          have hp := dpop b (L.take m) L[m] wr.drew hN.draw.d
          have hq : ∀ w5, HasD w5 b (L.take m) → At b wr.drew w5 → w5.cell? ⟨bc, oc + m, none⟩ = some (.int .u16 L[m]) ∧ NS w b w5 (L.take (L.length - (k + 1))) := by
            intro w5 g t
            have := hN.draw.at g t
            refine ⟨(World.cell?_of_block (w := w) (this.bel.block bc hbc)).trans ec, ?_⟩
            rw [show L.length - (k + 1) = m by omega]; exact this
          have HQ := hid hq
          clear hN ec hm hq vo v0 N2
          generalize L[m] = a at *
          go_wp2_with fail
          go_region_held (fun W => W.cell? ⟨bc, oc + m, none⟩ = some (.int .u16 a))
            (first | (with_reducible exact sW) | (with_reducible exact sB))
            ((go_at_call 11; refine hp.mono ?_; rintro e w5 ⟨rfl, g5, t5⟩; have sB := (HQ.out w5 g5 t5).1; have nB := hid (HQ.out w5 g5 t5).2; clear g5 t5))
          clear hp sW HQ
          go_wp2
          go_roundw
          case rel => exact ⟨k + 1, by omega, by go_num, nB.out⟩
          case measure => first | (simp [intOf]; done) | (simp [intOf]; omega)
        · obtain rfl : k = k0 := by omega
          have i1 : decide ((k : Int) < (k : Int)) = false := decide_eq_false (by omega)
          obtain ⟨left, hleft⟩ : ∃ left : Nat, L.length = left + k := ⟨L.length - k, by omega⟩
          have e1 : IntKind.i64.wrap ((L.length : Int) - (k : Int)) = (left : Int) := by rw [i64_id _ (by omega) (by omega)]; omega
          rw [show L.length - k = left by omega] at hN
          have hT : (L.take left).length = left := by rw [List.length_take]; omega
          have hleft2 : left ≤ L.length := by omega
          have hvo : 256 < (left : Int) + O → V = 2 := fun h => vo.out (by omega) (by omega)
          have hv0 : ¬ 256 < (left : Int) + O → V = 0 := fun h => v0.out (by omega) (by omega)
          have HT := hid hT
          have N3 := hid hN
          have HLf := hid hleft
          clear hN N2 vo v0 hleft hT
          have a2 : ¬ O ≤ 300 := by have := HO.out; omega
          · have d2 : decide ((300 : Int) < O) = true := decide_eq_true (by omega)
            obtain rfl := hvo (by omega)
            have hmk := make_zs 300 (by omega) wr
            obtain ⟨wA, hwA⟩ : ∃ wA, wr.alloc (.cells (en eU (zs 300)).toArray 32) = wA := ⟨_, rfl⟩
            have BA : Below wr.heap.size wr wA := by rw [← hwA]; exact (Below.refl _ _).alloc (Nat.le_refl _) _
            have N4 := hid (N3.out.next BA)
            have e4 : IntKind.i64.wrap ((left : Int) + 300) = (left : Int) + 300 := i64_id _ (by omega) (by omega)
            have d3 : decide ((256 : Int) < (left : Int) + 300) = true := decide_eq_true (by omega)
            have hp := dpush_no b (L.take left) (zs 300) (some ⟨wr.heap.size, 0, none⟩) 300 wA N4.out.d (by rw [HT.out, zs_len]; omega) (by rw [zs_len]; unfold room; omega)
            rw [zs_len] at hp
            have hln := dlen b _ wA N4.out.d
            rw [HT.out] at hln
            clear hvo hv0 BA N3
            simp only [Int.cast_ofNat_Int] at hmk
            go_wp2_with fail
            refine hp.mono ?_
            rintro e w4 ⟨rfl, hw4⟩
            obtain rfl := hw4.symm
            go_wp2_with fail
            refine hln.mono ?_
            rintro e w4 ⟨rfl, hw4⟩
            obtain rfl := hw4.symm
            obtain ⟨wx, hwx⟩ : ∃ wx, wx = wA := ⟨_, rfl⟩
            have NX := hid (show NS w b wx (L.take left) by rw [hwx]; exact N4.out)
            have hT := HT.out
            subst hwx
            clear hp hln N4 hmk hwA
            go_upto_if 132 with fail
            go_cut [3] (fun s3 wc => ∃ X : List Int, X.length = min more.length 300 ∧ s3 = .slice p2 X.length c2 ∧ Sl eU 1 w p2 X ∧ wc = wx)
            case first =>
              by_cases a : 300 < more.length
              · have d9 : decide ((300 : Int) < (more.length : Int)) = true := decide_eq_true (by omega)
                have hcc : 300 ≤ c2 := by omega
                go_wp2
                go_meet
                case rel => exact ⟨more.take 300, by rw [List.length_take]; omega, by rw [List.length_take, Nat.min_eq_left (by omega)], H2.out.take 300, rfl⟩
              · have d9 : decide ((300 : Int) < (more.length : Int)) = false := decide_eq_false (by omega)
                go_wp2
                go_meet
                case rel => exact ⟨more, by omega, rfl, H2.out, rfl⟩
            case rest =>
              obtain ⟨X, hXm, rfl, hSX, hwc⟩ := hcut
              have hX : X.length ≤ 300 := by omega
              have HXm := hid hXm
              clear hXm
              obtain rfl := hwc.symm
              have SX := hid hSX
              have SXx := hid (hSX.below NX.out.bel)
              clear hSX H2 hc2 hr2
              have e6 : IntKind.i64.wrap ((left : Int) + (X.length : Int)) = (left : Int) + (X.length : Int) := i64_id _ (by omega) (by omega)
              have e7 : IntKind.i64.wrap ((X.length : Int) - 1) = (X.length : Int) - 1 := i64_id _ (by omega) (by omega)
              have e8 : IntKind.i64.wrap ((left : Int) - 1) = (left : Int) - 1 := i64_id _ (by omega) (by omega)
              have a5 : ¬ left + X.length ≤ 256 := by have := HX.out; have := HU.out; have := HL.out; have := HXm.out; have := HLf.out; omega
              · have d5 : decide ((256 : Int) < (left : Int) + (X.length : Int)) = true := decide_eq_true (by omega)
                go_wp2_with fail
                refine (dpush_no b (L.take left) X p2 c2 wx NX.out.d (by rw [hT]; omega) (by unfold room; omega)).mono ?_
                rintro e w4 ⟨rfl, hw4⟩
                obtain rfl := hw4.symm
                go_wp2
                go_loopw [19] (fun j wr => (∃ z : Int, 0 ≤ z ∧ j = .int .i64 z) ∧ NS w b wr (L.take left)) (fun j _ => 0)
                case atStart => exact ⟨⟨_, by omega, rfl⟩, NX.out⟩
                case round =>
                  obtain ⟨⟨z, az, rfl⟩, hN⟩ := hrel
                  have NY := hid hN
                  clear hN NX
                  have i1 : decide (0 ≤ z) = true := decide_eq_true az
                  go_wp2
                  go_loopw [20] (fun j wr => ∃ (k : Nat) (z : Int), k ≤ left ∧ z = (k : Int) - 1 ∧ j = .int .i64 z ∧ NS w b wr (L.take k)) (fun j _ => (intOf j + 1).toNat)
                  case atStart => exact ⟨left, (left : Int) - 1, Nat.le_refl _, rfl, rfl, NY.out⟩
                  case round =>
                    obtain ⟨k, z, hk, hz, rfl, hN⟩ := hrel
                    cases k with
                    | succ m =>
                      obtain rfl : (m : Int) = z := by omega
                      have hml : m < L.length := by omega
                      have i1 : decide ((0 : Int) ≤ (m : Int)) = true := decide_eq_true (by omega)
                      obtain ⟨bc, oc, hpc, ec⟩ := S1.out.u m L[m] (List.getElem?_eq_getElem hml)
                      have hbc : bc < w.heap.size := World.block_lt_of_cell? w _ ec
                      have e1 : IntKind.i64.wrap ((m : Int) - 1) = (m : Int) - 1 := i64_id _ (by omega) (by omega)
                      have e3 : (m : Int) < (L.length : Int) := by omega
                      rw [take_snoc L m hml] at hN
                      have sW : wr.drew.cell? ⟨bc, oc + m, none⟩ = some (.int .u16 L[m]) := (World.cell?_of_block (w := w) (hN.bel.block bc hbc)).trans ec
                      have hp := dpop b (L.take m) L[m] wr.drew hN.draw.d
                      have hq : ∀ w5, HasD w5 b (L.take m) → At b wr.drew w5 → w5.cell? ⟨bc, oc + m, none⟩ = some (.int .u16 L[m]) ∧ NS w b w5 (L.take m) := by
                        intro w5 g t
                        have := hN.draw.at g t
                        exact ⟨(World.cell?_of_block (w := w) (this.bel.block bc hbc)).trans ec, this⟩
                      have HQ := hid hq
                      clear hN ec hq hz NY
                      generalize L[m] = a at *
                      subst hpc
                      go_wp2_with fail
                      go_region_held (fun W => W.cell? ⟨bc, oc + m, none⟩ = some (.int .u16 a))
                        (first | (with_reducible exact sW) | (with_reducible exact sB))
                        ((go_at_call 11; refine hp.mono ?_; rintro e w5 ⟨rfl, g5, t5⟩; have sB := (HQ.out w5 g5 t5).1; have nB := hid (HQ.out w5 g5 t5).2; clear g5 t5))
                      clear hp sW HQ
                      go_wp2
                      go_roundw
                      case rel => exact ⟨m, (m : Int) - 1, by omega, rfl, rfl, nB.out⟩
                      case measure => first | (simp [intOf]; done) | (simp [intOf]; omega)
                    | zero =>
                      obtain rfl : z = -1 := by omega
                      have i1 : decide ((0 : Int) ≤ -1) = false := by decide
                      have N9 := hid hN
                      clear hN NY hz
                      go_wp2_with fail
                      refine (dlen b _ wr N9.out.d).mono ?_
                      rintro e w7 ⟨rfl, hw7⟩
                      obtain rfl := hw7.symm
                      go_wp2_with fail
                      refine (dpop_empty b wr (by have := N9.out.d; simpa using this)).mono ?_
                      rintro e w7 ⟨rfl, hw7⟩
                      obtain rfl := hw7.symm
                      go_wp2
                      go_ret
                      exact ⟨rfl, N9.out.bel⟩
end Go.Proofs.Ytcnhfgoflfnocaa
