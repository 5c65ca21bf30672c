import Derived.Test.YtlilefhmohkfkaaGreatDoorRFits
namespace Go.Proofs.YtlilefhmohkfkaaGreatDoor.R
open Go.RowKit
open Go.Proofs
open Go.Proofs.YtlilefhmohkfkaaGreatDoor.Y (Nd Df Ps ndc dfc hid NV cells9)
set_option linter.unusedVariables false
set_option linter.unusedSimpArgs false
set_option maxHeartbeats 2000000
set_option maxRecDepth 100000
theorem nd_b9 (names : List ByteArray) (n : Nd) (q1 q2 : Option Addr) (d1 d2 : Nat) (mb : Nat) (dp : Nat) (dO : Bool) (W : World) (hM : MP W mb (numb names 0)) (h1 : uses n = true) (h2 : fits names n = true) (h3 : (n.k == 9) = true) (h4 : strc n.k = false) (hd : dO = false) (hdp : dp <= 32) (r1 r2 R : Int) (hR : R = if r1 = 0 then r2 else r1) (hN1 : ∀ w, Below W.heap.size W w -> Calls Tryz.prog 66 #[.agg #[.map (some mb)], .slice q1 n.th.length d1, .agg #[.int .i64 ((dp : Int) + 1), .bool (n.k == 8)]] w fun e w' => e = .returned (.int .i64 r1) /\ Below w.heap.size w w') (hN2 : ∀ w, Below W.heap.size W w -> Calls Tryz.prog 66 #[.agg #[.map (some mb)], .slice q2 n.el.length d2, .agg #[.int .i64 ((dp : Int) + 1), .bool (n.k == 8)]] w fun e w' => e = .returned (.int .i64 r2) /\ Below w.heap.size w w') :
    Calls Tryz.prog 80 #[.agg #[.map (some mb)], .agg #[.int .i64 n.k, .int .i64 n.op, .int .u16 n.v, .string n.nm, .slice q1 n.th.length d1, .slice q2 n.el.length d2, .bool n.has, .int .i64 n.p.1, .int .i64 n.p.2], .agg #[.int .i64 (dp : Int), .bool dO]] W fun e w' => e = .returned (.int .i64 R) /\ Below W.heap.size W w' := by
  obtain ⟨W0, W1, W2, hW0, hW1, hW2, hB, hs0, hs1, hs2, hv⟩ := box_three mb n q1 q2 d1 d2 (dp : Int) dO W
  have hu : ∀ w, Calls Tryz.prog 95 #[.agg #[.int .i64 n.k, .int .i64 n.op, .int .u16 n.v, .string n.nm, .slice q1 n.th.length d1, .slice q2 n.el.length d2, .bool n.has, .int .i64 n.p.1, .int .i64 n.p.2]] w fun e w' => e = .returned (.bool (uses n)) /\ Below w.heap.size w w' := fun w => usesAll_any n d1 d2 q1 q2 w
  have hf : ∀ w, Below W2.heap.size W2 w -> Calls Tryz.prog 96 #[.agg #[.map (some mb)], .agg #[.int .i64 n.k, .int .i64 n.op, .int .u16 n.v, .string n.nm, .slice q1 n.th.length d1, .slice q2 n.el.length d2, .bool n.has, .int .i64 n.p.1, .int .i64 n.p.2]] w fun e w' => e = .returned (.bool (fits names n)) /\ Below w.heap.size w w' := fun w hw => wordFits_any names n mb q1 q2 n.th.length d1 n.el.length d2 w ((hM.below hB hM.lt).below hw (Nat.lt_of_lt_of_le hM.lt hB.size))
  have hst : ∀ w, Calls Tryz.prog 97 #[.agg #[.int .i64 n.k, .int .i64 n.op, .int .u16 n.v, .string n.nm, .slice q1 n.th.length d1, .slice q2 n.el.length d2, .bool n.has, .int .i64 n.p.1, .int .i64 n.p.2]] w fun e w' => e = .returned (.bool (strc n.k)) /\ Below w.heap.size w w' := fun w => isStructure_any n q1 q2 n.th.length d1 n.el.length d2 w
  have HV : ∀ w, Below W2.heap.size W2 w -> B3 w W.heap.size W0.heap.size W1.heap.size mb (ndc n (.slice q1 n.th.length d1) (.slice q2 n.el.length d2)) (dp : Int) dO := fun w hw => hv.below hw (by omega) (by omega) (by omega)
  have HB := hid hB
  have HS := hid (And.intro hs0 (And.intro hs1 hs2))
  have HM := hid hM
  clear hM hB hv hs0 hs1 hs2
  have H2 := hid (Below.refl W2.heap.size W2)
  subst hd
  simp only [h1] at hu
  simp only [h2] at hf
  simp only [h4] at hst
  have hdo : ∀ w, Calls Tryz.prog 98 #[.agg #[.int .i64 n.k, .int .i64 n.op, .int .u16 n.v, .string n.nm, .slice q1 n.th.length d1, .slice q2 n.el.length d2, .bool n.has, .int .i64 n.p.1, .int .i64 n.p.2]] w fun e w' => e = .returned (.bool (n.k == 8)) /\ Below w.heap.size w w' := fun w => isDo_any n q1 q2 n.th.length d1 n.el.length d2 w
  have HRR := hid hR
  clear hR
  have HN1 := hid hN1
  have HN2 := hid hN2
  clear hN1 hN2
  go_enter Tryz.func80, Tryz.ntmps80
  obtain ⟨y0, y1, y2⟩ := id (HV _ H2.out)
  have c0 := S.cell_of W2 _ 0 _ 105 _ y0 rfl
  have x0 := S.cell_of W2 _ 0 _ 30 _ y1 rfl
  have x1 := S.cell_of W2 _ 1 _ 30 _ y1 rfl
  have x2 := S.cell_of W2 _ 2 _ 30 _ y1 rfl
  have x3 := S.cell_of W2 _ 3 _ 30 _ y1 rfl
  have x4 := S.cell_of W2 _ 4 _ 30 _ y1 rfl
  have x5 := S.cell_of W2 _ 5 _ 30 _ y1 rfl
  have x6 := S.cell_of W2 _ 6 _ 30 _ y1 rfl
  have x7 := S.cell_of W2 _ 7 _ 30 _ y1 rfl
  have x8 := S.cell_of W2 _ 8 _ 30 _ y1 rfl
  have i0 := S.cell_of W2 _ 0 _ 127 _ y2 rfl
  have i1 := S.cell_of W2 _ 1 _ 127 _ y2 rfl
  clear y0 y1 y2
  go_wp2_with fail
  refine (hu _).mono ?_
  rintro e w1 ⟨rfl, hb⟩
  have Hw1 := hid (H2.out.trans (hb.mono H2.out.size))
  clear hb
  clear c0 x0 x1 x2 x3 x4 x5 x6 x7 x8 i0 i1 hu hW0 hW1 hW2
  obtain ⟨y0, y1, y2⟩ := id (HV _ Hw1.out)
  have c0 := S.cell_of w1 _ 0 _ 105 _ y0 rfl
  have x0 := S.cell_of w1 _ 0 _ 30 _ y1 rfl
  have x1 := S.cell_of w1 _ 1 _ 30 _ y1 rfl
  have x2 := S.cell_of w1 _ 2 _ 30 _ y1 rfl
  have x3 := S.cell_of w1 _ 3 _ 30 _ y1 rfl
  have x4 := S.cell_of w1 _ 4 _ 30 _ y1 rfl
  have x5 := S.cell_of w1 _ 5 _ 30 _ y1 rfl
  have x6 := S.cell_of w1 _ 6 _ 30 _ y1 rfl
  have x7 := S.cell_of w1 _ 7 _ 30 _ y1 rfl
  have x8 := S.cell_of w1 _ 8 _ 30 _ y1 rfl
  have i0 := S.cell_of w1 _ 0 _ 127 _ y2 rfl
  have i1 := S.cell_of w1 _ 1 _ 127 _ y2 rfl
  clear y0 y1 y2
  go_wp2_with fail
  refine (hf _ (by with_reducible exact Hw1.out)).mono ?_
  rintro e w2 ⟨rfl, hb⟩
  have Hw2 := hid (Hw1.out.trans (hb.mono Hw1.out.size))
  clear hb
  clear c0 x0 x1 x2 x3 x4 x5 x6 x7 x8 i0 i1 hf
  obtain ⟨y0, y1, y2⟩ := id (HV _ Hw2.out)
  have c0 := S.cell_of w2 _ 0 _ 105 _ y0 rfl
  have x0 := S.cell_of w2 _ 0 _ 30 _ y1 rfl
  have x1 := S.cell_of w2 _ 1 _ 30 _ y1 rfl
  have x2 := S.cell_of w2 _ 2 _ 30 _ y1 rfl
  have x3 := S.cell_of w2 _ 3 _ 30 _ y1 rfl
  have x4 := S.cell_of w2 _ 4 _ 30 _ y1 rfl
  have x5 := S.cell_of w2 _ 5 _ 30 _ y1 rfl
  have x6 := S.cell_of w2 _ 6 _ 30 _ y1 rfl
  have x7 := S.cell_of w2 _ 7 _ 30 _ y1 rfl
  have x8 := S.cell_of w2 _ 8 _ 30 _ y1 rfl
  have i0 := S.cell_of w2 _ 0 _ 127 _ y2 rfl
  have i1 := S.cell_of w2 _ 1 _ 127 _ y2 rfl
  clear y0 y1 y2
  go_wp2_with fail
  refine (hst _).mono ?_
  rintro e w3 ⟨rfl, hb⟩
  have Hw3 := hid (Hw2.out.trans (hb.mono Hw2.out.size))
  clear hb
  clear c0 x0 x1 x2 x3 x4 x5 x6 x7 x8 i0 i1 hst
  obtain ⟨y0, y1, y2⟩ := id (HV _ Hw3.out)
  have c0 := S.cell_of w3 _ 0 _ 105 _ y0 rfl
  have x0 := S.cell_of w3 _ 0 _ 30 _ y1 rfl
  have x1 := S.cell_of w3 _ 1 _ 30 _ y1 rfl
  have x2 := S.cell_of w3 _ 2 _ 30 _ y1 rfl
  have x3 := S.cell_of w3 _ 3 _ 30 _ y1 rfl
  have x4 := S.cell_of w3 _ 4 _ 30 _ y1 rfl
  have x5 := S.cell_of w3 _ 5 _ 30 _ y1 rfl
  have x6 := S.cell_of w3 _ 6 _ 30 _ y1 rfl
  have x7 := S.cell_of w3 _ 7 _ 30 _ y1 rfl
  have x8 := S.cell_of w3 _ 8 _ 30 _ y1 rfl
  have i0 := S.cell_of w3 _ 0 _ 127 _ y2 rfl
  have i1 := S.cell_of w3 _ 1 _ 127 _ y2 rfl
  clear y0 y1 y2
  have z0 := S.frozen_of w3 W1.heap.size 0 _ 127 (HV _ Hw3.out).2.2
  have z1 := S.frozen_of w3 W1.heap.size 1 _ 127 (HV _ Hw3.out).2.2
  go_upto_region 9 with fail
  go_cut [] (fun wc => Below W.heap.size W wc /\ B3 wc W.heap.size W0.heap.size W1.heap.size mb (ndc n (.slice q1 n.th.length d1) (.slice q2 n.el.length d2)) ((dp : Int) + 1) (n.k == 8))
  case first =>
    go_region_with (first | (go_at_call 98; refine (hdo _).mono ?_; rintro e w4 ⟨rfl, hb4⟩; have Hw4 := hid ((Hw3.out.drew).trans (hb4.mono Hw3.out.size)); clear hb4; have y2 := (HV _ Hw4.out).2.2; have i0 := S.cell_of w4 _ 0 _ 127 _ y2 rfl; have i1 := S.cell_of w4 _ 1 _ 127 _ y2 rfl; have z0 := S.frozen_of w4 W1.heap.size 0 _ 127 y2; have z1 := S.frozen_of w4 W1.heap.size 1 _ 127 y2; clear y2))
    all_goals
      go_wp2
      go_meet
      case rel =>
        rw [S.i64_id _ (by omega) (by omega)]
        have hbz := HB.out.trans (Hw4.out.mono HB.out.size)
        have hvz := HV _ Hw4.out
        have hge : W.heap.size <= W1.heap.size := by have := HS.out.2.1; omega
        refine ⟨?_, ?_, ?_, ?_⟩
        · first
            | exact ((hbz.setCell (p := ⟨W1.heap.size, 0, none⟩) hge _).setCell (p := ⟨W1.heap.size, 1, none⟩) hge _).drew
            | exact ((hbz.setCell (p := ⟨W1.heap.size, 0, none⟩) hge _).setCell (p := ⟨W1.heap.size, 1, none⟩) hge _)
        · exact (S.setCell_other _ _ _ _ _ (by have := HS.out.2.1; omega)).trans ((S.setCell_other _ _ _ _ _ (by have := HS.out.2.1; omega)).trans hvz.1)
        · exact (S.setCell_other _ _ _ _ _ (by have := HS.out.2.1; have := HS.out.1; omega)).trans ((S.setCell_other _ _ _ _ _ (by have := HS.out.2.1; have := HS.out.1; omega)).trans hvz.2.1)
        · exact S.setCell_heap _ W1.heap.size 1 _ 127 _ (S.setCell_heap _ W1.heap.size 0 _ 127 _ hvz.2.2)
  case rest =>
    obtain ⟨hbc, hvc⟩ := hcut
    have HC := hid hbc
    have HVC := hid hvc
    clear hbc hvc z0 z1 hdo HV
    clear c0 x0 x1 x2 x3 x4 x5 x6 x7 x8 i0 i1
    obtain ⟨y0, y1, y2⟩ := id HVC.out
    have c0 := S.cell_of wc _ 0 _ 105 _ y0 rfl
    have x0 := S.cell_of wc _ 0 _ 30 _ y1 rfl
    have x1 := S.cell_of wc _ 1 _ 30 _ y1 rfl
    have x2 := S.cell_of wc _ 2 _ 30 _ y1 rfl
    have x3 := S.cell_of wc _ 3 _ 30 _ y1 rfl
    have x4 := S.cell_of wc _ 4 _ 30 _ y1 rfl
    have x5 := S.cell_of wc _ 5 _ 30 _ y1 rfl
    have x6 := S.cell_of wc _ 6 _ 30 _ y1 rfl
    have x7 := S.cell_of wc _ 7 _ 30 _ y1 rfl
    have x8 := S.cell_of wc _ 8 _ 30 _ y1 rfl
    have i0 := S.cell_of wc _ 0 _ 127 _ y2 rfl
    have i1 := S.cell_of wc _ 1 _ 127 _ y2 rfl
    clear y0 y1 y2
    go_wp2_with fail
    refine (HN1.out _ HC.out).mono ?_
    rintro e w5 ⟨rfl, hb5⟩
    have H5 := hid (HC.out.trans (hb5.mono HC.out.size))
    have hv5 : B3 w5 W.heap.size W0.heap.size W1.heap.size mb (ndc n (.slice q1 n.th.length d1) (.slice q2 n.el.length d2)) ((dp : Int) + 1) (n.k == 8) := HVC.out.below hb5 (S.lt_of HVC.out.1) (S.lt_of HVC.out.2.1) (S.lt_of HVC.out.2.2)
    have HV5 := hid hv5
    clear hb5 hv5
    clear c0 x0 x1 x2 x3 x4 x5 x6 x7 x8 i0 i1
    by_cases hr : r1 = 0
    · subst hr
      obtain ⟨y0, y1, y2⟩ := id HV5.out
      have c0 := S.cell_of w5 _ 0 _ 105 _ y0 rfl
      have x0 := S.cell_of w5 _ 0 _ 30 _ y1 rfl
      have x1 := S.cell_of w5 _ 1 _ 30 _ y1 rfl
      have x2 := S.cell_of w5 _ 2 _ 30 _ y1 rfl
      have x3 := S.cell_of w5 _ 3 _ 30 _ y1 rfl
      have x4 := S.cell_of w5 _ 4 _ 30 _ y1 rfl
      have x5 := S.cell_of w5 _ 5 _ 30 _ y1 rfl
      have x6 := S.cell_of w5 _ 6 _ 30 _ y1 rfl
      have x7 := S.cell_of w5 _ 7 _ 30 _ y1 rfl
      have x8 := S.cell_of w5 _ 8 _ 30 _ y1 rfl
      have i0 := S.cell_of w5 _ 0 _ 127 _ y2 rfl
      have i1 := S.cell_of w5 _ 1 _ 127 _ y2 rfl
      clear y0 y1 y2
      go_wp2_with fail
      refine (HN2.out _ H5.out).mono ?_
      rintro e w6 ⟨rfl, hb6⟩
      have H6 := hid (H5.out.trans (hb6.mono H5.out.size))
      clear hb6
      clear c0 x0 x1 x2 x3 x4 x5 x6 x7 x8 i0 i1
      go_wp2
      go_ret
      exact ⟨by rw [HRR.out]; rfl, H6.out⟩
    · have HR := hid hr
      have hr1 : (r1 != 0) = true := by simpa using hr
      clear hr
      go_wp2
      go_ret
      exact ⟨by rw [HRR.out, if_neg HR.out]; rfl, H5.out⟩
theorem nd_b0 (names : List ByteArray) (n : Nd) (q1 q2 : Option Addr) (d1 d2 : Nat) (mb : Nat) (dp : Nat) (dO : Bool) (W : World) (hM : MP W mb (numb names 0)) (h1 : uses n = true) (h2 : fits names n = true) (h3 : (n.k == 9) = false) (h4 : strc n.k = false) (hd : dO = false) (hdp : dp <= 32) (r1 r2 R : Int) (hR : R = if r1 = 0 then r2 else r1) (hN1 : ∀ w, Below W.heap.size W w -> Calls Tryz.prog 66 #[.agg #[.map (some mb)], .slice q1 n.th.length d1, .agg #[.int .i64 ((dp : Int) + 1), .bool (n.k == 8)]] w fun e w' => e = .returned (.int .i64 r1) /\ Below w.heap.size w w') (hN2 : ∀ w, Below W.heap.size W w -> Calls Tryz.prog 66 #[.agg #[.map (some mb)], .slice q2 n.el.length d2, .agg #[.int .i64 ((dp : Int) + 1), .bool (n.k == 8)]] w fun e w' => e = .returned (.int .i64 r2) /\ Below w.heap.size w w') :
    Calls Tryz.prog 80 #[.agg #[.map (some mb)], .agg #[.int .i64 n.k, .int .i64 n.op, .int .u16 n.v, .string n.nm, .slice q1 n.th.length d1, .slice q2 n.el.length d2, .bool n.has, .int .i64 n.p.1, .int .i64 n.p.2], .agg #[.int .i64 (dp : Int), .bool dO]] W fun e w' => e = .returned (.int .i64 R) /\ Below W.heap.size W w' := by
  obtain ⟨W0, W1, W2, hW0, hW1, hW2, hB, hs0, hs1, hs2, hv⟩ := box_three mb n q1 q2 d1 d2 (dp : Int) dO W
  have hu : ∀ w, Calls Tryz.prog 95 #[.agg #[.int .i64 n.k, .int .i64 n.op, .int .u16 n.v, .string n.nm, .slice q1 n.th.length d1, .slice q2 n.el.length d2, .bool n.has, .int .i64 n.p.1, .int .i64 n.p.2]] w fun e w' => e = .returned (.bool (uses n)) /\ Below w.heap.size w w' := fun w => usesAll_any n d1 d2 q1 q2 w
  have hf : ∀ w, Below W2.heap.size W2 w -> Calls Tryz.prog 96 #[.agg #[.map (some mb)], .agg #[.int .i64 n.k, .int .i64 n.op, .int .u16 n.v, .string n.nm, .slice q1 n.th.length d1, .slice q2 n.el.length d2, .bool n.has, .int .i64 n.p.1, .int .i64 n.p.2]] w fun e w' => e = .returned (.bool (fits names n)) /\ Below w.heap.size w w' := fun w hw => wordFits_any names n mb q1 q2 n.th.length d1 n.el.length d2 w ((hM.below hB hM.lt).below hw (Nat.lt_of_lt_of_le hM.lt hB.size))
  have hst : ∀ w, Calls Tryz.prog 97 #[.agg #[.int .i64 n.k, .int .i64 n.op, .int .u16 n.v, .string n.nm, .slice q1 n.th.length d1, .slice q2 n.el.length d2, .bool n.has, .int .i64 n.p.1, .int .i64 n.p.2]] w fun e w' => e = .returned (.bool (strc n.k)) /\ Below w.heap.size w w' := fun w => isStructure_any n q1 q2 n.th.length d1 n.el.length d2 w
  have HV : ∀ w, Below W2.heap.size W2 w -> B3 w W.heap.size W0.heap.size W1.heap.size mb (ndc n (.slice q1 n.th.length d1) (.slice q2 n.el.length d2)) (dp : Int) dO := fun w hw => hv.below hw (by omega) (by omega) (by omega)
  have HB := hid hB
  have HS := hid (And.intro hs0 (And.intro hs1 hs2))
  have HM := hid hM
  clear hM hB hv hs0 hs1 hs2
  have H2 := hid (Below.refl W2.heap.size W2)
  subst hd
  simp only [h1] at hu
  simp only [h2] at hf
  simp only [h4] at hst
  have hdo : ∀ w, Calls Tryz.prog 98 #[.agg #[.int .i64 n.k, .int .i64 n.op, .int .u16 n.v, .string n.nm, .slice q1 n.th.length d1, .slice q2 n.el.length d2, .bool n.has, .int .i64 n.p.1, .int .i64 n.p.2]] w fun e w' => e = .returned (.bool (n.k == 8)) /\ Below w.heap.size w w' := fun w => isDo_any n q1 q2 n.th.length d1 n.el.length d2 w
  have HRR := hid hR
  clear hR
  have HN1 := hid hN1
  have HN2 := hid hN2
  clear hN1 hN2
  go_enter Tryz.func80, Tryz.ntmps80
  obtain ⟨y0, y1, y2⟩ := id (HV _ H2.out)
  have c0 := S.cell_of W2 _ 0 _ 105 _ y0 rfl
  have x0 := S.cell_of W2 _ 0 _ 30 _ y1 rfl
  have x1 := S.cell_of W2 _ 1 _ 30 _ y1 rfl
  have x2 := S.cell_of W2 _ 2 _ 30 _ y1 rfl
  have x3 := S.cell_of W2 _ 3 _ 30 _ y1 rfl
  have x4 := S.cell_of W2 _ 4 _ 30 _ y1 rfl
  have x5 := S.cell_of W2 _ 5 _ 30 _ y1 rfl
  have x6 := S.cell_of W2 _ 6 _ 30 _ y1 rfl
  have x7 := S.cell_of W2 _ 7 _ 30 _ y1 rfl
  have x8 := S.cell_of W2 _ 8 _ 30 _ y1 rfl
  have i0 := S.cell_of W2 _ 0 _ 127 _ y2 rfl
  have i1 := S.cell_of W2 _ 1 _ 127 _ y2 rfl
  clear y0 y1 y2
  go_wp2_with fail
  refine (hu _).mono ?_
  rintro e w1 ⟨rfl, hb⟩
  have Hw1 := hid (H2.out.trans (hb.mono H2.out.size))
  clear hb
  clear c0 x0 x1 x2 x3 x4 x5 x6 x7 x8 i0 i1 hu hW0 hW1 hW2
  obtain ⟨y0, y1, y2⟩ := id (HV _ Hw1.out)
  have c0 := S.cell_of w1 _ 0 _ 105 _ y0 rfl
  have x0 := S.cell_of w1 _ 0 _ 30 _ y1 rfl
  have x1 := S.cell_of w1 _ 1 _ 30 _ y1 rfl
  have x2 := S.cell_of w1 _ 2 _ 30 _ y1 rfl
  have x3 := S.cell_of w1 _ 3 _ 30 _ y1 rfl
  have x4 := S.cell_of w1 _ 4 _ 30 _ y1 rfl
  have x5 := S.cell_of w1 _ 5 _ 30 _ y1 rfl
  have x6 := S.cell_of w1 _ 6 _ 30 _ y1 rfl
  have x7 := S.cell_of w1 _ 7 _ 30 _ y1 rfl
  have x8 := S.cell_of w1 _ 8 _ 30 _ y1 rfl
  have i0 := S.cell_of w1 _ 0 _ 127 _ y2 rfl
  have i1 := S.cell_of w1 _ 1 _ 127 _ y2 rfl
  clear y0 y1 y2
  go_wp2_with fail
  refine (hf _ (by with_reducible exact Hw1.out)).mono ?_
  rintro e w2 ⟨rfl, hb⟩
  have Hw2 := hid (Hw1.out.trans (hb.mono Hw1.out.size))
  clear hb
  clear c0 x0 x1 x2 x3 x4 x5 x6 x7 x8 i0 i1 hf
  obtain ⟨y0, y1, y2⟩ := id (HV _ Hw2.out)
  have c0 := S.cell_of w2 _ 0 _ 105 _ y0 rfl
  have x0 := S.cell_of w2 _ 0 _ 30 _ y1 rfl
  have x1 := S.cell_of w2 _ 1 _ 30 _ y1 rfl
  have x2 := S.cell_of w2 _ 2 _ 30 _ y1 rfl
  have x3 := S.cell_of w2 _ 3 _ 30 _ y1 rfl
  have x4 := S.cell_of w2 _ 4 _ 30 _ y1 rfl
  have x5 := S.cell_of w2 _ 5 _ 30 _ y1 rfl
  have x6 := S.cell_of w2 _ 6 _ 30 _ y1 rfl
  have x7 := S.cell_of w2 _ 7 _ 30 _ y1 rfl
  have x8 := S.cell_of w2 _ 8 _ 30 _ y1 rfl
  have i0 := S.cell_of w2 _ 0 _ 127 _ y2 rfl
  have i1 := S.cell_of w2 _ 1 _ 127 _ y2 rfl
  clear y0 y1 y2
  go_wp2_with fail
  refine (hst _).mono ?_
  rintro e w3 ⟨rfl, hb⟩
  have Hw3 := hid (Hw2.out.trans (hb.mono Hw2.out.size))
  clear hb
  clear c0 x0 x1 x2 x3 x4 x5 x6 x7 x8 i0 i1 hst
  obtain ⟨y0, y1, y2⟩ := id (HV _ Hw3.out)
  have c0 := S.cell_of w3 _ 0 _ 105 _ y0 rfl
  have x0 := S.cell_of w3 _ 0 _ 30 _ y1 rfl
  have x1 := S.cell_of w3 _ 1 _ 30 _ y1 rfl
  have x2 := S.cell_of w3 _ 2 _ 30 _ y1 rfl
  have x3 := S.cell_of w3 _ 3 _ 30 _ y1 rfl
  have x4 := S.cell_of w3 _ 4 _ 30 _ y1 rfl
  have x5 := S.cell_of w3 _ 5 _ 30 _ y1 rfl
  have x6 := S.cell_of w3 _ 6 _ 30 _ y1 rfl
  have x7 := S.cell_of w3 _ 7 _ 30 _ y1 rfl
  have x8 := S.cell_of w3 _ 8 _ 30 _ y1 rfl
  have i0 := S.cell_of w3 _ 0 _ 127 _ y2 rfl
  have i1 := S.cell_of w3 _ 1 _ 127 _ y2 rfl
  clear y0 y1 y2
  have z0 := S.frozen_of w3 W1.heap.size 0 _ 127 (HV _ Hw3.out).2.2
  have z1 := S.frozen_of w3 W1.heap.size 1 _ 127 (HV _ Hw3.out).2.2
  go_upto_region 9 with fail
  go_cut [] (fun wc => Below W.heap.size W wc /\ B3 wc W.heap.size W0.heap.size W1.heap.size mb (ndc n (.slice q1 n.th.length d1) (.slice q2 n.el.length d2)) ((dp : Int) + 1) (n.k == 8))
  case first =>
    go_region_with (first | (go_at_call 98; refine (hdo _).mono ?_; rintro e w4 ⟨rfl, hb4⟩; have Hw4 := hid ((Hw3.out.drew).trans (hb4.mono Hw3.out.size)); clear hb4; have y2 := (HV _ Hw4.out).2.2; have i0 := S.cell_of w4 _ 0 _ 127 _ y2 rfl; have i1 := S.cell_of w4 _ 1 _ 127 _ y2 rfl; have z0 := S.frozen_of w4 W1.heap.size 0 _ 127 y2; have z1 := S.frozen_of w4 W1.heap.size 1 _ 127 y2; clear y2))
    all_goals
      go_wp2
      go_meet
      case rel =>
        rw [S.i64_id _ (by omega) (by omega)]
        have hbz := HB.out.trans (Hw4.out.mono HB.out.size)
        have hvz := HV _ Hw4.out
        have hge : W.heap.size <= W1.heap.size := by have := HS.out.2.1; omega
        refine ⟨?_, ?_, ?_, ?_⟩
        · first
            | exact ((hbz.setCell (p := ⟨W1.heap.size, 0, none⟩) hge _).setCell (p := ⟨W1.heap.size, 1, none⟩) hge _).drew
            | exact ((hbz.setCell (p := ⟨W1.heap.size, 0, none⟩) hge _).setCell (p := ⟨W1.heap.size, 1, none⟩) hge _)
        · exact (S.setCell_other _ _ _ _ _ (by have := HS.out.2.1; omega)).trans ((S.setCell_other _ _ _ _ _ (by have := HS.out.2.1; omega)).trans hvz.1)
        · exact (S.setCell_other _ _ _ _ _ (by have := HS.out.2.1; have := HS.out.1; omega)).trans ((S.setCell_other _ _ _ _ _ (by have := HS.out.2.1; have := HS.out.1; omega)).trans hvz.2.1)
        · exact S.setCell_heap _ W1.heap.size 1 _ 127 _ (S.setCell_heap _ W1.heap.size 0 _ 127 _ hvz.2.2)
  case rest =>
    obtain ⟨hbc, hvc⟩ := hcut
    have HC := hid hbc
    have HVC := hid hvc
    clear hbc hvc z0 z1 hdo HV
    clear c0 x0 x1 x2 x3 x4 x5 x6 x7 x8 i0 i1
    obtain ⟨y0, y1, y2⟩ := id HVC.out
    have c0 := S.cell_of wc _ 0 _ 105 _ y0 rfl
    have x0 := S.cell_of wc _ 0 _ 30 _ y1 rfl
    have x1 := S.cell_of wc _ 1 _ 30 _ y1 rfl
    have x2 := S.cell_of wc _ 2 _ 30 _ y1 rfl
    have x3 := S.cell_of wc _ 3 _ 30 _ y1 rfl
    have x4 := S.cell_of wc _ 4 _ 30 _ y1 rfl
    have x5 := S.cell_of wc _ 5 _ 30 _ y1 rfl
    have x6 := S.cell_of wc _ 6 _ 30 _ y1 rfl
    have x7 := S.cell_of wc _ 7 _ 30 _ y1 rfl
    have x8 := S.cell_of wc _ 8 _ 30 _ y1 rfl
    have i0 := S.cell_of wc _ 0 _ 127 _ y2 rfl
    have i1 := S.cell_of wc _ 1 _ 127 _ y2 rfl
    clear y0 y1 y2
    go_wp2_with fail
    refine (HN1.out _ HC.out).mono ?_
    rintro e w5 ⟨rfl, hb5⟩
    have H5 := hid (HC.out.trans (hb5.mono HC.out.size))
    have hv5 : B3 w5 W.heap.size W0.heap.size W1.heap.size mb (ndc n (.slice q1 n.th.length d1) (.slice q2 n.el.length d2)) ((dp : Int) + 1) (n.k == 8) := HVC.out.below hb5 (S.lt_of HVC.out.1) (S.lt_of HVC.out.2.1) (S.lt_of HVC.out.2.2)
    have HV5 := hid hv5
    clear hb5 hv5
    clear c0 x0 x1 x2 x3 x4 x5 x6 x7 x8 i0 i1
    by_cases hr : r1 = 0
    · subst hr
      obtain ⟨y0, y1, y2⟩ := id HV5.out
      have c0 := S.cell_of w5 _ 0 _ 105 _ y0 rfl
      have x0 := S.cell_of w5 _ 0 _ 30 _ y1 rfl
      have x1 := S.cell_of w5 _ 1 _ 30 _ y1 rfl
      have x2 := S.cell_of w5 _ 2 _ 30 _ y1 rfl
      have x3 := S.cell_of w5 _ 3 _ 30 _ y1 rfl
      have x4 := S.cell_of w5 _ 4 _ 30 _ y1 rfl
      have x5 := S.cell_of w5 _ 5 _ 30 _ y1 rfl
      have x6 := S.cell_of w5 _ 6 _ 30 _ y1 rfl
      have x7 := S.cell_of w5 _ 7 _ 30 _ y1 rfl
      have x8 := S.cell_of w5 _ 8 _ 30 _ y1 rfl
      have i0 := S.cell_of w5 _ 0 _ 127 _ y2 rfl
      have i1 := S.cell_of w5 _ 1 _ 127 _ y2 rfl
      clear y0 y1 y2
      go_wp2_with fail
      refine (HN2.out _ H5.out).mono ?_
      rintro e w6 ⟨rfl, hb6⟩
      have H6 := hid (H5.out.trans (hb6.mono H5.out.size))
      clear hb6
      clear c0 x0 x1 x2 x3 x4 x5 x6 x7 x8 i0 i1
      go_wp2
      go_ret
      exact ⟨by rw [HRR.out]; rfl, H6.out⟩
    · have HR := hid hr
      have hr1 : (r1 != 0) = true := by simpa using hr
      clear hr
      go_wp2
      go_ret
      exact ⟨by rw [HRR.out, if_neg HR.out]; rfl, H5.out⟩
theorem nd_b1 (names : List ByteArray) (n : Nd) (q1 q2 : Option Addr) (d1 d2 : Nat) (mb : Nat) (dp : Nat) (dO : Bool) (W : World) (hM : MP W mb (numb names 0)) (h1 : uses n = true) (h2 : fits names n = true) (h3 : (n.k == 9) = false) (h4 : strc n.k = true) (h5 : ((dp : Int) == 32) = false) (hd : dO = false) (hdp : dp <= 32) (r1 r2 R : Int) (hR : R = if r1 = 0 then r2 else r1) (hN1 : ∀ w, Below W.heap.size W w -> Calls Tryz.prog 66 #[.agg #[.map (some mb)], .slice q1 n.th.length d1, .agg #[.int .i64 ((dp : Int) + 1), .bool (n.k == 8)]] w fun e w' => e = .returned (.int .i64 r1) /\ Below w.heap.size w w') (hN2 : ∀ w, Below W.heap.size W w -> Calls Tryz.prog 66 #[.agg #[.map (some mb)], .slice q2 n.el.length d2, .agg #[.int .i64 ((dp : Int) + 1), .bool (n.k == 8)]] w fun e w' => e = .returned (.int .i64 r2) /\ Below w.heap.size w w') :
    Calls Tryz.prog 80 #[.agg #[.map (some mb)], .agg #[.int .i64 n.k, .int .i64 n.op, .int .u16 n.v, .string n.nm, .slice q1 n.th.length d1, .slice q2 n.el.length d2, .bool n.has, .int .i64 n.p.1, .int .i64 n.p.2], .agg #[.int .i64 (dp : Int), .bool dO]] W fun e w' => e = .returned (.int .i64 R) /\ Below W.heap.size W w' := by
  obtain ⟨W0, W1, W2, hW0, hW1, hW2, hB, hs0, hs1, hs2, hv⟩ := box_three mb n q1 q2 d1 d2 (dp : Int) dO W
  have hu : ∀ w, Calls Tryz.prog 95 #[.agg #[.int .i64 n.k, .int .i64 n.op, .int .u16 n.v, .string n.nm, .slice q1 n.th.length d1, .slice q2 n.el.length d2, .bool n.has, .int .i64 n.p.1, .int .i64 n.p.2]] w fun e w' => e = .returned (.bool (uses n)) /\ Below w.heap.size w w' := fun w => usesAll_any n d1 d2 q1 q2 w
  have hf : ∀ w, Below W2.heap.size W2 w -> Calls Tryz.prog 96 #[.agg #[.map (some mb)], .agg #[.int .i64 n.k, .int .i64 n.op, .int .u16 n.v, .string n.nm, .slice q1 n.th.length d1, .slice q2 n.el.length d2, .bool n.has, .int .i64 n.p.1, .int .i64 n.p.2]] w fun e w' => e = .returned (.bool (fits names n)) /\ Below w.heap.size w w' := fun w hw => wordFits_any names n mb q1 q2 n.th.length d1 n.el.length d2 w ((hM.below hB hM.lt).below hw (Nat.lt_of_lt_of_le hM.lt hB.size))
  have hst : ∀ w, Calls Tryz.prog 97 #[.agg #[.int .i64 n.k, .int .i64 n.op, .int .u16 n.v, .string n.nm, .slice q1 n.th.length d1, .slice q2 n.el.length d2, .bool n.has, .int .i64 n.p.1, .int .i64 n.p.2]] w fun e w' => e = .returned (.bool (strc n.k)) /\ Below w.heap.size w w' := fun w => isStructure_any n q1 q2 n.th.length d1 n.el.length d2 w
  have HV : ∀ w, Below W2.heap.size W2 w -> B3 w W.heap.size W0.heap.size W1.heap.size mb (ndc n (.slice q1 n.th.length d1) (.slice q2 n.el.length d2)) (dp : Int) dO := fun w hw => hv.below hw (by omega) (by omega) (by omega)
  have HB := hid hB
  have HS := hid (And.intro hs0 (And.intro hs1 hs2))
  have HM := hid hM
  clear hM hB hv hs0 hs1 hs2
  have H2 := hid (Below.refl W2.heap.size W2)
  subst hd
  simp only [h1] at hu
  simp only [h2] at hf
  simp only [h4] at hst
  have hdo : ∀ w, Calls Tryz.prog 98 #[.agg #[.int .i64 n.k, .int .i64 n.op, .int .u16 n.v, .string n.nm, .slice q1 n.th.length d1, .slice q2 n.el.length d2, .bool n.has, .int .i64 n.p.1, .int .i64 n.p.2]] w fun e w' => e = .returned (.bool (n.k == 8)) /\ Below w.heap.size w w' := fun w => isDo_any n q1 q2 n.th.length d1 n.el.length d2 w
  have HRR := hid hR
  clear hR
  have HN1 := hid hN1
  have HN2 := hid hN2
  clear hN1 hN2
  go_enter Tryz.func80, Tryz.ntmps80
  obtain ⟨y0, y1, y2⟩ := id (HV _ H2.out)
  have c0 := S.cell_of W2 _ 0 _ 105 _ y0 rfl
  have x0 := S.cell_of W2 _ 0 _ 30 _ y1 rfl
  have x1 := S.cell_of W2 _ 1 _ 30 _ y1 rfl
  have x2 := S.cell_of W2 _ 2 _ 30 _ y1 rfl
  have x3 := S.cell_of W2 _ 3 _ 30 _ y1 rfl
  have x4 := S.cell_of W2 _ 4 _ 30 _ y1 rfl
  have x5 := S.cell_of W2 _ 5 _ 30 _ y1 rfl
  have x6 := S.cell_of W2 _ 6 _ 30 _ y1 rfl
  have x7 := S.cell_of W2 _ 7 _ 30 _ y1 rfl
  have x8 := S.cell_of W2 _ 8 _ 30 _ y1 rfl
  have i0 := S.cell_of W2 _ 0 _ 127 _ y2 rfl
  have i1 := S.cell_of W2 _ 1 _ 127 _ y2 rfl
  clear y0 y1 y2
  go_wp2_with fail
  refine (hu _).mono ?_
  rintro e w1 ⟨rfl, hb⟩
  have Hw1 := hid (H2.out.trans (hb.mono H2.out.size))
  clear hb
  clear c0 x0 x1 x2 x3 x4 x5 x6 x7 x8 i0 i1 hu hW0 hW1 hW2
  obtain ⟨y0, y1, y2⟩ := id (HV _ Hw1.out)
  have c0 := S.cell_of w1 _ 0 _ 105 _ y0 rfl
  have x0 := S.cell_of w1 _ 0 _ 30 _ y1 rfl
  have x1 := S.cell_of w1 _ 1 _ 30 _ y1 rfl
  have x2 := S.cell_of w1 _ 2 _ 30 _ y1 rfl
  have x3 := S.cell_of w1 _ 3 _ 30 _ y1 rfl
  have x4 := S.cell_of w1 _ 4 _ 30 _ y1 rfl
  have x5 := S.cell_of w1 _ 5 _ 30 _ y1 rfl
  have x6 := S.cell_of w1 _ 6 _ 30 _ y1 rfl
  have x7 := S.cell_of w1 _ 7 _ 30 _ y1 rfl
  have x8 := S.cell_of w1 _ 8 _ 30 _ y1 rfl
  have i0 := S.cell_of w1 _ 0 _ 127 _ y2 rfl
  have i1 := S.cell_of w1 _ 1 _ 127 _ y2 rfl
  clear y0 y1 y2
  go_wp2_with fail
  refine (hf _ (by with_reducible exact Hw1.out)).mono ?_
  rintro e w2 ⟨rfl, hb⟩
  have Hw2 := hid (Hw1.out.trans (hb.mono Hw1.out.size))
  clear hb
  clear c0 x0 x1 x2 x3 x4 x5 x6 x7 x8 i0 i1 hf
  obtain ⟨y0, y1, y2⟩ := id (HV _ Hw2.out)
  have c0 := S.cell_of w2 _ 0 _ 105 _ y0 rfl
  have x0 := S.cell_of w2 _ 0 _ 30 _ y1 rfl
  have x1 := S.cell_of w2 _ 1 _ 30 _ y1 rfl
  have x2 := S.cell_of w2 _ 2 _ 30 _ y1 rfl
  have x3 := S.cell_of w2 _ 3 _ 30 _ y1 rfl
  have x4 := S.cell_of w2 _ 4 _ 30 _ y1 rfl
  have x5 := S.cell_of w2 _ 5 _ 30 _ y1 rfl
  have x6 := S.cell_of w2 _ 6 _ 30 _ y1 rfl
  have x7 := S.cell_of w2 _ 7 _ 30 _ y1 rfl
  have x8 := S.cell_of w2 _ 8 _ 30 _ y1 rfl
  have i0 := S.cell_of w2 _ 0 _ 127 _ y2 rfl
  have i1 := S.cell_of w2 _ 1 _ 127 _ y2 rfl
  clear y0 y1 y2
  go_wp2_with fail
  refine (hst _).mono ?_
  rintro e w3 ⟨rfl, hb⟩
  have Hw3 := hid (Hw2.out.trans (hb.mono Hw2.out.size))
  clear hb
  clear c0 x0 x1 x2 x3 x4 x5 x6 x7 x8 i0 i1 hst
  obtain ⟨y0, y1, y2⟩ := id (HV _ Hw3.out)
  have c0 := S.cell_of w3 _ 0 _ 105 _ y0 rfl
  have x0 := S.cell_of w3 _ 0 _ 30 _ y1 rfl
  have x1 := S.cell_of w3 _ 1 _ 30 _ y1 rfl
  have x2 := S.cell_of w3 _ 2 _ 30 _ y1 rfl
  have x3 := S.cell_of w3 _ 3 _ 30 _ y1 rfl
  have x4 := S.cell_of w3 _ 4 _ 30 _ y1 rfl
  have x5 := S.cell_of w3 _ 5 _ 30 _ y1 rfl
  have x6 := S.cell_of w3 _ 6 _ 30 _ y1 rfl
  have x7 := S.cell_of w3 _ 7 _ 30 _ y1 rfl
  have x8 := S.cell_of w3 _ 8 _ 30 _ y1 rfl
  have i0 := S.cell_of w3 _ 0 _ 127 _ y2 rfl
  have i1 := S.cell_of w3 _ 1 _ 127 _ y2 rfl
  clear y0 y1 y2
  have z0 := S.frozen_of w3 W1.heap.size 0 _ 127 (HV _ Hw3.out).2.2
  have z1 := S.frozen_of w3 W1.heap.size 1 _ 127 (HV _ Hw3.out).2.2
  go_upto_region 9 with fail
  go_cut [] (fun wc => Below W.heap.size W wc /\ B3 wc W.heap.size W0.heap.size W1.heap.size mb (ndc n (.slice q1 n.th.length d1) (.slice q2 n.el.length d2)) ((dp : Int) + 1) (n.k == 8))
  case first =>
    go_region_with (first | (go_at_call 98; refine (hdo _).mono ?_; rintro e w4 ⟨rfl, hb4⟩; have Hw4 := hid ((Hw3.out.drew).trans (hb4.mono Hw3.out.size)); clear hb4; have y2 := (HV _ Hw4.out).2.2; have i0 := S.cell_of w4 _ 0 _ 127 _ y2 rfl; have i1 := S.cell_of w4 _ 1 _ 127 _ y2 rfl; have z0 := S.frozen_of w4 W1.heap.size 0 _ 127 y2; have z1 := S.frozen_of w4 W1.heap.size 1 _ 127 y2; clear y2))
    all_goals
      go_wp2
      go_meet
      case rel =>
        rw [S.i64_id _ (by omega) (by omega)]
        have hbz := HB.out.trans (Hw4.out.mono HB.out.size)
        have hvz := HV _ Hw4.out
        have hge : W.heap.size <= W1.heap.size := by have := HS.out.2.1; omega
        refine ⟨?_, ?_, ?_, ?_⟩
        · first
            | exact ((hbz.setCell (p := ⟨W1.heap.size, 0, none⟩) hge _).setCell (p := ⟨W1.heap.size, 1, none⟩) hge _).drew
            | exact ((hbz.setCell (p := ⟨W1.heap.size, 0, none⟩) hge _).setCell (p := ⟨W1.heap.size, 1, none⟩) hge _)
        · exact (S.setCell_other _ _ _ _ _ (by have := HS.out.2.1; omega)).trans ((S.setCell_other _ _ _ _ _ (by have := HS.out.2.1; omega)).trans hvz.1)
        · exact (S.setCell_other _ _ _ _ _ (by have := HS.out.2.1; have := HS.out.1; omega)).trans ((S.setCell_other _ _ _ _ _ (by have := HS.out.2.1; have := HS.out.1; omega)).trans hvz.2.1)
        · exact S.setCell_heap _ W1.heap.size 1 _ 127 _ (S.setCell_heap _ W1.heap.size 0 _ 127 _ hvz.2.2)
  case rest =>
    obtain ⟨hbc, hvc⟩ := hcut
    have HC := hid hbc
    have HVC := hid hvc
    clear hbc hvc z0 z1 hdo HV
    clear c0 x0 x1 x2 x3 x4 x5 x6 x7 x8 i0 i1
    obtain ⟨y0, y1, y2⟩ := id HVC.out
    have c0 := S.cell_of wc _ 0 _ 105 _ y0 rfl
    have x0 := S.cell_of wc _ 0 _ 30 _ y1 rfl
    have x1 := S.cell_of wc _ 1 _ 30 _ y1 rfl
    have x2 := S.cell_of wc _ 2 _ 30 _ y1 rfl
    have x3 := S.cell_of wc _ 3 _ 30 _ y1 rfl
    have x4 := S.cell_of wc _ 4 _ 30 _ y1 rfl
    have x5 := S.cell_of wc _ 5 _ 30 _ y1 rfl
    have x6 := S.cell_of wc _ 6 _ 30 _ y1 rfl
    have x7 := S.cell_of wc _ 7 _ 30 _ y1 rfl
    have x8 := S.cell_of wc _ 8 _ 30 _ y1 rfl
    have i0 := S.cell_of wc _ 0 _ 127 _ y2 rfl
    have i1 := S.cell_of wc _ 1 _ 127 _ y2 rfl
    clear y0 y1 y2
    go_wp2_with fail
    refine (HN1.out _ HC.out).mono ?_
    rintro e w5 ⟨rfl, hb5⟩
    have H5 := hid (HC.out.trans (hb5.mono HC.out.size))
    have hv5 : B3 w5 W.heap.size W0.heap.size W1.heap.size mb (ndc n (.slice q1 n.th.length d1) (.slice q2 n.el.length d2)) ((dp : Int) + 1) (n.k == 8) := HVC.out.below hb5 (S.lt_of HVC.out.1) (S.lt_of HVC.out.2.1) (S.lt_of HVC.out.2.2)
    have HV5 := hid hv5
    clear hb5 hv5
    clear c0 x0 x1 x2 x3 x4 x5 x6 x7 x8 i0 i1
    by_cases hr : r1 = 0
    · subst hr
      obtain ⟨y0, y1, y2⟩ := id HV5.out
      have c0 := S.cell_of w5 _ 0 _ 105 _ y0 rfl
      have x0 := S.cell_of w5 _ 0 _ 30 _ y1 rfl
      have x1 := S.cell_of w5 _ 1 _ 30 _ y1 rfl
      have x2 := S.cell_of w5 _ 2 _ 30 _ y1 rfl
      have x3 := S.cell_of w5 _ 3 _ 30 _ y1 rfl
      have x4 := S.cell_of w5 _ 4 _ 30 _ y1 rfl
      have x5 := S.cell_of w5 _ 5 _ 30 _ y1 rfl
      have x6 := S.cell_of w5 _ 6 _ 30 _ y1 rfl
      have x7 := S.cell_of w5 _ 7 _ 30 _ y1 rfl
      have x8 := S.cell_of w5 _ 8 _ 30 _ y1 rfl
      have i0 := S.cell_of w5 _ 0 _ 127 _ y2 rfl
      have i1 := S.cell_of w5 _ 1 _ 127 _ y2 rfl
      clear y0 y1 y2
      go_wp2_with fail
      refine (HN2.out _ H5.out).mono ?_
      rintro e w6 ⟨rfl, hb6⟩
      have H6 := hid (H5.out.trans (hb6.mono H5.out.size))
      clear hb6
      clear c0 x0 x1 x2 x3 x4 x5 x6 x7 x8 i0 i1
      go_wp2
      go_ret
      exact ⟨by rw [HRR.out]; rfl, H6.out⟩
    · have HR := hid hr
      have hr1 : (r1 != 0) = true := by simpa using hr
      clear hr
      go_wp2
      go_ret
      exact ⟨by rw [HRR.out, if_neg HR.out]; rfl, H5.out⟩
end Go.Proofs.YtlilefhmohkfkaaGreatDoor.R
