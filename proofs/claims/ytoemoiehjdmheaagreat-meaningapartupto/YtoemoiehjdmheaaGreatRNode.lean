import Derived.Test.YtoemoiehjdmheaaGreatRFits
namespace Go.Proofs.YtoemoiehjdmheaaGreat.R
open Go.RowKit
open Go.Proofs
open Go.Proofs.YtoemoiehjdmheaaGreat.Y (Nd Df Ps ndc dfc hid NV cells9)
set_option linter.unusedVariables false
set_option linter.unusedSimpArgs false
set_option maxHeartbeats 2000000
set_option maxRecDepth 100000
theorem nd_100 (names : List ByteArray) (n : Nd) (q1 q2 : Option Addr) (d1 d2 : Nat) (mb : Nat) (dp : Nat) (dO : Bool) (W : World) (hM : MP W mb (numb names 0)) (h1 : uses n = false) :
    Calls Tryz.prog 133 #[.agg #[.map (some mb)], .agg #[.int .i64 n.k, .int .i64 n.op, .int .u16 n.v, .string n.nm, .slice q1 n.th.length d1, .slice q2 n.el.length d2, .bool n.has, .int .i64 n.p.1, .int .i64 n.p.2], .agg #[.int .i64 (dp : Int), .bool dO]] W fun e w' => e = .returned (.int .i64 100) /\ Below W.heap.size W w' := by
  obtain ⟨W0, W1, W2, hW0, hW1, hW2, hB, hs0, hs1, hs2, hv⟩ := box_three mb n q1 q2 d1 d2 (dp : Int) dO W
  have hu : ∀ w, Calls Tryz.prog 148 #[.agg #[.int .i64 n.k, .int .i64 n.op, .int .u16 n.v, .string n.nm, .slice q1 n.th.length d1, .slice q2 n.el.length d2, .bool n.has, .int .i64 n.p.1, .int .i64 n.p.2]] w fun e w' => e = .returned (.bool (uses n)) /\ Below w.heap.size w w' := fun w => usesAll_any n d1 d2 q1 q2 w
  have hf : ∀ w, Below W2.heap.size W2 w -> Calls Tryz.prog 149 #[.agg #[.map (some mb)], .agg #[.int .i64 n.k, .int .i64 n.op, .int .u16 n.v, .string n.nm, .slice q1 n.th.length d1, .slice q2 n.el.length d2, .bool n.has, .int .i64 n.p.1, .int .i64 n.p.2]] w fun e w' => e = .returned (.bool (fits names n)) /\ Below w.heap.size w w' := fun w hw => wordFits_any names n mb q1 q2 n.th.length d1 n.el.length d2 w ((hM.below hB hM.lt).below hw (Nat.lt_of_lt_of_le hM.lt hB.size))
  have hst : ∀ w, Calls Tryz.prog 150 #[.agg #[.int .i64 n.k, .int .i64 n.op, .int .u16 n.v, .string n.nm, .slice q1 n.th.length d1, .slice q2 n.el.length d2, .bool n.has, .int .i64 n.p.1, .int .i64 n.p.2]] w fun e w' => e = .returned (.bool (strc n.k)) /\ Below w.heap.size w w' := fun w => isStructure_any n q1 q2 n.th.length d1 n.el.length d2 w
  have HV : ∀ w, Below W2.heap.size W2 w -> B3 w W.heap.size W0.heap.size W1.heap.size mb (ndc n (.slice q1 n.th.length d1) (.slice q2 n.el.length d2)) (dp : Int) dO := fun w hw => hv.below hw (by omega) (by omega) (by omega)
  have HB := hid hB
  have HS := hid (And.intro hs0 (And.intro hs1 hs2))
  have HM := hid hM
  clear hM hB hv hs0 hs1 hs2
  have H2 := hid (Below.refl W2.heap.size W2)
  simp only [h1] at hu
  clear hf hst
  go_enter Tryz.func133, Tryz.ntmps133
  obtain ⟨y0, y1, y2⟩ := id (HV _ H2.out)
  have c0 := S.cell_of W2 _ 0 _ 166 _ y0 rfl
  have x0 := S.cell_of W2 _ 0 _ 90 _ y1 rfl
  have x1 := S.cell_of W2 _ 1 _ 90 _ y1 rfl
  have x2 := S.cell_of W2 _ 2 _ 90 _ y1 rfl
  have x3 := S.cell_of W2 _ 3 _ 90 _ y1 rfl
  have x4 := S.cell_of W2 _ 4 _ 90 _ y1 rfl
  have x5 := S.cell_of W2 _ 5 _ 90 _ y1 rfl
  have x6 := S.cell_of W2 _ 6 _ 90 _ y1 rfl
  have x7 := S.cell_of W2 _ 7 _ 90 _ y1 rfl
  have x8 := S.cell_of W2 _ 8 _ 90 _ y1 rfl
  have i0 := S.cell_of W2 _ 0 _ 188 _ y2 rfl
  have i1 := S.cell_of W2 _ 1 _ 188 _ y2 rfl
  clear y0 y1 y2
  go_wp2_with fail
  refine (hu _).mono ?_
  rintro e w1 ⟨rfl, hb⟩
  have Hw1 := hid (H2.out.trans (hb.mono H2.out.size))
  clear hb
  clear hu HV
  clear c0 x0 x1 x2 x3 x4 x5 x6 x7 x8 i0 i1
  go_wp2
  go_ret
  exact ⟨rfl, HB.out.trans (Hw1.out.mono HB.out.size)⟩
theorem nd_103 (names : List ByteArray) (n : Nd) (q1 q2 : Option Addr) (d1 d2 : Nat) (mb : Nat) (dp : Nat) (dO : Bool) (W : World) (hM : MP W mb (numb names 0)) (h1 : uses n = true) (h2 : fits names n = false) :
    Calls Tryz.prog 133 #[.agg #[.map (some mb)], .agg #[.int .i64 n.k, .int .i64 n.op, .int .u16 n.v, .string n.nm, .slice q1 n.th.length d1, .slice q2 n.el.length d2, .bool n.has, .int .i64 n.p.1, .int .i64 n.p.2], .agg #[.int .i64 (dp : Int), .bool dO]] W fun e w' => e = .returned (.int .i64 103) /\ Below W.heap.size W w' := by
  obtain ⟨W0, W1, W2, hW0, hW1, hW2, hB, hs0, hs1, hs2, hv⟩ := box_three mb n q1 q2 d1 d2 (dp : Int) dO W
  have hu : ∀ w, Calls Tryz.prog 148 #[.agg #[.int .i64 n.k, .int .i64 n.op, .int .u16 n.v, .string n.nm, .slice q1 n.th.length d1, .slice q2 n.el.length d2, .bool n.has, .int .i64 n.p.1, .int .i64 n.p.2]] w fun e w' => e = .returned (.bool (uses n)) /\ Below w.heap.size w w' := fun w => usesAll_any n d1 d2 q1 q2 w
  have hf : ∀ w, Below W2.heap.size W2 w -> Calls Tryz.prog 149 #[.agg #[.map (some mb)], .agg #[.int .i64 n.k, .int .i64 n.op, .int .u16 n.v, .string n.nm, .slice q1 n.th.length d1, .slice q2 n.el.length d2, .bool n.has, .int .i64 n.p.1, .int .i64 n.p.2]] w fun e w' => e = .returned (.bool (fits names n)) /\ Below w.heap.size w w' := fun w hw => wordFits_any names n mb q1 q2 n.th.length d1 n.el.length d2 w ((hM.below hB hM.lt).below hw (Nat.lt_of_lt_of_le hM.lt hB.size))
  have hst : ∀ w, Calls Tryz.prog 150 #[.agg #[.int .i64 n.k, .int .i64 n.op, .int .u16 n.v, .string n.nm, .slice q1 n.th.length d1, .slice q2 n.el.length d2, .bool n.has, .int .i64 n.p.1, .int .i64 n.p.2]] w fun e w' => e = .returned (.bool (strc n.k)) /\ Below w.heap.size w w' := fun w => isStructure_any n q1 q2 n.th.length d1 n.el.length d2 w
  have HV : ∀ w, Below W2.heap.size W2 w -> B3 w W.heap.size W0.heap.size W1.heap.size mb (ndc n (.slice q1 n.th.length d1) (.slice q2 n.el.length d2)) (dp : Int) dO := fun w hw => hv.below hw (by omega) (by omega) (by omega)
  have HB := hid hB
  have HS := hid (And.intro hs0 (And.intro hs1 hs2))
  have HM := hid hM
  clear hM hB hv hs0 hs1 hs2
  have H2 := hid (Below.refl W2.heap.size W2)
  simp only [h1] at hu
  simp only [h2] at hf
  clear hst
  go_enter Tryz.func133, Tryz.ntmps133
  obtain ⟨y0, y1, y2⟩ := id (HV _ H2.out)
  have c0 := S.cell_of W2 _ 0 _ 166 _ y0 rfl
  have x0 := S.cell_of W2 _ 0 _ 90 _ y1 rfl
  have x1 := S.cell_of W2 _ 1 _ 90 _ y1 rfl
  have x2 := S.cell_of W2 _ 2 _ 90 _ y1 rfl
  have x3 := S.cell_of W2 _ 3 _ 90 _ y1 rfl
  have x4 := S.cell_of W2 _ 4 _ 90 _ y1 rfl
  have x5 := S.cell_of W2 _ 5 _ 90 _ y1 rfl
  have x6 := S.cell_of W2 _ 6 _ 90 _ y1 rfl
  have x7 := S.cell_of W2 _ 7 _ 90 _ y1 rfl
  have x8 := S.cell_of W2 _ 8 _ 90 _ y1 rfl
  have i0 := S.cell_of W2 _ 0 _ 188 _ y2 rfl
  have i1 := S.cell_of W2 _ 1 _ 188 _ y2 rfl
  clear y0 y1 y2
  go_wp2_with fail
  refine (hu _).mono ?_
  rintro e w1 ⟨rfl, hb⟩
  have Hw1 := hid (H2.out.trans (hb.mono H2.out.size))
  clear hb
  clear c0 x0 x1 x2 x3 x4 x5 x6 x7 x8 i0 i1 hu hW0 hW1 hW2
  obtain ⟨y0, y1, y2⟩ := id (HV _ Hw1.out)
  have c0 := S.cell_of w1 _ 0 _ 166 _ y0 rfl
  have x0 := S.cell_of w1 _ 0 _ 90 _ y1 rfl
  have x1 := S.cell_of w1 _ 1 _ 90 _ y1 rfl
  have x2 := S.cell_of w1 _ 2 _ 90 _ y1 rfl
  have x3 := S.cell_of w1 _ 3 _ 90 _ y1 rfl
  have x4 := S.cell_of w1 _ 4 _ 90 _ y1 rfl
  have x5 := S.cell_of w1 _ 5 _ 90 _ y1 rfl
  have x6 := S.cell_of w1 _ 6 _ 90 _ y1 rfl
  have x7 := S.cell_of w1 _ 7 _ 90 _ y1 rfl
  have x8 := S.cell_of w1 _ 8 _ 90 _ y1 rfl
  have i0 := S.cell_of w1 _ 0 _ 188 _ y2 rfl
  have i1 := S.cell_of w1 _ 1 _ 188 _ y2 rfl
  clear y0 y1 y2
  go_wp2_with fail
  refine (hf _ (by with_reducible exact Hw1.out)).mono ?_
  rintro e w2 ⟨rfl, hb⟩
  have Hw2 := hid (Hw1.out.trans (hb.mono Hw1.out.size))
  clear hb
  clear c0 x0 x1 x2 x3 x4 x5 x6 x7 x8 i0 i1 hf HV
  go_wp2
  go_ret
  exact ⟨rfl, HB.out.trans (Hw2.out.mono HB.out.size)⟩
theorem nd_108 (names : List ByteArray) (n : Nd) (q1 q2 : Option Addr) (d1 d2 : Nat) (mb : Nat) (dp : Nat) (dO : Bool) (W : World) (hM : MP W mb (numb names 0)) (h1 : uses n = true) (h2 : fits names n = true) (h3 : (n.k == 9) = true) (hd : dO = true) :
    Calls Tryz.prog 133 #[.agg #[.map (some mb)], .agg #[.int .i64 n.k, .int .i64 n.op, .int .u16 n.v, .string n.nm, .slice q1 n.th.length d1, .slice q2 n.el.length d2, .bool n.has, .int .i64 n.p.1, .int .i64 n.p.2], .agg #[.int .i64 (dp : Int), .bool dO]] W fun e w' => e = .returned (.int .i64 108) /\ Below W.heap.size W w' := by
  obtain ⟨W0, W1, W2, hW0, hW1, hW2, hB, hs0, hs1, hs2, hv⟩ := box_three mb n q1 q2 d1 d2 (dp : Int) dO W
  have hu : ∀ w, Calls Tryz.prog 148 #[.agg #[.int .i64 n.k, .int .i64 n.op, .int .u16 n.v, .string n.nm, .slice q1 n.th.length d1, .slice q2 n.el.length d2, .bool n.has, .int .i64 n.p.1, .int .i64 n.p.2]] w fun e w' => e = .returned (.bool (uses n)) /\ Below w.heap.size w w' := fun w => usesAll_any n d1 d2 q1 q2 w
  have hf : ∀ w, Below W2.heap.size W2 w -> Calls Tryz.prog 149 #[.agg #[.map (some mb)], .agg #[.int .i64 n.k, .int .i64 n.op, .int .u16 n.v, .string n.nm, .slice q1 n.th.length d1, .slice q2 n.el.length d2, .bool n.has, .int .i64 n.p.1, .int .i64 n.p.2]] w fun e w' => e = .returned (.bool (fits names n)) /\ Below w.heap.size w w' := fun w hw => wordFits_any names n mb q1 q2 n.th.length d1 n.el.length d2 w ((hM.below hB hM.lt).below hw (Nat.lt_of_lt_of_le hM.lt hB.size))
  have hst : ∀ w, Calls Tryz.prog 150 #[.agg #[.int .i64 n.k, .int .i64 n.op, .int .u16 n.v, .string n.nm, .slice q1 n.th.length d1, .slice q2 n.el.length d2, .bool n.has, .int .i64 n.p.1, .int .i64 n.p.2]] w fun e w' => e = .returned (.bool (strc n.k)) /\ Below w.heap.size w w' := fun w => isStructure_any n q1 q2 n.th.length d1 n.el.length d2 w
  have HV : ∀ w, Below W2.heap.size W2 w -> B3 w W.heap.size W0.heap.size W1.heap.size mb (ndc n (.slice q1 n.th.length d1) (.slice q2 n.el.length d2)) (dp : Int) dO := fun w hw => hv.below hw (by omega) (by omega) (by omega)
  have HB := hid hB
  have HS := hid (And.intro hs0 (And.intro hs1 hs2))
  have HM := hid hM
  clear hM hB hv hs0 hs1 hs2
  have H2 := hid (Below.refl W2.heap.size W2)
  subst hd
  simp only [h1] at hu
  simp only [h2] at hf
  clear hst
  go_enter Tryz.func133, Tryz.ntmps133
  obtain ⟨y0, y1, y2⟩ := id (HV _ H2.out)
  have c0 := S.cell_of W2 _ 0 _ 166 _ y0 rfl
  have x0 := S.cell_of W2 _ 0 _ 90 _ y1 rfl
  have x1 := S.cell_of W2 _ 1 _ 90 _ y1 rfl
  have x2 := S.cell_of W2 _ 2 _ 90 _ y1 rfl
  have x3 := S.cell_of W2 _ 3 _ 90 _ y1 rfl
  have x4 := S.cell_of W2 _ 4 _ 90 _ y1 rfl
  have x5 := S.cell_of W2 _ 5 _ 90 _ y1 rfl
  have x6 := S.cell_of W2 _ 6 _ 90 _ y1 rfl
  have x7 := S.cell_of W2 _ 7 _ 90 _ y1 rfl
  have x8 := S.cell_of W2 _ 8 _ 90 _ y1 rfl
  have i0 := S.cell_of W2 _ 0 _ 188 _ y2 rfl
  have i1 := S.cell_of W2 _ 1 _ 188 _ y2 rfl
  clear y0 y1 y2
  go_wp2_with fail
  refine (hu _).mono ?_
  rintro e w1 ⟨rfl, hb⟩
  have Hw1 := hid (H2.out.trans (hb.mono H2.out.size))
  clear hb
  clear c0 x0 x1 x2 x3 x4 x5 x6 x7 x8 i0 i1 hu hW0 hW1 hW2
  obtain ⟨y0, y1, y2⟩ := id (HV _ Hw1.out)
  have c0 := S.cell_of w1 _ 0 _ 166 _ y0 rfl
  have x0 := S.cell_of w1 _ 0 _ 90 _ y1 rfl
  have x1 := S.cell_of w1 _ 1 _ 90 _ y1 rfl
  have x2 := S.cell_of w1 _ 2 _ 90 _ y1 rfl
  have x3 := S.cell_of w1 _ 3 _ 90 _ y1 rfl
  have x4 := S.cell_of w1 _ 4 _ 90 _ y1 rfl
  have x5 := S.cell_of w1 _ 5 _ 90 _ y1 rfl
  have x6 := S.cell_of w1 _ 6 _ 90 _ y1 rfl
  have x7 := S.cell_of w1 _ 7 _ 90 _ y1 rfl
  have x8 := S.cell_of w1 _ 8 _ 90 _ y1 rfl
  have i0 := S.cell_of w1 _ 0 _ 188 _ y2 rfl
  have i1 := S.cell_of w1 _ 1 _ 188 _ y2 rfl
  clear y0 y1 y2
  go_wp2_with fail
  refine (hf _ (by with_reducible exact Hw1.out)).mono ?_
  rintro e w2 ⟨rfl, hb⟩
  have Hw2 := hid (Hw1.out.trans (hb.mono Hw1.out.size))
  clear hb
  clear c0 x0 x1 x2 x3 x4 x5 x6 x7 x8 i0 i1 hf
  obtain ⟨y0, y1, y2⟩ := id (HV _ Hw2.out)
  have c0 := S.cell_of w2 _ 0 _ 166 _ y0 rfl
  have x0 := S.cell_of w2 _ 0 _ 90 _ y1 rfl
  have x1 := S.cell_of w2 _ 1 _ 90 _ y1 rfl
  have x2 := S.cell_of w2 _ 2 _ 90 _ y1 rfl
  have x3 := S.cell_of w2 _ 3 _ 90 _ y1 rfl
  have x4 := S.cell_of w2 _ 4 _ 90 _ y1 rfl
  have x5 := S.cell_of w2 _ 5 _ 90 _ y1 rfl
  have x6 := S.cell_of w2 _ 6 _ 90 _ y1 rfl
  have x7 := S.cell_of w2 _ 7 _ 90 _ y1 rfl
  have x8 := S.cell_of w2 _ 8 _ 90 _ y1 rfl
  have i0 := S.cell_of w2 _ 0 _ 188 _ y2 rfl
  have i1 := S.cell_of w2 _ 1 _ 188 _ y2 rfl
  clear y0 y1 y2
  go_wp2
  go_ret
  exact ⟨rfl, HB.out.trans (Hw2.out.mono HB.out.size)⟩
theorem nd_109 (names : List ByteArray) (n : Nd) (q1 q2 : Option Addr) (d1 d2 : Nat) (mb : Nat) (dp : Nat) (dO : Bool) (W : World) (hM : MP W mb (numb names 0)) (h1 : uses n = true) (h2 : fits names n = true) (h3 : (n.k == 9) = false) (h4 : strc n.k = true) (hd : ((dp : Int) == 32) = true) :
    Calls Tryz.prog 133 #[.agg #[.map (some mb)], .agg #[.int .i64 n.k, .int .i64 n.op, .int .u16 n.v, .string n.nm, .slice q1 n.th.length d1, .slice q2 n.el.length d2, .bool n.has, .int .i64 n.p.1, .int .i64 n.p.2], .agg #[.int .i64 (dp : Int), .bool dO]] W fun e w' => e = .returned (.int .i64 109) /\ Below W.heap.size W w' := by
  obtain ⟨W0, W1, W2, hW0, hW1, hW2, hB, hs0, hs1, hs2, hv⟩ := box_three mb n q1 q2 d1 d2 (dp : Int) dO W
  have hu : ∀ w, Calls Tryz.prog 148 #[.agg #[.int .i64 n.k, .int .i64 n.op, .int .u16 n.v, .string n.nm, .slice q1 n.th.length d1, .slice q2 n.el.length d2, .bool n.has, .int .i64 n.p.1, .int .i64 n.p.2]] w fun e w' => e = .returned (.bool (uses n)) /\ Below w.heap.size w w' := fun w => usesAll_any n d1 d2 q1 q2 w
  have hf : ∀ w, Below W2.heap.size W2 w -> Calls Tryz.prog 149 #[.agg #[.map (some mb)], .agg #[.int .i64 n.k, .int .i64 n.op, .int .u16 n.v, .string n.nm, .slice q1 n.th.length d1, .slice q2 n.el.length d2, .bool n.has, .int .i64 n.p.1, .int .i64 n.p.2]] w fun e w' => e = .returned (.bool (fits names n)) /\ Below w.heap.size w w' := fun w hw => wordFits_any names n mb q1 q2 n.th.length d1 n.el.length d2 w ((hM.below hB hM.lt).below hw (Nat.lt_of_lt_of_le hM.lt hB.size))
  have hst : ∀ w, Calls Tryz.prog 150 #[.agg #[.int .i64 n.k, .int .i64 n.op, .int .u16 n.v, .string n.nm, .slice q1 n.th.length d1, .slice q2 n.el.length d2, .bool n.has, .int .i64 n.p.1, .int .i64 n.p.2]] w fun e w' => e = .returned (.bool (strc n.k)) /\ Below w.heap.size w w' := fun w => isStructure_any n q1 q2 n.th.length d1 n.el.length d2 w
  have HV : ∀ w, Below W2.heap.size W2 w -> B3 w W.heap.size W0.heap.size W1.heap.size mb (ndc n (.slice q1 n.th.length d1) (.slice q2 n.el.length d2)) (dp : Int) dO := fun w hw => hv.below hw (by omega) (by omega) (by omega)
  have HB := hid hB
  have HS := hid (And.intro hs0 (And.intro hs1 hs2))
  have HM := hid hM
  clear hM hB hv hs0 hs1 hs2
  have H2 := hid (Below.refl W2.heap.size W2)
  simp only [h1] at hu
  simp only [h2] at hf
  simp only [h4] at hst
  go_enter Tryz.func133, Tryz.ntmps133
  obtain ⟨y0, y1, y2⟩ := id (HV _ H2.out)
  have c0 := S.cell_of W2 _ 0 _ 166 _ y0 rfl
  have x0 := S.cell_of W2 _ 0 _ 90 _ y1 rfl
  have x1 := S.cell_of W2 _ 1 _ 90 _ y1 rfl
  have x2 := S.cell_of W2 _ 2 _ 90 _ y1 rfl
  have x3 := S.cell_of W2 _ 3 _ 90 _ y1 rfl
  have x4 := S.cell_of W2 _ 4 _ 90 _ y1 rfl
  have x5 := S.cell_of W2 _ 5 _ 90 _ y1 rfl
  have x6 := S.cell_of W2 _ 6 _ 90 _ y1 rfl
  have x7 := S.cell_of W2 _ 7 _ 90 _ y1 rfl
  have x8 := S.cell_of W2 _ 8 _ 90 _ y1 rfl
  have i0 := S.cell_of W2 _ 0 _ 188 _ y2 rfl
  have i1 := S.cell_of W2 _ 1 _ 188 _ y2 rfl
  clear y0 y1 y2
  go_wp2_with fail
  refine (hu _).mono ?_
  rintro e w1 ⟨rfl, hb⟩
  have Hw1 := hid (H2.out.trans (hb.mono H2.out.size))
  clear hb
  clear c0 x0 x1 x2 x3 x4 x5 x6 x7 x8 i0 i1 hu hW0 hW1 hW2
  obtain ⟨y0, y1, y2⟩ := id (HV _ Hw1.out)
  have c0 := S.cell_of w1 _ 0 _ 166 _ y0 rfl
  have x0 := S.cell_of w1 _ 0 _ 90 _ y1 rfl
  have x1 := S.cell_of w1 _ 1 _ 90 _ y1 rfl
  have x2 := S.cell_of w1 _ 2 _ 90 _ y1 rfl
  have x3 := S.cell_of w1 _ 3 _ 90 _ y1 rfl
  have x4 := S.cell_of w1 _ 4 _ 90 _ y1 rfl
  have x5 := S.cell_of w1 _ 5 _ 90 _ y1 rfl
  have x6 := S.cell_of w1 _ 6 _ 90 _ y1 rfl
  have x7 := S.cell_of w1 _ 7 _ 90 _ y1 rfl
  have x8 := S.cell_of w1 _ 8 _ 90 _ y1 rfl
  have i0 := S.cell_of w1 _ 0 _ 188 _ y2 rfl
  have i1 := S.cell_of w1 _ 1 _ 188 _ y2 rfl
  clear y0 y1 y2
  go_wp2_with fail
  refine (hf _ (by with_reducible exact Hw1.out)).mono ?_
  rintro e w2 ⟨rfl, hb⟩
  have Hw2 := hid (Hw1.out.trans (hb.mono Hw1.out.size))
  clear hb
  clear c0 x0 x1 x2 x3 x4 x5 x6 x7 x8 i0 i1 hf
  obtain ⟨y0, y1, y2⟩ := id (HV _ Hw2.out)
  have c0 := S.cell_of w2 _ 0 _ 166 _ y0 rfl
  have x0 := S.cell_of w2 _ 0 _ 90 _ y1 rfl
  have x1 := S.cell_of w2 _ 1 _ 90 _ y1 rfl
  have x2 := S.cell_of w2 _ 2 _ 90 _ y1 rfl
  have x3 := S.cell_of w2 _ 3 _ 90 _ y1 rfl
  have x4 := S.cell_of w2 _ 4 _ 90 _ y1 rfl
  have x5 := S.cell_of w2 _ 5 _ 90 _ y1 rfl
  have x6 := S.cell_of w2 _ 6 _ 90 _ y1 rfl
  have x7 := S.cell_of w2 _ 7 _ 90 _ y1 rfl
  have x8 := S.cell_of w2 _ 8 _ 90 _ y1 rfl
  have i0 := S.cell_of w2 _ 0 _ 188 _ y2 rfl
  have i1 := S.cell_of w2 _ 1 _ 188 _ y2 rfl
  clear y0 y1 y2
  go_wp2_with fail
  refine (hst _).mono ?_
  rintro e w3 ⟨rfl, hb⟩
  have Hw3 := hid (Hw2.out.trans (hb.mono Hw2.out.size))
  clear hb
  clear c0 x0 x1 x2 x3 x4 x5 x6 x7 x8 i0 i1 hst
  obtain ⟨y0, y1, y2⟩ := id (HV _ Hw3.out)
  have c0 := S.cell_of w3 _ 0 _ 166 _ y0 rfl
  have x0 := S.cell_of w3 _ 0 _ 90 _ y1 rfl
  have x1 := S.cell_of w3 _ 1 _ 90 _ y1 rfl
  have x2 := S.cell_of w3 _ 2 _ 90 _ y1 rfl
  have x3 := S.cell_of w3 _ 3 _ 90 _ y1 rfl
  have x4 := S.cell_of w3 _ 4 _ 90 _ y1 rfl
  have x5 := S.cell_of w3 _ 5 _ 90 _ y1 rfl
  have x6 := S.cell_of w3 _ 6 _ 90 _ y1 rfl
  have x7 := S.cell_of w3 _ 7 _ 90 _ y1 rfl
  have x8 := S.cell_of w3 _ 8 _ 90 _ y1 rfl
  have i0 := S.cell_of w3 _ 0 _ 188 _ y2 rfl
  have i1 := S.cell_of w3 _ 1 _ 188 _ y2 rfl
  clear y0 y1 y2
  go_wp2
  go_ret
  exact ⟨rfl, HB.out.trans (Hw3.out.mono HB.out.size)⟩
theorem nd_a0 (names : List ByteArray) (n : Nd) (q1 q2 : Option Addr) (d1 d2 : Nat) (mb : Nat) (dp : Nat) (dO : Bool) (W : World) (hM : MP W mb (numb names 0)) (h1 : uses n = true) (h2 : fits names n = true) (h3 : (n.k == 9) = false) (h4 : strc n.k = false) (hd : dO = true) (hdp : dp <= 32) (r1 r2 R : Int) (hR : R = if r1 = 0 then r2 else r1) (hN1 : ∀ w, Below W.heap.size W w -> Calls Tryz.prog 82 #[.agg #[.map (some mb)], .slice q1 n.th.length d1, .agg #[.int .i64 ((dp : Int) + 1), .bool true]] w fun e w' => e = .returned (.int .i64 r1) /\ Below w.heap.size w w') (hN2 : ∀ w, Below W.heap.size W w -> Calls Tryz.prog 82 #[.agg #[.map (some mb)], .slice q2 n.el.length d2, .agg #[.int .i64 ((dp : Int) + 1), .bool true]] w fun e w' => e = .returned (.int .i64 r2) /\ Below w.heap.size w w') :
    Calls Tryz.prog 133 #[.agg #[.map (some mb)], .agg #[.int .i64 n.k, .int .i64 n.op, .int .u16 n.v, .string n.nm, .slice q1 n.th.length d1, .slice q2 n.el.length d2, .bool n.has, .int .i64 n.p.1, .int .i64 n.p.2], .agg #[.int .i64 (dp : Int), .bool dO]] W fun e w' => e = .returned (.int .i64 R) /\ Below W.heap.size W w' := by
  obtain ⟨W0, W1, W2, hW0, hW1, hW2, hB, hs0, hs1, hs2, hv⟩ := box_three mb n q1 q2 d1 d2 (dp : Int) dO W
  have hu : ∀ w, Calls Tryz.prog 148 #[.agg #[.int .i64 n.k, .int .i64 n.op, .int .u16 n.v, .string n.nm, .slice q1 n.th.length d1, .slice q2 n.el.length d2, .bool n.has, .int .i64 n.p.1, .int .i64 n.p.2]] w fun e w' => e = .returned (.bool (uses n)) /\ Below w.heap.size w w' := fun w => usesAll_any n d1 d2 q1 q2 w
  have hf : ∀ w, Below W2.heap.size W2 w -> Calls Tryz.prog 149 #[.agg #[.map (some mb)], .agg #[.int .i64 n.k, .int .i64 n.op, .int .u16 n.v, .string n.nm, .slice q1 n.th.length d1, .slice q2 n.el.length d2, .bool n.has, .int .i64 n.p.1, .int .i64 n.p.2]] w fun e w' => e = .returned (.bool (fits names n)) /\ Below w.heap.size w w' := fun w hw => wordFits_any names n mb q1 q2 n.th.length d1 n.el.length d2 w ((hM.below hB hM.lt).below hw (Nat.lt_of_lt_of_le hM.lt hB.size))
  have hst : ∀ w, Calls Tryz.prog 150 #[.agg #[.int .i64 n.k, .int .i64 n.op, .int .u16 n.v, .string n.nm, .slice q1 n.th.length d1, .slice q2 n.el.length d2, .bool n.has, .int .i64 n.p.1, .int .i64 n.p.2]] w fun e w' => e = .returned (.bool (strc n.k)) /\ Below w.heap.size w w' := fun w => isStructure_any n q1 q2 n.th.length d1 n.el.length d2 w
  have HV : ∀ w, Below W2.heap.size W2 w -> B3 w W.heap.size W0.heap.size W1.heap.size mb (ndc n (.slice q1 n.th.length d1) (.slice q2 n.el.length d2)) (dp : Int) dO := fun w hw => hv.below hw (by omega) (by omega) (by omega)
  have HB := hid hB
  have HS := hid (And.intro hs0 (And.intro hs1 hs2))
  have HM := hid hM
  clear hM hB hv hs0 hs1 hs2
  have H2 := hid (Below.refl W2.heap.size W2)
  subst hd
  simp only [h1] at hu
  simp only [h2] at hf
  simp only [h4] at hst
  have hdo : ∀ w, Calls Tryz.prog 151 #[.agg #[.int .i64 n.k, .int .i64 n.op, .int .u16 n.v, .string n.nm, .slice q1 n.th.length d1, .slice q2 n.el.length d2, .bool n.has, .int .i64 n.p.1, .int .i64 n.p.2]] w fun e w' => e = .returned (.bool (n.k == 8)) /\ Below w.heap.size w w' := fun w => isDo_any n q1 q2 n.th.length d1 n.el.length d2 w
  have HRR := hid hR
  clear hR
  have HN1 := hid hN1
  have HN2 := hid hN2
  clear hN1 hN2
  go_enter Tryz.func133, Tryz.ntmps133
  obtain ⟨y0, y1, y2⟩ := id (HV _ H2.out)
  have c0 := S.cell_of W2 _ 0 _ 166 _ y0 rfl
  have x0 := S.cell_of W2 _ 0 _ 90 _ y1 rfl
  have x1 := S.cell_of W2 _ 1 _ 90 _ y1 rfl
  have x2 := S.cell_of W2 _ 2 _ 90 _ y1 rfl
  have x3 := S.cell_of W2 _ 3 _ 90 _ y1 rfl
  have x4 := S.cell_of W2 _ 4 _ 90 _ y1 rfl
  have x5 := S.cell_of W2 _ 5 _ 90 _ y1 rfl
  have x6 := S.cell_of W2 _ 6 _ 90 _ y1 rfl
  have x7 := S.cell_of W2 _ 7 _ 90 _ y1 rfl
  have x8 := S.cell_of W2 _ 8 _ 90 _ y1 rfl
  have i0 := S.cell_of W2 _ 0 _ 188 _ y2 rfl
  have i1 := S.cell_of W2 _ 1 _ 188 _ y2 rfl
  clear y0 y1 y2
  go_wp2_with fail
  refine (hu _).mono ?_
  rintro e w1 ⟨rfl, hb⟩
  have Hw1 := hid (H2.out.trans (hb.mono H2.out.size))
  clear hb
  clear c0 x0 x1 x2 x3 x4 x5 x6 x7 x8 i0 i1 hu hW0 hW1 hW2
  obtain ⟨y0, y1, y2⟩ := id (HV _ Hw1.out)
  have c0 := S.cell_of w1 _ 0 _ 166 _ y0 rfl
  have x0 := S.cell_of w1 _ 0 _ 90 _ y1 rfl
  have x1 := S.cell_of w1 _ 1 _ 90 _ y1 rfl
  have x2 := S.cell_of w1 _ 2 _ 90 _ y1 rfl
  have x3 := S.cell_of w1 _ 3 _ 90 _ y1 rfl
  have x4 := S.cell_of w1 _ 4 _ 90 _ y1 rfl
  have x5 := S.cell_of w1 _ 5 _ 90 _ y1 rfl
  have x6 := S.cell_of w1 _ 6 _ 90 _ y1 rfl
  have x7 := S.cell_of w1 _ 7 _ 90 _ y1 rfl
  have x8 := S.cell_of w1 _ 8 _ 90 _ y1 rfl
  have i0 := S.cell_of w1 _ 0 _ 188 _ y2 rfl
  have i1 := S.cell_of w1 _ 1 _ 188 _ y2 rfl
  clear y0 y1 y2
  go_wp2_with fail
  refine (hf _ (by with_reducible exact Hw1.out)).mono ?_
  rintro e w2 ⟨rfl, hb⟩
  have Hw2 := hid (Hw1.out.trans (hb.mono Hw1.out.size))
  clear hb
  clear c0 x0 x1 x2 x3 x4 x5 x6 x7 x8 i0 i1 hf
  obtain ⟨y0, y1, y2⟩ := id (HV _ Hw2.out)
  have c0 := S.cell_of w2 _ 0 _ 166 _ y0 rfl
  have x0 := S.cell_of w2 _ 0 _ 90 _ y1 rfl
  have x1 := S.cell_of w2 _ 1 _ 90 _ y1 rfl
  have x2 := S.cell_of w2 _ 2 _ 90 _ y1 rfl
  have x3 := S.cell_of w2 _ 3 _ 90 _ y1 rfl
  have x4 := S.cell_of w2 _ 4 _ 90 _ y1 rfl
  have x5 := S.cell_of w2 _ 5 _ 90 _ y1 rfl
  have x6 := S.cell_of w2 _ 6 _ 90 _ y1 rfl
  have x7 := S.cell_of w2 _ 7 _ 90 _ y1 rfl
  have x8 := S.cell_of w2 _ 8 _ 90 _ y1 rfl
  have i0 := S.cell_of w2 _ 0 _ 188 _ y2 rfl
  have i1 := S.cell_of w2 _ 1 _ 188 _ y2 rfl
  clear y0 y1 y2
  go_wp2_with fail
  refine (hst _).mono ?_
  rintro e w3 ⟨rfl, hb⟩
  have Hw3 := hid (Hw2.out.trans (hb.mono Hw2.out.size))
  clear hb
  clear c0 x0 x1 x2 x3 x4 x5 x6 x7 x8 i0 i1 hst
  obtain ⟨y0, y1, y2⟩ := id (HV _ Hw3.out)
  have c0 := S.cell_of w3 _ 0 _ 166 _ y0 rfl
  have x0 := S.cell_of w3 _ 0 _ 90 _ y1 rfl
  have x1 := S.cell_of w3 _ 1 _ 90 _ y1 rfl
  have x2 := S.cell_of w3 _ 2 _ 90 _ y1 rfl
  have x3 := S.cell_of w3 _ 3 _ 90 _ y1 rfl
  have x4 := S.cell_of w3 _ 4 _ 90 _ y1 rfl
  have x5 := S.cell_of w3 _ 5 _ 90 _ y1 rfl
  have x6 := S.cell_of w3 _ 6 _ 90 _ y1 rfl
  have x7 := S.cell_of w3 _ 7 _ 90 _ y1 rfl
  have x8 := S.cell_of w3 _ 8 _ 90 _ y1 rfl
  have i0 := S.cell_of w3 _ 0 _ 188 _ y2 rfl
  have i1 := S.cell_of w3 _ 1 _ 188 _ y2 rfl
  clear y0 y1 y2
  have z0 := S.frozen_of w3 W1.heap.size 0 _ 188 (HV _ Hw3.out).2.2
  have z1 := S.frozen_of w3 W1.heap.size 1 _ 188 (HV _ Hw3.out).2.2
  go_upto_region 9 with fail
  go_cut [] (fun wc => Below W.heap.size W wc /\ B3 wc W.heap.size W0.heap.size W1.heap.size mb (ndc n (.slice q1 n.th.length d1) (.slice q2 n.el.length d2)) ((dp : Int) + 1) true)
  case first =>
    go_region_with (fail)
    all_goals
      go_wp2
      go_meet
      case rel =>
        rw [S.i64_id _ (by omega) (by omega)]
        have hbz := HB.out.trans (Hw3.out.mono HB.out.size)
        have hvz := HV _ Hw3.out
        have hge : W.heap.size <= W1.heap.size := by have := HS.out.2.1; omega
        refine ⟨?_, ?_, ?_, ?_⟩
        · first
            | exact ((hbz.setCell (p := ⟨W1.heap.size, 0, none⟩) hge _).setCell (p := ⟨W1.heap.size, 1, none⟩) hge _).drew
            | exact ((hbz.setCell (p := ⟨W1.heap.size, 0, none⟩) hge _).setCell (p := ⟨W1.heap.size, 1, none⟩) hge _)
        · exact (S.setCell_other _ _ _ _ _ (by have := HS.out.2.1; omega)).trans ((S.setCell_other _ _ _ _ _ (by have := HS.out.2.1; omega)).trans hvz.1)
        · exact (S.setCell_other _ _ _ _ _ (by have := HS.out.2.1; have := HS.out.1; omega)).trans ((S.setCell_other _ _ _ _ _ (by have := HS.out.2.1; have := HS.out.1; omega)).trans hvz.2.1)
        · exact S.setCell_heap _ W1.heap.size 1 _ 188 _ (S.setCell_heap _ W1.heap.size 0 _ 188 _ hvz.2.2)
  case rest =>
    obtain ⟨hbc, hvc⟩ := hcut
    have HC := hid hbc
    have HVC := hid hvc
    clear hbc hvc z0 z1 hdo HV
    clear c0 x0 x1 x2 x3 x4 x5 x6 x7 x8 i0 i1
    obtain ⟨y0, y1, y2⟩ := id HVC.out
    have c0 := S.cell_of wc _ 0 _ 166 _ y0 rfl
    have x0 := S.cell_of wc _ 0 _ 90 _ y1 rfl
    have x1 := S.cell_of wc _ 1 _ 90 _ y1 rfl
    have x2 := S.cell_of wc _ 2 _ 90 _ y1 rfl
    have x3 := S.cell_of wc _ 3 _ 90 _ y1 rfl
    have x4 := S.cell_of wc _ 4 _ 90 _ y1 rfl
    have x5 := S.cell_of wc _ 5 _ 90 _ y1 rfl
    have x6 := S.cell_of wc _ 6 _ 90 _ y1 rfl
    have x7 := S.cell_of wc _ 7 _ 90 _ y1 rfl
    have x8 := S.cell_of wc _ 8 _ 90 _ y1 rfl
    have i0 := S.cell_of wc _ 0 _ 188 _ y2 rfl
    have i1 := S.cell_of wc _ 1 _ 188 _ y2 rfl
    clear y0 y1 y2
    go_wp2_with fail
    refine (HN1.out _ HC.out).mono ?_
    rintro e w5 ⟨rfl, hb5⟩
    have H5 := hid (HC.out.trans (hb5.mono HC.out.size))
    have hv5 : B3 w5 W.heap.size W0.heap.size W1.heap.size mb (ndc n (.slice q1 n.th.length d1) (.slice q2 n.el.length d2)) ((dp : Int) + 1) true := HVC.out.below hb5 (S.lt_of HVC.out.1) (S.lt_of HVC.out.2.1) (S.lt_of HVC.out.2.2)
    have HV5 := hid hv5
    clear hb5 hv5
    clear c0 x0 x1 x2 x3 x4 x5 x6 x7 x8 i0 i1
    by_cases hr : r1 = 0
    · subst hr
      obtain ⟨y0, y1, y2⟩ := id HV5.out
      have c0 := S.cell_of w5 _ 0 _ 166 _ y0 rfl
      have x0 := S.cell_of w5 _ 0 _ 90 _ y1 rfl
      have x1 := S.cell_of w5 _ 1 _ 90 _ y1 rfl
      have x2 := S.cell_of w5 _ 2 _ 90 _ y1 rfl
      have x3 := S.cell_of w5 _ 3 _ 90 _ y1 rfl
      have x4 := S.cell_of w5 _ 4 _ 90 _ y1 rfl
      have x5 := S.cell_of w5 _ 5 _ 90 _ y1 rfl
      have x6 := S.cell_of w5 _ 6 _ 90 _ y1 rfl
      have x7 := S.cell_of w5 _ 7 _ 90 _ y1 rfl
      have x8 := S.cell_of w5 _ 8 _ 90 _ y1 rfl
      have i0 := S.cell_of w5 _ 0 _ 188 _ y2 rfl
      have i1 := S.cell_of w5 _ 1 _ 188 _ y2 rfl
      clear y0 y1 y2
      go_wp2_with fail
      refine (HN2.out _ H5.out).mono ?_
      rintro e w6 ⟨rfl, hb6⟩
      have H6 := hid (H5.out.trans (hb6.mono H5.out.size))
      clear hb6
      clear c0 x0 x1 x2 x3 x4 x5 x6 x7 x8 i0 i1
      go_wp2
      go_ret
      exact ⟨by rw [HRR.out]; rfl, H6.out⟩
    · have HR := hid hr
      have hr1 : (r1 != 0) = true := by simpa using hr
      clear hr
      go_wp2
      go_ret
      exact ⟨by rw [HRR.out, if_neg HR.out]; rfl, H5.out⟩
theorem nd_a1 (names : List ByteArray) (n : Nd) (q1 q2 : Option Addr) (d1 d2 : Nat) (mb : Nat) (dp : Nat) (dO : Bool) (W : World) (hM : MP W mb (numb names 0)) (h1 : uses n = true) (h2 : fits names n = true) (h3 : (n.k == 9) = false) (h4 : strc n.k = true) (h5 : ((dp : Int) == 32) = false) (hd : dO = true) (hdp : dp <= 32) (r1 r2 R : Int) (hR : R = if r1 = 0 then r2 else r1) (hN1 : ∀ w, Below W.heap.size W w -> Calls Tryz.prog 82 #[.agg #[.map (some mb)], .slice q1 n.th.length d1, .agg #[.int .i64 ((dp : Int) + 1), .bool true]] w fun e w' => e = .returned (.int .i64 r1) /\ Below w.heap.size w w') (hN2 : ∀ w, Below W.heap.size W w -> Calls Tryz.prog 82 #[.agg #[.map (some mb)], .slice q2 n.el.length d2, .agg #[.int .i64 ((dp : Int) + 1), .bool true]] w fun e w' => e = .returned (.int .i64 r2) /\ Below w.heap.size w w') :
    Calls Tryz.prog 133 #[.agg #[.map (some mb)], .agg #[.int .i64 n.k, .int .i64 n.op, .int .u16 n.v, .string n.nm, .slice q1 n.th.length d1, .slice q2 n.el.length d2, .bool n.has, .int .i64 n.p.1, .int .i64 n.p.2], .agg #[.int .i64 (dp : Int), .bool dO]] W fun e w' => e = .returned (.int .i64 R) /\ Below W.heap.size W w' := by
  obtain ⟨W0, W1, W2, hW0, hW1, hW2, hB, hs0, hs1, hs2, hv⟩ := box_three mb n q1 q2 d1 d2 (dp : Int) dO W
  have hu : ∀ w, Calls Tryz.prog 148 #[.agg #[.int .i64 n.k, .int .i64 n.op, .int .u16 n.v, .string n.nm, .slice q1 n.th.length d1, .slice q2 n.el.length d2, .bool n.has, .int .i64 n.p.1, .int .i64 n.p.2]] w fun e w' => e = .returned (.bool (uses n)) /\ Below w.heap.size w w' := fun w => usesAll_any n d1 d2 q1 q2 w
  have hf : ∀ w, Below W2.heap.size W2 w -> Calls Tryz.prog 149 #[.agg #[.map (some mb)], .agg #[.int .i64 n.k, .int .i64 n.op, .int .u16 n.v, .string n.nm, .slice q1 n.th.length d1, .slice q2 n.el.length d2, .bool n.has, .int .i64 n.p.1, .int .i64 n.p.2]] w fun e w' => e = .returned (.bool (fits names n)) /\ Below w.heap.size w w' := fun w hw => wordFits_any names n mb q1 q2 n.th.length d1 n.el.length d2 w ((hM.below hB hM.lt).below hw (Nat.lt_of_lt_of_le hM.lt hB.size))
  have hst : ∀ w, Calls Tryz.prog 150 #[.agg #[.int .i64 n.k, .int .i64 n.op, .int .u16 n.v, .string n.nm, .slice q1 n.th.length d1, .slice q2 n.el.length d2, .bool n.has, .int .i64 n.p.1, .int .i64 n.p.2]] w fun e w' => e = .returned (.bool (strc n.k)) /\ Below w.heap.size w w' := fun w => isStructure_any n q1 q2 n.th.length d1 n.el.length d2 w
  have HV : ∀ w, Below W2.heap.size W2 w -> B3 w W.heap.size W0.heap.size W1.heap.size mb (ndc n (.slice q1 n.th.length d1) (.slice q2 n.el.length d2)) (dp : Int) dO := fun w hw => hv.below hw (by omega) (by omega) (by omega)
  have HB := hid hB
  have HS := hid (And.intro hs0 (And.intro hs1 hs2))
  have HM := hid hM
  clear hM hB hv hs0 hs1 hs2
  have H2 := hid (Below.refl W2.heap.size W2)
  subst hd
  simp only [h1] at hu
  simp only [h2] at hf
  simp only [h4] at hst
  have hdo : ∀ w, Calls Tryz.prog 151 #[.agg #[.int .i64 n.k, .int .i64 n.op, .int .u16 n.v, .string n.nm, .slice q1 n.th.length d1, .slice q2 n.el.length d2, .bool n.has, .int .i64 n.p.1, .int .i64 n.p.2]] w fun e w' => e = .returned (.bool (n.k == 8)) /\ Below w.heap.size w w' := fun w => isDo_any n q1 q2 n.th.length d1 n.el.length d2 w
  have HRR := hid hR
  clear hR
  have HN1 := hid hN1
  have HN2 := hid hN2
  clear hN1 hN2
  go_enter Tryz.func133, Tryz.ntmps133
  obtain ⟨y0, y1, y2⟩ := id (HV _ H2.out)
  have c0 := S.cell_of W2 _ 0 _ 166 _ y0 rfl
  have x0 := S.cell_of W2 _ 0 _ 90 _ y1 rfl
  have x1 := S.cell_of W2 _ 1 _ 90 _ y1 rfl
  have x2 := S.cell_of W2 _ 2 _ 90 _ y1 rfl
  have x3 := S.cell_of W2 _ 3 _ 90 _ y1 rfl
  have x4 := S.cell_of W2 _ 4 _ 90 _ y1 rfl
  have x5 := S.cell_of W2 _ 5 _ 90 _ y1 rfl
  have x6 := S.cell_of W2 _ 6 _ 90 _ y1 rfl
  have x7 := S.cell_of W2 _ 7 _ 90 _ y1 rfl
  have x8 := S.cell_of W2 _ 8 _ 90 _ y1 rfl
  have i0 := S.cell_of W2 _ 0 _ 188 _ y2 rfl
  have i1 := S.cell_of W2 _ 1 _ 188 _ y2 rfl
  clear y0 y1 y2
  go_wp2_with fail
  refine (hu _).mono ?_
  rintro e w1 ⟨rfl, hb⟩
  have Hw1 := hid (H2.out.trans (hb.mono H2.out.size))
  clear hb
  clear c0 x0 x1 x2 x3 x4 x5 x6 x7 x8 i0 i1 hu hW0 hW1 hW2
  obtain ⟨y0, y1, y2⟩ := id (HV _ Hw1.out)
  have c0 := S.cell_of w1 _ 0 _ 166 _ y0 rfl
  have x0 := S.cell_of w1 _ 0 _ 90 _ y1 rfl
  have x1 := S.cell_of w1 _ 1 _ 90 _ y1 rfl
  have x2 := S.cell_of w1 _ 2 _ 90 _ y1 rfl
  have x3 := S.cell_of w1 _ 3 _ 90 _ y1 rfl
  have x4 := S.cell_of w1 _ 4 _ 90 _ y1 rfl
  have x5 := S.cell_of w1 _ 5 _ 90 _ y1 rfl
  have x6 := S.cell_of w1 _ 6 _ 90 _ y1 rfl
  have x7 := S.cell_of w1 _ 7 _ 90 _ y1 rfl
  have x8 := S.cell_of w1 _ 8 _ 90 _ y1 rfl
  have i0 := S.cell_of w1 _ 0 _ 188 _ y2 rfl
  have i1 := S.cell_of w1 _ 1 _ 188 _ y2 rfl
  clear y0 y1 y2
  go_wp2_with fail
  refine (hf _ (by with_reducible exact Hw1.out)).mono ?_
  rintro e w2 ⟨rfl, hb⟩
  have Hw2 := hid (Hw1.out.trans (hb.mono Hw1.out.size))
  clear hb
  clear c0 x0 x1 x2 x3 x4 x5 x6 x7 x8 i0 i1 hf
  obtain ⟨y0, y1, y2⟩ := id (HV _ Hw2.out)
  have c0 := S.cell_of w2 _ 0 _ 166 _ y0 rfl
  have x0 := S.cell_of w2 _ 0 _ 90 _ y1 rfl
  have x1 := S.cell_of w2 _ 1 _ 90 _ y1 rfl
  have x2 := S.cell_of w2 _ 2 _ 90 _ y1 rfl
  have x3 := S.cell_of w2 _ 3 _ 90 _ y1 rfl
  have x4 := S.cell_of w2 _ 4 _ 90 _ y1 rfl
  have x5 := S.cell_of w2 _ 5 _ 90 _ y1 rfl
  have x6 := S.cell_of w2 _ 6 _ 90 _ y1 rfl
  have x7 := S.cell_of w2 _ 7 _ 90 _ y1 rfl
  have x8 := S.cell_of w2 _ 8 _ 90 _ y1 rfl
  have i0 := S.cell_of w2 _ 0 _ 188 _ y2 rfl
  have i1 := S.cell_of w2 _ 1 _ 188 _ y2 rfl
  clear y0 y1 y2
  go_wp2_with fail
  refine (hst _).mono ?_
  rintro e w3 ⟨rfl, hb⟩
  have Hw3 := hid (Hw2.out.trans (hb.mono Hw2.out.size))
  clear hb
  clear c0 x0 x1 x2 x3 x4 x5 x6 x7 x8 i0 i1 hst
  obtain ⟨y0, y1, y2⟩ := id (HV _ Hw3.out)
  have c0 := S.cell_of w3 _ 0 _ 166 _ y0 rfl
  have x0 := S.cell_of w3 _ 0 _ 90 _ y1 rfl
  have x1 := S.cell_of w3 _ 1 _ 90 _ y1 rfl
  have x2 := S.cell_of w3 _ 2 _ 90 _ y1 rfl
  have x3 := S.cell_of w3 _ 3 _ 90 _ y1 rfl
  have x4 := S.cell_of w3 _ 4 _ 90 _ y1 rfl
  have x5 := S.cell_of w3 _ 5 _ 90 _ y1 rfl
  have x6 := S.cell_of w3 _ 6 _ 90 _ y1 rfl
  have x7 := S.cell_of w3 _ 7 _ 90 _ y1 rfl
  have x8 := S.cell_of w3 _ 8 _ 90 _ y1 rfl
  have i0 := S.cell_of w3 _ 0 _ 188 _ y2 rfl
  have i1 := S.cell_of w3 _ 1 _ 188 _ y2 rfl
  clear y0 y1 y2
  have z0 := S.frozen_of w3 W1.heap.size 0 _ 188 (HV _ Hw3.out).2.2
  have z1 := S.frozen_of w3 W1.heap.size 1 _ 188 (HV _ Hw3.out).2.2
  go_upto_region 9 with fail
  go_cut [] (fun wc => Below W.heap.size W wc /\ B3 wc W.heap.size W0.heap.size W1.heap.size mb (ndc n (.slice q1 n.th.length d1) (.slice q2 n.el.length d2)) ((dp : Int) + 1) true)
  case first =>
    go_region_with (fail)
    all_goals
      go_wp2
      go_meet
      case rel =>
        rw [S.i64_id _ (by omega) (by omega)]
        have hbz := HB.out.trans (Hw3.out.mono HB.out.size)
        have hvz := HV _ Hw3.out
        have hge : W.heap.size <= W1.heap.size := by have := HS.out.2.1; omega
        refine ⟨?_, ?_, ?_, ?_⟩
        · first
            | exact ((hbz.setCell (p := ⟨W1.heap.size, 0, none⟩) hge _).setCell (p := ⟨W1.heap.size, 1, none⟩) hge _).drew
            | exact ((hbz.setCell (p := ⟨W1.heap.size, 0, none⟩) hge _).setCell (p := ⟨W1.heap.size, 1, none⟩) hge _)
        · exact (S.setCell_other _ _ _ _ _ (by have := HS.out.2.1; omega)).trans ((S.setCell_other _ _ _ _ _ (by have := HS.out.2.1; omega)).trans hvz.1)
        · exact (S.setCell_other _ _ _ _ _ (by have := HS.out.2.1; have := HS.out.1; omega)).trans ((S.setCell_other _ _ _ _ _ (by have := HS.out.2.1; have := HS.out.1; omega)).trans hvz.2.1)
        · exact S.setCell_heap _ W1.heap.size 1 _ 188 _ (S.setCell_heap _ W1.heap.size 0 _ 188 _ hvz.2.2)
  case rest =>
    obtain ⟨hbc, hvc⟩ := hcut
    have HC := hid hbc
    have HVC := hid hvc
    clear hbc hvc z0 z1 hdo HV
    clear c0 x0 x1 x2 x3 x4 x5 x6 x7 x8 i0 i1
    obtain ⟨y0, y1, y2⟩ := id HVC.out
    have c0 := S.cell_of wc _ 0 _ 166 _ y0 rfl
    have x0 := S.cell_of wc _ 0 _ 90 _ y1 rfl
    have x1 := S.cell_of wc _ 1 _ 90 _ y1 rfl
    have x2 := S.cell_of wc _ 2 _ 90 _ y1 rfl
    have x3 := S.cell_of wc _ 3 _ 90 _ y1 rfl
    have x4 := S.cell_of wc _ 4 _ 90 _ y1 rfl
    have x5 := S.cell_of wc _ 5 _ 90 _ y1 rfl
    have x6 := S.cell_of wc _ 6 _ 90 _ y1 rfl
    have x7 := S.cell_of wc _ 7 _ 90 _ y1 rfl
    have x8 := S.cell_of wc _ 8 _ 90 _ y1 rfl
    have i0 := S.cell_of wc _ 0 _ 188 _ y2 rfl
    have i1 := S.cell_of wc _ 1 _ 188 _ y2 rfl
    clear y0 y1 y2
    go_wp2_with fail
    refine (HN1.out _ HC.out).mono ?_
    rintro e w5 ⟨rfl, hb5⟩
    have H5 := hid (HC.out.trans (hb5.mono HC.out.size))
    have hv5 : B3 w5 W.heap.size W0.heap.size W1.heap.size mb (ndc n (.slice q1 n.th.length d1) (.slice q2 n.el.length d2)) ((dp : Int) + 1) true := HVC.out.below hb5 (S.lt_of HVC.out.1) (S.lt_of HVC.out.2.1) (S.lt_of HVC.out.2.2)
    have HV5 := hid hv5
    clear hb5 hv5
    clear c0 x0 x1 x2 x3 x4 x5 x6 x7 x8 i0 i1
    by_cases hr : r1 = 0
    · subst hr
      obtain ⟨y0, y1, y2⟩ := id HV5.out
      have c0 := S.cell_of w5 _ 0 _ 166 _ y0 rfl
      have x0 := S.cell_of w5 _ 0 _ 90 _ y1 rfl
      have x1 := S.cell_of w5 _ 1 _ 90 _ y1 rfl
      have x2 := S.cell_of w5 _ 2 _ 90 _ y1 rfl
      have x3 := S.cell_of w5 _ 3 _ 90 _ y1 rfl
      have x4 := S.cell_of w5 _ 4 _ 90 _ y1 rfl
      have x5 := S.cell_of w5 _ 5 _ 90 _ y1 rfl
      have x6 := S.cell_of w5 _ 6 _ 90 _ y1 rfl
      have x7 := S.cell_of w5 _ 7 _ 90 _ y1 rfl
      have x8 := S.cell_of w5 _ 8 _ 90 _ y1 rfl
      have i0 := S.cell_of w5 _ 0 _ 188 _ y2 rfl
      have i1 := S.cell_of w5 _ 1 _ 188 _ y2 rfl
      clear y0 y1 y2
      go_wp2_with fail
      refine (HN2.out _ H5.out).mono ?_
      rintro e w6 ⟨rfl, hb6⟩
      have H6 := hid (H5.out.trans (hb6.mono H5.out.size))
      clear hb6
      clear c0 x0 x1 x2 x3 x4 x5 x6 x7 x8 i0 i1
      go_wp2
      go_ret
      exact ⟨by rw [HRR.out]; rfl, H6.out⟩
    · have HR := hid hr
      have hr1 : (r1 != 0) = true := by simpa using hr
      clear hr
      go_wp2
      go_ret
      exact ⟨by rw [HRR.out, if_neg HR.out]; rfl, H5.out⟩
set_option maxHeartbeats 2000000
set_option maxRecDepth 100000
theorem own1_of (names : List ByteArray) (n : Nd) (i : Nat × Bool) (h1 : uses n = true) (h2 : fits names n = true) (h3 : ¬ (n.k = 9 /\ i.2 = true)) (h4 : ¬ (strc n.k = true /\ i.1 = 32)) : own1 names n i = 0 := by
 unfold own1
 rw [h1, h2, if_neg (by simp), if_neg (by simp), if_neg h3, if_neg h4]
theorem strc_9 : strc 9 = false := rfl
theorem uses_nil (n : Nd) (h : uses n = true) (h4 : strc n.k = false) : n.th = [] /\ n.el = [] := by
 unfold uses usesF at h
 simp only [Bool.and_eq_true, Bool.or_eq_true, decide_eq_true_eq, beq_iff_eq, h4] at h
 obtain ⟨a, b, _, _, _, c, d, _⟩ := h
 have hk : ¬ (4 <= n.k /\ n.k <= 8) := by
  intro hh
  unfold strc at h4
  simp [hh.1, hh.2] at h4
 constructor
 ·rcases c with c | c
  ·cases c
  ·simpa using c
 ·rcases d with (d | d) | d
  ·exact absurd d (by omega)
  ·exact absurd d.1 (by omega)
  ·simpa using d
theorem node_of (names : List ByteArray) (n : Nd) (g1 : ∀ m ∈ n.th, CN names m) (g2 : ∀ m ∈ n.el, CN names m) : CN names n := by
 intro tv ev O mb i W hO ht he hM hi
 obtain ⟨q1, d1, rfl, _, _⟩ := ht.ex
 obtain ⟨q2, d2, rfl, _, _⟩ := he.ex
 obtain ⟨dp, dO⟩ := i
 unfold ndc
 simp only at hi ⊢
 rw [ck_is]
 cases h1 : uses n with
 | false =>
  have E : own1 names n (dp, dO) = 100 := by unfold own1; rw [h1]; rfl
  rw [E, if_neg (by decide)]
  exact nd_100 names n q1 q2 d1 d2 mb dp dO W hM h1
 | true =>
 cases h2 : fits names n with
 | false =>
  have E : own1 names n (dp, dO) = 103 := by unfold own1; rw [h1, h2]; rfl
  rw [E, if_neg (by decide)]
  exact nd_103 names n q1 q2 d1 d2 mb dp dO W hM h1 h2
 | true =>
 by_cases h9 : n.k = 9 /\ dO = true
 ·have E : own1 names n (dp, dO) = 108 := by unfold own1; rw [h1, h2, if_neg (by simp), if_neg (by simp), if_pos h9]
  rw [E, if_neg (by decide)]
  exact nd_108 names n q1 q2 d1 d2 mb dp dO W hM h1 h2 (by simpa using h9.1) h9.2
 by_cases h32 : strc n.k = true /\ dp = 32
 ·have E : own1 names n (dp, dO) = 109 := by unfold own1; rw [h1, h2, if_neg (by simp), if_neg (by simp), if_neg h9, if_pos h32]
  rw [E, if_neg (by decide)]
  have hk : ¬ n.k = 9 := by intro c; rw [c, strc_9] at h32; cases h32.1
  exact nd_109 names n q1 q2 d1 d2 mb dp dO W hM h1 h2 (by simpa using hk) h32.1 (by simp [h32.2])
 rw [own1_of names n (dp, dO) h1 h2 h9 h32, if_pos rfl]
 have hB0 : ∀ (w : World), Below W.heap.size W w -> (∀ j, O j -> j < w.heap.size) := fun w hw j hj => Nat.lt_of_lt_of_le (hO j hj) hw.size
 have hin : (inn n (dp, dO)).1 <= 32 \/ (n.th = [] /\ n.el = []) := by
  cases h4 : strc n.k with
  | true => left; unfold inn; have : dp ≠ 32 := fun c => h32 ⟨h4, c⟩; simp only; omega
  | false => exact Or.inr (uses_nil n h1 h4)
 have hN1 : ∀ w, Below W.heap.size W w -> Calls Tryz.prog 82 #[.agg #[.map (some mb)], .slice q1 n.th.length d1, .agg #[.int .i64 ((dp : Int) + 1), .bool (dO || n.k == 8)]] w fun e w' => e = .returned (.int .i64 (cks names n.th (inn n (dp, dO)))) /\ Below w.heap.size w w' := fun w hw => by
  have := nodes_of names n.th g1 _ O mb (inn n (dp, dO)) w (hB0 w hw) (ht.below hw hO) (hM.below hw hM.lt) (hin.imp id fun h => h.1)
  exact this
 have hN2 : ∀ w, Below W.heap.size W w -> Calls Tryz.prog 82 #[.agg #[.map (some mb)], .slice q2 n.el.length d2, .agg #[.int .i64 ((dp : Int) + 1), .bool (dO || n.k == 8)]] w fun e w' => e = .returned (.int .i64 (cks names n.el (inn n (dp, dO)))) /\ Below w.heap.size w w' := fun w hw => by
  have := nodes_of names n.el g2 _ O mb (inn n (dp, dO)) w (hB0 w hw) (he.below hw hO) (hM.below hw hM.lt) (hin.imp id fun h => h.2)
  exact this
 cases dO with
 | true =>
  have hk : (n.k == 9) = false := by rw [Bool.eq_false_iff]; intro c; exact h9 ⟨by simpa using c, rfl⟩
  rw [Bool.true_or] at hN1 hN2
  cases h4 : strc n.k with
  | false => exact nd_a0 names n q1 q2 d1 d2 mb dp true W hM h1 h2 hk h4 rfl hi _ _ _ rfl hN1 hN2
  | true => exact nd_a1 names n q1 q2 d1 d2 mb dp true W hM h1 h2 hk h4 (by rw [Bool.eq_false_iff]; intro c; exact h32 ⟨h4, by have := eq_of_beq c; omega⟩) rfl hi _ _ _ rfl hN1 hN2
 | false =>
  rw [Bool.false_or] at hN1 hN2
  cases hk : (n.k == 9) with
  | true =>
   have h4 : strc n.k = false := by have := eq_of_beq hk; rw [this]; rfl
   exact nd_b9 names n q1 q2 d1 d2 mb dp false W hM h1 h2 hk h4 rfl hi _ _ _ rfl hN1 hN2
  | false =>
   cases h4 : strc n.k with
   | false => exact nd_b0 names n q1 q2 d1 d2 mb dp false W hM h1 h2 hk h4 rfl hi _ _ _ rfl hN1 hN2
   | true => exact nd_b1 names n q1 q2 d1 d2 mb dp false W hM h1 h2 hk h4 (by rw [Bool.eq_false_iff]; intro c; exact h32 ⟨h4, by have := eq_of_beq c; omega⟩) rfl hi _ _ _ rfl hN1 hN2
theorem node_any (names : List ByteArray) (n : Nd) : CN names n := Nd.ind (fun n g1 g2 => node_of names n g1 g2) n
theorem nodes_any (names : List ByteArray) (l : List Nd) (v : Value) (O : Nat -> Prop) (mb : Nat) (i : Nat × Bool) (W : World) (hO : ∀ j, O j -> j < W.heap.size) (h : NV W O v l) (hM : MP W mb (numb names 0)) (hi : i.1 <= 32) :
  Calls Tryz.prog 82 #[.agg #[.map (some mb)], v, .agg #[.int .i64 (i.1 : Int), .bool i.2]] W fun e w' => e = .returned (.int .i64 (cks names l i)) /\ Below W.heap.size W w' := nodes_of names l (fun m _ => node_any names m) v O mb i W hO h hM (Or.inl hi)
end Go.Proofs.YtoemoiehjdmheaaGreat.R
