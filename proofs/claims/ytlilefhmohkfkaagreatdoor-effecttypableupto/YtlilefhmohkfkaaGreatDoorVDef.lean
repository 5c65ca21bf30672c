import Derived.Test.YtlilefhmohkfkaaGreatDoorVHolA
namespace Go.Proofs.YtlilefhmohkfkaaGreatDoor.V
open Go.RowKit
open Go.Proofs
open Go.Proofs.YtlilefhmohkfkaaGreatDoor.Y (Nd Df Ps ndc dfc hid NV DV D1 cells6 cells9 BV)
open R (ck cks dfE fieldsF isNm box_def)
open E (df_cells)
set_option linter.unusedVariables false
set_option linter.unusedSimpArgs false
set_option maxHeartbeats 2000000
set_option maxRecDepth 100000
theorem df_lo (names : List ByteArray) (k v p1 p2 : Int) (nm : ByteArray) (m : Nat) (q np : Option Addr) (cq nc : Nat) (W : World) (hs : nm.size <= maxLen) (hG : GW W) (h : k < 1) :
  Calls Tryz.prog 24 #[.agg #[.int .i64 k, .string nm, .int .u16 v, .slice q m cq, .int .i64 p1, .int .i64 p2], .slice np names.length nc] W fun e w' => e = .returned (.int .i64 100) /\ Below W.heap.size W w' := by
 obtain ⟨W1, hW1⟩ : ∃ W1, W.alloc (.cells #[.int .i64 k, .string nm, .int .u16 v, .slice q m cq, .int .i64 p1, .int .i64 p2] 27) = W1 := ⟨_, rfl⟩
 have v1 : W1.heap[W.heap.size]? = some (.cells [.int .i64 k, .string nm, .int .u16 v, .slice q m cq, .int .i64 p1, .int .i64 p2].toArray 27 (0, 0)) := by rw [<- hW1]; exact heap_alloc_new W _
 have hB : Below W.heap.size W W1 := by rw [<- hW1]; exact (Below.refl _ _).alloc (Nat.le_refl _) _
 have x1 := S.cell_of W1 _ 1 _ 27 _ v1 rfl
 have hc := mayName_any nm hs W1 (hG.below hB)
 have HB := hid hB
 have HV := hid v1
 clear v1 hB hG
 generalize hy : isNm nm = y at *
 go_enter Tryz.func24, Tryz.ntmps24
 go_wp2_with fail
 refine hc.mono ?_
 rintro e w2 ⟨rfl, hb2⟩
 have HB2 := hid (HB.out.trans (hb2.mono HB.out.size))
 have v2 := (hb2.block _ (S.lt_of HV.out)).trans HV.out
 have HV2 := hid v2
 clear hc hb2 x1 hW1
 have x0 := S.cell_of w2 _ 0 _ 27 _ v2 rfl
 have x1 := S.cell_of w2 _ 1 _ 27 _ v2 rfl
 have x2 := S.cell_of w2 _ 2 _ 27 _ v2 rfl
 have x3 := S.cell_of w2 _ 3 _ 27 _ v2 rfl
 clear v2
 have a1 : decide (k < 1) = true := decide_eq_true h
 go_wp2
 go_ret
 exact ⟨rfl, HB2.out⟩
theorem df_hi (names : List ByteArray) (k v p1 p2 : Int) (nm : ByteArray) (m : Nat) (q np : Option Addr) (cq nc : Nat) (W : World) (hs : nm.size <= maxLen) (hG : GW W) (h : 3 < k) :
  Calls Tryz.prog 24 #[.agg #[.int .i64 k, .string nm, .int .u16 v, .slice q m cq, .int .i64 p1, .int .i64 p2], .slice np names.length nc] W fun e w' => e = .returned (.int .i64 100) /\ Below W.heap.size W w' := by
 obtain ⟨W1, hW1⟩ : ∃ W1, W.alloc (.cells #[.int .i64 k, .string nm, .int .u16 v, .slice q m cq, .int .i64 p1, .int .i64 p2] 27) = W1 := ⟨_, rfl⟩
 have v1 : W1.heap[W.heap.size]? = some (.cells [.int .i64 k, .string nm, .int .u16 v, .slice q m cq, .int .i64 p1, .int .i64 p2].toArray 27 (0, 0)) := by rw [<- hW1]; exact heap_alloc_new W _
 have hB : Below W.heap.size W W1 := by rw [<- hW1]; exact (Below.refl _ _).alloc (Nat.le_refl _) _
 have x1 := S.cell_of W1 _ 1 _ 27 _ v1 rfl
 have hc := mayName_any nm hs W1 (hG.below hB)
 have HB := hid hB
 have HV := hid v1
 clear v1 hB hG
 generalize hy : isNm nm = y at *
 go_enter Tryz.func24, Tryz.ntmps24
 go_wp2_with fail
 refine hc.mono ?_
 rintro e w2 ⟨rfl, hb2⟩
 have HB2 := hid (HB.out.trans (hb2.mono HB.out.size))
 have v2 := (hb2.block _ (S.lt_of HV.out)).trans HV.out
 have HV2 := hid v2
 clear hc hb2 x1 hW1
 have x0 := S.cell_of w2 _ 0 _ 27 _ v2 rfl
 have x1 := S.cell_of w2 _ 1 _ 27 _ v2 rfl
 have x2 := S.cell_of w2 _ 2 _ 27 _ v2 rfl
 have x3 := S.cell_of w2 _ 3 _ 27 _ v2 rfl
 clear v2
 have a1 : ¬ k < 1 := by omega
 have a2 : decide (3 < k) = true := decide_eq_true h
 go_wp2
 go_ret
 exact ⟨rfl, HB2.out⟩
theorem df_1n (names : List ByteArray) (k v p1 p2 : Int) (nm : ByteArray) (m : Nat) (q np : Option Addr) (cq nc : Nat) (W : World) (hs : nm.size <= maxLen) (hG : GW W) (h : ¬ v = 0) :
  Calls Tryz.prog 24 #[.agg #[.int .i64 1, .string nm, .int .u16 v, .slice q m cq, .int .i64 p1, .int .i64 p2], .slice np names.length nc] W fun e w' => e = .returned (.int .i64 100) /\ Below W.heap.size W w' := by
 obtain ⟨W1, hW1⟩ : ∃ W1, W.alloc (.cells #[.int .i64 1, .string nm, .int .u16 v, .slice q m cq, .int .i64 p1, .int .i64 p2] 27) = W1 := ⟨_, rfl⟩
 have v1 : W1.heap[W.heap.size]? = some (.cells [.int .i64 1, .string nm, .int .u16 v, .slice q m cq, .int .i64 p1, .int .i64 p2].toArray 27 (0, 0)) := by rw [<- hW1]; exact heap_alloc_new W _
 have hB : Below W.heap.size W W1 := by rw [<- hW1]; exact (Below.refl _ _).alloc (Nat.le_refl _) _
 have x1 := S.cell_of W1 _ 1 _ 27 _ v1 rfl
 have hc := mayName_any nm hs W1 (hG.below hB)
 have HB := hid hB
 have HV := hid v1
 clear v1 hB hG
 generalize hy : isNm nm = y at *
 go_enter Tryz.func24, Tryz.ntmps24
 go_wp2_with fail
 refine hc.mono ?_
 rintro e w2 ⟨rfl, hb2⟩
 have HB2 := hid (HB.out.trans (hb2.mono HB.out.size))
 have v2 := (hb2.block _ (S.lt_of HV.out)).trans HV.out
 have HV2 := hid v2
 clear hc hb2 x1 hW1
 have x0 := S.cell_of w2 _ 0 _ 27 _ v2 rfl
 have x1 := S.cell_of w2 _ 1 _ 27 _ v2 rfl
 have x2 := S.cell_of w2 _ 2 _ 27 _ v2 rfl
 have x3 := S.cell_of w2 _ 3 _ 27 _ v2 rfl
 clear v2
 go_wp2
 go_ret
 exact ⟨rfl, HB2.out⟩
theorem df_2n (names : List ByteArray) (k v p1 p2 : Int) (nm : ByteArray) (m : Nat) (q np : Option Addr) (cq nc : Nat) (W : World) (hs : nm.size <= maxLen) (hG : GW W)  :
  Calls Tryz.prog 24 #[.agg #[.int .i64 2, .string nm, .int .u16 v, .slice q (m + 1) cq, .int .i64 p1, .int .i64 p2], .slice np names.length nc] W fun e w' => e = .returned (.int .i64 100) /\ Below W.heap.size W w' := by
 obtain ⟨W1, hW1⟩ : ∃ W1, W.alloc (.cells #[.int .i64 2, .string nm, .int .u16 v, .slice q (m + 1) cq, .int .i64 p1, .int .i64 p2] 27) = W1 := ⟨_, rfl⟩
 have v1 : W1.heap[W.heap.size]? = some (.cells [.int .i64 2, .string nm, .int .u16 v, .slice q (m + 1) cq, .int .i64 p1, .int .i64 p2].toArray 27 (0, 0)) := by rw [<- hW1]; exact heap_alloc_new W _
 have hB : Below W.heap.size W W1 := by rw [<- hW1]; exact (Below.refl _ _).alloc (Nat.le_refl _) _
 have x1 := S.cell_of W1 _ 1 _ 27 _ v1 rfl
 have hc := mayName_any nm hs W1 (hG.below hB)
 have HB := hid hB
 have HV := hid v1
 clear v1 hB hG
 generalize hy : isNm nm = y at *
 go_enter Tryz.func24, Tryz.ntmps24
 go_wp2_with fail
 refine hc.mono ?_
 rintro e w2 ⟨rfl, hb2⟩
 have HB2 := hid (HB.out.trans (hb2.mono HB.out.size))
 have v2 := (hb2.block _ (S.lt_of HV.out)).trans HV.out
 have HV2 := hid v2
 clear hc hb2 x1 hW1
 have x0 := S.cell_of w2 _ 0 _ 27 _ v2 rfl
 have x1 := S.cell_of w2 _ 1 _ 27 _ v2 rfl
 have x2 := S.cell_of w2 _ 2 _ 27 _ v2 rfl
 have x3 := S.cell_of w2 _ 3 _ 27 _ v2 rfl
 clear v2
 have a1 : (0 : Int) < ((m + 1 : Nat) : Int) := by omega
 go_wp2
 go_ret
 exact ⟨rfl, HB2.out⟩
theorem df_3n (names : List ByteArray) (k v p1 p2 : Int) (nm : ByteArray) (m : Nat) (q np : Option Addr) (cq nc : Nat) (W : World) (hs : nm.size <= maxLen) (hG : GW W)  :
  Calls Tryz.prog 24 #[.agg #[.int .i64 3, .string nm, .int .u16 v, .slice q (m + 1) cq, .int .i64 p1, .int .i64 p2], .slice np names.length nc] W fun e w' => e = .returned (.int .i64 100) /\ Below W.heap.size W w' := by
 obtain ⟨W1, hW1⟩ : ∃ W1, W.alloc (.cells #[.int .i64 3, .string nm, .int .u16 v, .slice q (m + 1) cq, .int .i64 p1, .int .i64 p2] 27) = W1 := ⟨_, rfl⟩
 have v1 : W1.heap[W.heap.size]? = some (.cells [.int .i64 3, .string nm, .int .u16 v, .slice q (m + 1) cq, .int .i64 p1, .int .i64 p2].toArray 27 (0, 0)) := by rw [<- hW1]; exact heap_alloc_new W _
 have hB : Below W.heap.size W W1 := by rw [<- hW1]; exact (Below.refl _ _).alloc (Nat.le_refl _) _
 have x1 := S.cell_of W1 _ 1 _ 27 _ v1 rfl
 have hc := mayName_any nm hs W1 (hG.below hB)
 have HB := hid hB
 have HV := hid v1
 clear v1 hB hG
 generalize hy : isNm nm = y at *
 go_enter Tryz.func24, Tryz.ntmps24
 go_wp2_with fail
 refine hc.mono ?_
 rintro e w2 ⟨rfl, hb2⟩
 have HB2 := hid (HB.out.trans (hb2.mono HB.out.size))
 have v2 := (hb2.block _ (S.lt_of HV.out)).trans HV.out
 have HV2 := hid v2
 clear hc hb2 x1 hW1
 have x0 := S.cell_of w2 _ 0 _ 27 _ v2 rfl
 have x1 := S.cell_of w2 _ 1 _ 27 _ v2 rfl
 have x2 := S.cell_of w2 _ 2 _ 27 _ v2 rfl
 have x3 := S.cell_of w2 _ 3 _ 27 _ v2 rfl
 clear v2
 have a1 : (0 : Int) < ((m + 1 : Nat) : Int) := by omega
 go_wp2
 go_ret
 exact ⟨rfl, HB2.out⟩
theorem df_1 (names : List ByteArray) (k v p1 p2 : Int) (nm : ByteArray) (m : Nat) (q np : Option Addr) (cq nc : Nat) (W : World) (hs : nm.size <= maxLen) (hG : GW W)  (hS : SV W (.slice np names.length nc) names) (z : Int) (hN : ∀ w, Below W.heap.size W w -> Calls Tryz.prog 41 #[.slice q m cq, .slice np names.length nc, .int .i64 0, .bool false] w fun e w' => e = .returned (.int .i64 z) /\ Below w.heap.size w w') (R : Int) (hR : R = if isNm nm = false then 101 else if inN names nm = true then 102 else if False then 106 else z) :
  Calls Tryz.prog 24 #[.agg #[.int .i64 1, .string nm, .int .u16 0, .slice q m cq, .int .i64 p1, .int .i64 p2], .slice np names.length nc] W fun e w' => e = .returned (.int .i64 R) /\ Below W.heap.size W w' := by
 obtain ⟨W1, hW1⟩ : ∃ W1, W.alloc (.cells #[.int .i64 1, .string nm, .int .u16 0, .slice q m cq, .int .i64 p1, .int .i64 p2] 27) = W1 := ⟨_, rfl⟩
 have v1 : W1.heap[W.heap.size]? = some (.cells [.int .i64 1, .string nm, .int .u16 0, .slice q m cq, .int .i64 p1, .int .i64 p2].toArray 27 (0, 0)) := by rw [<- hW1]; exact heap_alloc_new W _
 have hB : Below W.heap.size W W1 := by rw [<- hW1]; exact (Below.refl _ _).alloc (Nat.le_refl _) _
 have x1 := S.cell_of W1 _ 1 _ 27 _ v1 rfl
 have hc := mayName_any nm hs W1 (hG.below hB)
 have HB := hid hB
 have HV := hid v1
 clear v1 hB hG
 have HR := hid hR
 have HN := hid hN
 have HS := hid hS
 clear hR hN hS
 generalize hy : isNm nm = y at *
 go_enter Tryz.func24, Tryz.ntmps24
 go_wp2_with fail
 refine hc.mono ?_
 rintro e w2 ⟨rfl, hb2⟩
 have HB2 := hid (HB.out.trans (hb2.mono HB.out.size))
 have v2 := (hb2.block _ (S.lt_of HV.out)).trans HV.out
 have HV2 := hid v2
 clear hc hb2 x1 hW1
 have x0 := S.cell_of w2 _ 0 _ 27 _ v2 rfl
 have x1 := S.cell_of w2 _ 1 _ 27 _ v2 rfl
 have x2 := S.cell_of w2 _ 2 _ 27 _ v2 rfl
 have x3 := S.cell_of w2 _ 3 _ 27 _ v2 rfl
 clear v2
 cases y
 ·go_wp2
  go_ret
  exact ⟨(congrArg (fun z => Ending.returned (Value.int .i64 z)) (show R = 101 from HR.out.trans (by simp))).symm, HB2.out⟩
 have hi := in_any names nm _ w2 (HS.out.below HB2.out)
 generalize hu : inN names nm = u at *
 clear hu
 go_wp2_with fail
 refine hi.mono ?_
 rintro e w3 ⟨rfl, hb3⟩
 have HB3 := hid (HB2.out.trans (hb3.mono HB2.out.size))
 have v3 := (hb3.block _ (S.lt_of HV2.out)).trans HV2.out
 clear hi hb3 x0 x1 x2 x3
 have x0 := S.cell_of w3 _ 0 _ 27 _ v3 rfl
 have x1 := S.cell_of w3 _ 1 _ 27 _ v3 rfl
 have x2 := S.cell_of w3 _ 2 _ 27 _ v3 rfl
 have x3 := S.cell_of w3 _ 3 _ 27 _ v3 rfl
 clear v3
 cases u
 rotate_left
 ·go_wp2
  go_ret
  exact ⟨(congrArg (fun z => Ending.returned (Value.int .i64 z)) (show R = 102 from HR.out.trans (by simp))).symm, HB3.out⟩
 go_wp2_with fail
 refine (HN.out w3 HB3.out).mono ?_
 rintro e w4 ⟨rfl, hb4⟩
 have HB4 := hid (HB3.out.trans (hb4.mono HB3.out.size))
 clear hb4 x0 x1 x2 x3
 go_wp2
 go_ret
 exact ⟨(congrArg (fun z => Ending.returned (Value.int .i64 z)) (show R = z from HR.out.trans (by simp))).symm, HB4.out⟩
theorem df_2 (names : List ByteArray) (k v p1 p2 : Int) (nm : ByteArray) (m : Nat) (q np : Option Addr) (cq nc : Nat) (W : World) (hs : nm.size <= maxLen) (hG : GW W)  (hS : SV W (.slice np names.length nc) names) (z : Int) (hN : ∀ w, Below W.heap.size W w -> Calls Tryz.prog 41 #[.slice q 0 cq, .slice np names.length nc, .int .i64 0, .bool false] w fun e w' => e = .returned (.int .i64 z) /\ Below w.heap.size w w') (R : Int) (hR : R = if isNm nm = false then 101 else if inN names nm = true then 102 else if False then 106 else z) :
  Calls Tryz.prog 24 #[.agg #[.int .i64 2, .string nm, .int .u16 v, .slice q 0 cq, .int .i64 p1, .int .i64 p2], .slice np names.length nc] W fun e w' => e = .returned (.int .i64 R) /\ Below W.heap.size W w' := by
 obtain ⟨W1, hW1⟩ : ∃ W1, W.alloc (.cells #[.int .i64 2, .string nm, .int .u16 v, .slice q 0 cq, .int .i64 p1, .int .i64 p2] 27) = W1 := ⟨_, rfl⟩
 have v1 : W1.heap[W.heap.size]? = some (.cells [.int .i64 2, .string nm, .int .u16 v, .slice q 0 cq, .int .i64 p1, .int .i64 p2].toArray 27 (0, 0)) := by rw [<- hW1]; exact heap_alloc_new W _
 have hB : Below W.heap.size W W1 := by rw [<- hW1]; exact (Below.refl _ _).alloc (Nat.le_refl _) _
 have x1 := S.cell_of W1 _ 1 _ 27 _ v1 rfl
 have hc := mayName_any nm hs W1 (hG.below hB)
 have HB := hid hB
 have HV := hid v1
 clear v1 hB hG
 have HR := hid hR
 have HN := hid hN
 have HS := hid hS
 clear hR hN hS
 generalize hy : isNm nm = y at *
 go_enter Tryz.func24, Tryz.ntmps24
 go_wp2_with fail
 refine hc.mono ?_
 rintro e w2 ⟨rfl, hb2⟩
 have HB2 := hid (HB.out.trans (hb2.mono HB.out.size))
 have v2 := (hb2.block _ (S.lt_of HV.out)).trans HV.out
 have HV2 := hid v2
 clear hc hb2 x1 hW1
 have x0 := S.cell_of w2 _ 0 _ 27 _ v2 rfl
 have x1 := S.cell_of w2 _ 1 _ 27 _ v2 rfl
 have x2 := S.cell_of w2 _ 2 _ 27 _ v2 rfl
 have x3 := S.cell_of w2 _ 3 _ 27 _ v2 rfl
 clear v2
 cases y
 ·go_wp2
  go_ret
  exact ⟨(congrArg (fun z => Ending.returned (Value.int .i64 z)) (show R = 101 from HR.out.trans (by simp))).symm, HB2.out⟩
 have hi := in_any names nm _ w2 (HS.out.below HB2.out)
 generalize hu : inN names nm = u at *
 clear hu
 go_wp2_with fail
 refine hi.mono ?_
 rintro e w3 ⟨rfl, hb3⟩
 have HB3 := hid (HB2.out.trans (hb3.mono HB2.out.size))
 have v3 := (hb3.block _ (S.lt_of HV2.out)).trans HV2.out
 clear hi hb3 x0 x1 x2 x3
 have x0 := S.cell_of w3 _ 0 _ 27 _ v3 rfl
 have x1 := S.cell_of w3 _ 1 _ 27 _ v3 rfl
 have x2 := S.cell_of w3 _ 2 _ 27 _ v3 rfl
 have x3 := S.cell_of w3 _ 3 _ 27 _ v3 rfl
 clear v3
 cases u
 rotate_left
 ·go_wp2
  go_ret
  exact ⟨(congrArg (fun z => Ending.returned (Value.int .i64 z)) (show R = 102 from HR.out.trans (by simp))).symm, HB3.out⟩
 go_wp2_with fail
 refine (HN.out w3 HB3.out).mono ?_
 rintro e w4 ⟨rfl, hb4⟩
 have HB4 := hid (HB3.out.trans (hb4.mono HB3.out.size))
 clear hb4 x0 x1 x2 x3
 go_wp2
 go_ret
 exact ⟨(congrArg (fun z => Ending.returned (Value.int .i64 z)) (show R = z from HR.out.trans (by simp))).symm, HB4.out⟩
theorem df_3 (names : List ByteArray) (k v p1 p2 : Int) (nm : ByteArray) (m : Nat) (q np : Option Addr) (cq nc : Nat) (W : World) (hs : nm.size <= maxLen) (hG : GW W)  (hS : SV W (.slice np names.length nc) names) (z : Int) (hN : ∀ w, Below W.heap.size W w -> Calls Tryz.prog 41 #[.slice q 0 cq, .slice np names.length nc, .int .i64 0, .bool false] w fun e w' => e = .returned (.int .i64 z) /\ Below w.heap.size w w') (R : Int) (hR : R = if isNm nm = false then 101 else if inN names nm = true then 102 else if 16384 < v then 106 else z) :
  Calls Tryz.prog 24 #[.agg #[.int .i64 3, .string nm, .int .u16 v, .slice q 0 cq, .int .i64 p1, .int .i64 p2], .slice np names.length nc] W fun e w' => e = .returned (.int .i64 R) /\ Below W.heap.size W w' := by
 obtain ⟨W1, hW1⟩ : ∃ W1, W.alloc (.cells #[.int .i64 3, .string nm, .int .u16 v, .slice q 0 cq, .int .i64 p1, .int .i64 p2] 27) = W1 := ⟨_, rfl⟩
 have v1 : W1.heap[W.heap.size]? = some (.cells [.int .i64 3, .string nm, .int .u16 v, .slice q 0 cq, .int .i64 p1, .int .i64 p2].toArray 27 (0, 0)) := by rw [<- hW1]; exact heap_alloc_new W _
 have hB : Below W.heap.size W W1 := by rw [<- hW1]; exact (Below.refl _ _).alloc (Nat.le_refl _) _
 have x1 := S.cell_of W1 _ 1 _ 27 _ v1 rfl
 have hc := mayName_any nm hs W1 (hG.below hB)
 have HB := hid hB
 have HV := hid v1
 clear v1 hB hG
 have HR := hid hR
 have HN := hid hN
 have HS := hid hS
 clear hR hN hS
 generalize hy : isNm nm = y at *
 go_enter Tryz.func24, Tryz.ntmps24
 go_wp2_with fail
 refine hc.mono ?_
 rintro e w2 ⟨rfl, hb2⟩
 have HB2 := hid (HB.out.trans (hb2.mono HB.out.size))
 have v2 := (hb2.block _ (S.lt_of HV.out)).trans HV.out
 have HV2 := hid v2
 clear hc hb2 x1 hW1
 have x0 := S.cell_of w2 _ 0 _ 27 _ v2 rfl
 have x1 := S.cell_of w2 _ 1 _ 27 _ v2 rfl
 have x2 := S.cell_of w2 _ 2 _ 27 _ v2 rfl
 have x3 := S.cell_of w2 _ 3 _ 27 _ v2 rfl
 clear v2
 cases y
 ·go_wp2
  go_ret
  exact ⟨(congrArg (fun z => Ending.returned (Value.int .i64 z)) (show R = 101 from HR.out.trans (by simp))).symm, HB2.out⟩
 have hi := in_any names nm _ w2 (HS.out.below HB2.out)
 generalize hu : inN names nm = u at *
 clear hu
 go_wp2_with fail
 refine hi.mono ?_
 rintro e w3 ⟨rfl, hb3⟩
 have HB3 := hid (HB2.out.trans (hb3.mono HB2.out.size))
 have v3 := (hb3.block _ (S.lt_of HV2.out)).trans HV2.out
 clear hi hb3 x0 x1 x2 x3
 have x0 := S.cell_of w3 _ 0 _ 27 _ v3 rfl
 have x1 := S.cell_of w3 _ 1 _ 27 _ v3 rfl
 have x2 := S.cell_of w3 _ 2 _ 27 _ v3 rfl
 have x3 := S.cell_of w3 _ 3 _ 27 _ v3 rfl
 clear v3
 cases u
 rotate_left
 ·go_wp2
  go_ret
  exact ⟨(congrArg (fun z => Ending.returned (Value.int .i64 z)) (show R = 102 from HR.out.trans (by simp))).symm, HB3.out⟩
 by_cases hv : 16384 < v
 ·have HQ := hid hv
  go_wp2
  go_ret
  exact ⟨(congrArg (fun z => Ending.returned (Value.int .i64 z)) (show R = 106 from HR.out.trans (by have := HQ.out; simp [this]))).symm, HB3.out⟩
 ·have HQ := hid hv
  go_wp2_with fail
  refine (HN.out w3 HB3.out).mono ?_
  rintro e w4 ⟨rfl, hb4⟩
  have HB4 := hid (HB3.out.trans (hb4.mono HB3.out.size))
  clear hb4 x0 x1 x2 x3
  go_wp2
  go_ret
  exact ⟨(congrArg (fun z => Ending.returned (Value.int .i64 z)) (show R = z from HR.out.trans (by have := HQ.out; rw [if_neg (by simp), if_neg (by simp), if_neg (by omega)]))).symm, HB4.out⟩
theorem def_any (names : List ByteArray) (d : Df) (hs : d.nm.size <= maxLen) (bv nv : Value) (O : Nat -> Prop) (W : World) (hO : ∀ j, O j -> j < W.heap.size) (hV : NV W O bv d.body) (hS : SV W nv names) (hG : GW W) :
  Calls Tryz.prog 24 #[.agg (dfc d bv).toArray, nv] W fun e w' => e = .returned (.int .i64 (dfE names d)) /\ Below W.heap.size W w' := by
 obtain ⟨q, cq, rfl, _, _⟩ := id hV.ex
 obtain ⟨np, nc, rfl, _, _⟩ := id hS
 have hN : ∀ w, Below W.heap.size W w -> Calls Tryz.prog 41 #[.slice q d.body.length cq, .slice np names.length nc, .int .i64 0, .bool false] w fun e w' => e = .returned (.int .i64 (cks names d.body (0, false))) /\ Below w.heap.size w w' := fun w hw =>
  nodes_any names d.body _ _ O (0, false) w (fun j hj => Nat.lt_of_lt_of_le (hO j hj) hw.size) (hV.below hw hO) (hS.below hw) (by simp)
 clear hV hO
 obtain ⟨k, nm, v, body, p⟩ := d
 unfold dfc dfE
 simp only at hs hN ⊢
 by_cases c0 : k < 1
 ·rw [if_pos (by unfold fieldsF; rw [if_neg (by omega), if_neg (by omega)])]
  exact df_lo names k v p.1 p.2 nm body.length q np cq nc W hs hG c0
 by_cases c4 : 3 < k
 ·rw [if_pos (by unfold fieldsF; rw [if_neg (by omega), if_neg (by omega)])]
  exact df_hi names k v p.1 p.2 nm body.length q np cq nc W hs hG c4
 by_cases c1 : k = 1
 ·subst c1
  by_cases v0 : v = 0
  ·subst v0
   rw [if_neg (by simp [fieldsF])]
   exact df_1 names 1 0 p.1 p.2 nm body.length q np cq nc W hs hG hS _ hN _ (by simp [inN] <;> first | done | rfl | (congr; done) | (split <;> simp_all))
  ·rw [if_pos (by simp [fieldsF, v0])]
   exact df_1n names 1 v p.1 p.2 nm body.length q np cq nc W hs hG v0
 by_cases c2 : k = 2
 ·subst c2
  cases body with
  | nil =>
   rw [if_neg (by simp [fieldsF])]
   exact df_2 names 2 v p.1 p.2 nm 0 q np cq nc W hs hG hS _ hN _ (by simp [inN] <;> first | done | rfl | (congr; done) | (split <;> simp_all))
  | cons a r =>
   rw [if_pos (by simp [fieldsF])]
   exact df_2n names 2 v p.1 p.2 nm r.length q np cq nc W hs hG
 obtain rfl : k = 3 := by omega
 cases body with
 | nil =>
  rw [if_neg (by simp [fieldsF])]
  exact df_3 names 3 v p.1 p.2 nm 0 q np cq nc W hs hG hS _ hN _ (by simp [inN] <;> first | done | rfl | (congr; done) | (split <;> simp_all))
 | cons a r =>
  rw [if_pos (by simp [fieldsF])]
  exact df_3n names 3 v p.1 p.2 nm r.length q np cq nc W hs hG
open Go.Proofs.YtlilefhmohkfkaaGreatDoor.Y (Nd Df Ps ndc dfc hid NV DV D1 cells6 BV)
open R (isMain any_take any_of toList_inj)
set_option linter.unusedVariables false
set_option linter.unusedSimpArgs false
set_option maxHeartbeats 2000000
set_option maxRecDepth 100000
theorem hasMain_any (ds : List Df) (v : Value) (O : Nat -> Prop) (W : World) (hO : ∀ j, O j -> j < W.heap.size) (h : DV W O v ds) :
  Calls Tryz.prog 25 #[v] W fun e w' => e = .returned (.bool (ds.any isMain)) /\ Below W.heap.size W w' := by
 obtain ⟨p, c, rfl, hl, hp⟩ := h
 go_enter Tryz.func25, Tryz.ntmps25
 go_wp2
 go_loopw [3] (fun ix wr => ∃ k : Nat, k <= ds.length /\ ix = .int .i64 (k : Int) /\ Below W.heap.size W wr /\ (ds.take k).any isMain = false) (fun ix _ => ds.length - (intOf ix).toNat)
 case atStart => exact ⟨0, by omega, rfl, Below.refl _ _, rfl⟩
 case round =>
  obtain ⟨k, hk, rfl, hb, hE⟩ := hrel
  by_cases hlt : k < ds.length
  ·have i1 : (k : Int) < ds.length := by omega
   have ea := List.getElem?_eq_getElem hlt
   generalize ds[k] = d at *
   obtain ⟨b, o, rfl, hOb, bv, hcl, hN⟩ := hp k d ea
   obtain ⟨q, cq, rfl, _, _⟩ := hN.ex
   have k1 := hb.block b (hO b hOb)
   obtain ⟨g0, g1, g2, g3, g4, g5⟩ := cells6 fun j x hx => (World.cell?_of_block (w := W) (a := ⟨b, o + k * 6 + j, none⟩) k1).trans (hcl j x hx)
   have HT := hid (any_take ds k d ea hE)
   have HA := hid (any_of ds (k + 1))
   have HB := hid hb
   clear k1 hp hN hcl hO ea hE hb
   by_cases c1 : d.k = 1
   ·by_cases m : d.nm = ⟨#[109, 97, 105, 110]⟩
    ·have HM : Y.Hd (isMain d = true) := ⟨by unfold isMain; rw [c1, m]; decide⟩
     rw [m] at g1
     go_wp2
     go_ret
     exact ⟨(congrArg (fun z => Ending.returned (Value.bool z)) (HA.out (HT.out.trans HM.out))).symm, HB.out⟩
    ·have m1 : ¬ d.nm.toList = (⟨#[109, 97, 105, 110]⟩ : ByteArray).toList := fun c => m (toList_inj c)
     have m2 : (d.nm.toList == [109, 97, 105, 110]) = false := by
      rw [beq_eq_false_iff_ne]; intro e; exact m1 (by rw [e, ByteArray.toList_eq])
     have m3 : ¬ d.nm.toList = [109, 97, 105, 110] := by simpa using m2
     have HM : Y.Hd (isMain d = false) := ⟨by unfold isMain; rw [decide_eq_false m, Bool.and_false]⟩
     clear m m1
     go_wp2
     go_roundw
     case rel =>
      first
       | exact ⟨k + 1, by omega, by go_num, HB.out, HT.out.trans HM.out⟩
       | ((repeat apply Exists.intro); refine ⟨⟨k + 1, by omega, ?_, HB.out, HT.out.trans HM.out⟩, rfl⟩; go_num)
     case measure => simp [intOf]; omega
   ·have HM : Y.Hd (isMain d = false) := ⟨by unfold isMain; simp [c1]⟩
    go_wp2
    go_roundw
    case rel =>
     first
      | exact ⟨k + 1, by omega, by go_num, HB.out, HT.out.trans HM.out⟩
      | ((repeat apply Exists.intro); refine ⟨⟨k + 1, by omega, ?_, HB.out, HT.out.trans HM.out⟩, rfl⟩; go_num)
    case measure => simp [intOf]; omega
  ·have i1 : ¬ (k : Int) < ds.length := by omega
   rw [List.take_of_length_le (by omega)] at hE
   have HE := hid hE
   clear hE
   go_wp2
   go_ret
   exact ⟨by rw [HE.out]; rfl, hb⟩
open R (isMain chk dsE dfE bkE Bk dsE_step bkE_cons)
open E (own_is own_ge own_cell)
set_option linter.unusedVariables false
set_option linter.unusedSimpArgs false
set_option maxHeartbeats 2000000
set_option maxRecDepth 100000
def sv1 (s : ByteArray) : List Value := [.string s]
theorem infoStr : (Tryz.prog.info? 9).map (fun i => (i.zero, i.size, i.bytes)) = some (some (.string ⟨#[]⟩), 1, 16) := by kernel_rfl
theorem own_sv {w : World} {B : Nat} {v : Value} {ns : List ByteArray} {n : Nat} (ho : w.ownsRow B 9 1 v n (S.en sv1 ns)) (hn : n = ns.length) (hl : ns.length <= 1048576) : SV w v ns := by
 subst hn
 obtain ⟨p, c, rfl⟩ := own_is ho
 refine ⟨p, c, rfl, by omega, fun i s hi => ?_⟩
 have hlt := (List.getElem?_eq_some_iff.1 hi).1
 obtain ⟨g, c', e, h2, h3, h4⟩ := own_cell ho (by omega)
 cases e
 refine ⟨g, 0, rfl, h3, ?_⟩
 have := h4 _ _ ((S.en_get (e := sv1) (s := 1) (fun a => rfl) ns i 0 s hi (by omega)).trans rfl)
 simpa using this
theorem check_any (ds : List Df) (bs : List Bk) (hd : ds.length <= 1048576) (hnm : ∀ d ∈ ds, d.nm.size <= maxLen) (hlb : bs.length <= 140737488355328) (dv bv : Value) (O : Nat -> Prop) (W : World) (hO : ∀ j, O j -> j < W.heap.size) (hD : DV W O dv ds) (hK : BV W O bv bs) (hG : GW W) :
  Calls Tryz.prog 9 #[.agg #[dv, bv]] W fun e w' => e = .returned (.int .i64 (chk ds bs)) /\ Below W.heap.size W w' := by
 obtain ⟨p1, c1, rfl, _, hp⟩ := id hD
 obtain ⟨p2, c2, rfl, hpb⟩ := id hK
 obtain ⟨W0, hW0⟩ : ∃ W0, W.alloc (.cells #[.slice p1 ds.length c1, .slice p2 bs.length c2] 35) = W0 := ⟨_, rfl⟩
 have hB : Below W.heap.size W W0 := by rw [<- hW0]; exact (Below.refl _ _).alloc (Nat.le_refl _) _
 have hs0 : W0.heap.size = W.heap.size + 1 := by rw [<- hW0]; simp
 have v0 : W0.heap[W.heap.size]? = some (.cells [.slice p1 ds.length c1, .slice p2 bs.length c2].toArray 35 (0, 0)) := by rw [<- hW0]; exact heap_alloc_new W _
 have HV := hid (And.intro hB (And.intro v0 hs0))
 have HH := hid (And.intro hO (And.intro hp (And.intro hpb (And.intro hnm (And.intro hG hD)))))
 have HC : Y.Hd (chk ds bs = if dsE [] ds = 0 then (if bkE (-1) bs = 0 then (if ds.any isMain then 0 else 107) else bkE (-1) bs) else dsE [] ds) := ⟨rfl⟩
 generalize chk ds bs = R at *
 clear hB v0 hs0 hp hpb hO hnm hG hD hK
 go_enter Tryz.func9, Tryz.ntmps9
 go_wp2
 clear hW0
 go_loopw [3, 4] (fun na ix wr => ∃ k : Nat, k <= ds.length /\ ix = .int .i64 (k : Int) /\ Below W0.heap.size W0 wr /\ wr.ownsRow W0.heap.size 9 1 na k (S.en sv1 ((ds.take k).map (·.nm))) /\ dsE [] ds = dsE ((ds.take k).map (·.nm)) (ds.drop k)) (fun _ ix _ => ds.length - (intOf ix).toNat)
 case atStart => exact ⟨0, by omega, rfl, Below.refl _ _, World.ownsRow_nil _ _ _ _, rfl⟩
 case round =>
  obtain ⟨k, hk, rfl, hb, hR, hE⟩ := hrel
  have hbw : Below W.heap.size W wr := HV.out.1.trans (hb.mono HV.out.1.size)
  have vb := (hb.block _ (S.lt_of HV.out.2.1)).trans HV.out.2.1
  have y0 := S.cell_of wr _ 0 _ 35 _ vb rfl
  have y1 := S.cell_of wr _ 1 _ 35 _ vb rfl
  obtain ⟨p3, c3, rfl⟩ := own_is hR
  by_cases hlt : k < ds.length
  ·have i1 : (k : Int) < ds.length := by omega
   have ea := List.getElem?_eq_getElem hlt
   have hsz := HH.out.2.2.2.1 ds[k] (List.getElem_mem _)
   generalize ds[k] = d at *
   obtain ⟨b, o, rfl, hOb, bv, hcl, hN⟩ := HH.out.2.1 k d ea
   obtain ⟨q, cq, rfl, _, _⟩ := id hN.ex
   have k1 := hbw.block b (HH.out.1 b hOb)
   obtain ⟨g0, g1, g2, g3, g4, g5⟩ := cells6 fun j x hx => (World.cell?_of_block (w := W) (a := ⟨b, o + k * 6 + j, none⟩) k1).trans (hcl j x hx)
   have hlen : ((ds.take k).map (·.nm)).length = k := by rw [List.length_map, List.length_take]; omega
   have hS := own_sv hR hlen.symm (by omega)
   have hcall := def_any ((ds.take k).map (·.nm)) d hsz _ _ O wr (fun j hj => Nat.lt_of_lt_of_le (HH.out.1 j hj) hbw.size) (hN.below hbw HH.out.1) hS (HH.out.2.2.2.2.1.below hbw)
   unfold dfc at hcall
   have HE := hid (And.intro hE (And.intro (dsE_step ds k d ea) (And.intro hb (And.intro hR (And.intro hbw (And.intro vb (And.intro k1 (And.intro hcl ea))))))))
   clear hE hb hR hbw vb k1 hcl hN hS ea
   generalize hy : dfE ((ds.take k).map (·.nm)) d = y at *
   clear hy
   go_wp2_with fail
   refine hcall.mono ?_
   rintro e w2 ⟨rfl, hb2⟩
   clear hcall y0 y1 g0 g1 g2 g3 g4 g5
   by_cases hz : y = 0
   ·subst hz
    have vb2 := (hb2.block _ (S.lt_of HE.out.2.2.2.2.2.1)).trans HE.out.2.2.2.2.2.1
    have y0 := S.cell_of w2 _ 0 _ 35 _ vb2 rfl
    have hbw2 : Below W.heap.size W w2 := HE.out.2.2.2.2.1.trans (hb2.mono HE.out.2.2.2.2.1.size)
    obtain ⟨g0, g1, g2, g3, g4, g5⟩ := cells6 fun j x hx => (World.cell?_of_block (w := W) (a := ⟨b, o + k * 6 + j, none⟩) (hbw2.block b (HH.out.1 b hOb))).trans (HE.out.2.2.2.2.2.2.2.1 j x hx)
    obtain ⟨y4, hy4⟩ : ∃ y4, w2.alloc (.cells #[.string d.nm] 9) = y4 := ⟨_, rfl⟩
    have k4 : Below w2.heap.size w2 y4 := by rw [<- hy4]; exact (Below.refl _ _).alloc (Nat.le_refl _) _
    have v4 : y4.heap[w2.heap.size]? = some (.cells [.string d.nm].toArray 9 (0, 0)) := by rw [<- hy4]; exact heap_alloc_new w2 _
    have hb4 : Below wr.heap.size wr y4 := hb2.trans (k4.mono hb2.size)
    have oR : y4.ownsRow W0.heap.size 9 1 (.slice p3 k c3) k (S.en sv1 ((ds.take k).map (·.nm))) := S.own_kept HE.out.2.2.2.1 fun g _ hg => hb4.block g hg
    have hcs : S.Cs y4 (.slice (some ⟨w2.heap.size, 0, none⟩) 1 1) 1 1 [.string d.nm] := .inr ⟨_, _, rfl, rfl, fun j u hj => by rw [Addr.add_lit, Nat.zero_add]; exact S.cell_of y4 _ j _ _ u v4 hj, by simp [Value.oneCell']⟩
    have hB4 : Below W0.heap.size W0 y4 := HE.out.2.2.1.trans (hb4.mono HE.out.2.2.1.size)
    have hsz4 : W0.heap.size <= y4.heap.size := hB4.size
    have HB4 := hid hB4
    have HY := hid hy4
    clear k4 v4 hb4 hB4 hy4 hb2 vb2 hbw2
    go_wp2_with (rw [HY.out]; refine S.wpList_append_row y4 rfl _ _ 64 9 _ 1 16 Tryz.underlying64 infoStr rfl (by decide) rfl W0.heap.size (.slice p3 k c3) k (S.en sv1 ((ds.take k).map (·.nm))) rfl oR _ 1 _ rfl hcs (by unfold S.room; omega) (by unfold maxLen; omega) hsz4 (fun v5 w5 hr1 hg1 => ?_); have HG := hid (And.intro hr1 hg1); clear hr1 hg1)
    have hB5 : Below W0.heap.size W0 w5 := HG.out.2.belowAll (own_ge oR) HB4.out (Nat.le_refl _)
    refine ⟨⟨k + 1, by omega, by rw [Int.natCast_add]; rfl, hB5, ?_, ?_⟩, by simp only [intOf]; omega⟩
    ·have e1 : (ds.take (k + 1)).map (·.nm) = (ds.take k).map (·.nm) ++ [d.nm] := by rw [List.take_add_one, HE.out.2.2.2.2.2.2.2.2]; simp
     rw [e1, S.en_append]
     exact HG.out.1
    ·rw [HE.out.1, HE.out.2.1]; simp
   ·have hne : (y != 0) = true := by simpa using hz
    have HZ := hid hz
    have HB2 := hid (HE.out.2.2.2.2.1.trans (hb2.mono HE.out.2.2.2.2.1.size))
    clear hb2
    go_wp2
    go_ret
    have e1 : dsE [] ds = y := by rw [HE.out.1, HE.out.2.1, if_neg HZ.out]
    exact ⟨(congrArg (fun z => Ending.returned (Value.int .i64 z)) (show R = y by rw [HC.out, e1, if_neg HZ.out])).symm, HB2.out⟩
  ·have i1 : ¬ (k : Int) < ds.length := by omega
   rw [List.drop_of_length_le (by omega), dsE] at hE
   have HE := hid (And.intro hE (And.intro hb (And.intro hbw vb)))
   clear hE hb hbw vb hR
   go_wp2
   clear y0 y1
   generalize wr = w1 at *
   go_loopw [6, 7] (fun la ix wq => ∃ (j : Nat) (z : Int), j <= bs.length /\ ix = .int .i64 (j : Int) /\ la = .int .i64 z /\ Below w1.heap.size w1 wq /\ bkE (-1) bs = bkE z (bs.drop j)) (fun _ ix _ => bs.length - (intOf ix).toNat)
   case atStart => exact ⟨0, -1, by omega, rfl, rfl, Below.refl _ _, rfl⟩
   case round =>
    obtain ⟨j, z, hj, rfl, rfl, hbq, hEb⟩ := hrel
    have hbw : Below W.heap.size W wr := HE.out.2.2.1.trans (hbq.mono HE.out.2.2.1.size)
    have vb := (hbq.block _ (S.lt_of HE.out.2.2.2)).trans HE.out.2.2.2
    have y0 := S.cell_of wr _ 0 _ 35 _ vb rfl
    have y1 := S.cell_of wr _ 1 _ 35 _ vb rfl
    by_cases hlt2 : j < bs.length
    ·have i2 : (j : Int) < bs.length := by omega
     have ea := List.getElem?_eq_getElem hlt2
     have hdr : bs.drop j = bs[j] :: bs.drop (j + 1) := List.drop_eq_getElem_cons hlt2
     generalize bs[j] = d at *
     obtain ⟨b, o, rfl, hOb, bv, ⟨hc0, hc1⟩, hN⟩ := HH.out.2.2.1 j d ea
     obtain ⟨q, cq, rfl⟩ := hN.ex
     have k1 := hbw.block b (HH.out.1 b hOb)
     have g0 := (World.cell?_of_block (w := W) (a := ⟨b, o + j * 2, none⟩) k1).trans hc0
     have g1 := (World.cell?_of_block (w := W) (a := ⟨b, o + j * 2 + 1, none⟩) k1).trans hc1
     obtain ⟨n, l⟩ := d
     simp only at g0 g1
     obtain ⟨W2, hW2⟩ : ∃ W2, wr.alloc (.cells #[.int .i64 n, .slice q l.length cq] 68) = W2 := ⟨_, rfl⟩
     have z2 : Below wr.heap.size wr W2 := by rw [<- hW2]; exact (Below.refl _ _).alloc (Nat.le_refl _) _
     have v2 : W2.heap[wr.heap.size]? = some (.cells [.int .i64 n, .slice q l.length cq].toArray 68 (0, 0)) := by rw [<- hW2]; exact heap_alloc_new wr _
     have x0 := S.cell_of W2 _ 0 _ 68 _ v2 rfl
     have x1 := S.cell_of W2 _ 1 _ 68 _ v2 rfl
     have HB2 := hid (hbw.trans (z2.mono hbw.size))
     have HBQ := hid (hbq.trans (z2.mono hbq.size))
     have HE2 : Y.Hd (bkE (-1) bs = if n < 0 \/ 16 <= n \/ 16384 < l.length then 106 else if n <= z then 102 else bkE n (bs.drop (j + 1))) := ⟨by rw [hEb, hdr, bkE_cons]⟩
     clear z2 v2 hbw hbq k1 hc0 hc1 hN hEb hdr ea vb
     by_cases t1 : n < 0
     ·have d1 : decide (n < 0) = true := decide_eq_true t1
      have HR : Y.Hd (bkE (-1) bs = 106) := ⟨by rw [HE2.out, if_pos (Or.inl t1)]⟩
      go_wp2
      go_ret
      exact ⟨(congrArg (fun z => Ending.returned (Value.int .i64 z)) (show R = 106 by rw [HC.out, HE.out.1, if_pos rfl, HR.out, if_neg (by decide)])).symm, HB2.out⟩
     ·have d1 : decide (n < 0) = false := decide_eq_false t1
      by_cases t2 : 16 <= n
      ·have d2 : decide (15 < n) = true := decide_eq_true (by omega)
       have d2' : decide (n > 15) = true := decide_eq_true (by omega)
       have d2p : 15 < n := by omega
       have HR : Y.Hd (bkE (-1) bs = 106) := ⟨by rw [HE2.out, if_pos (Or.inr (Or.inl t2))]⟩
       go_wp2
       go_ret
       exact ⟨(congrArg (fun z => Ending.returned (Value.int .i64 z)) (show R = 106 by rw [HC.out, HE.out.1, if_pos rfl, HR.out, if_neg (by decide)])).symm, HB2.out⟩
      ·have d2 : decide (15 < n) = false := decide_eq_false (by omega)
       have d2' : decide (n > 15) = false := decide_eq_false (by omega)
       have d2p : ¬ 15 < n := by omega
       by_cases t3 : 16384 < l.length
       ·have d3 : decide ((l.length : Int) > 16384) = true := decide_eq_true (by omega)
        have d3' : decide ((16384 : Int) < (l.length : Int)) = true := decide_eq_true (by omega)
        have d3p : (16384 : Int) < (l.length : Int) := by omega
        have HR : Y.Hd (bkE (-1) bs = 106) := ⟨by rw [HE2.out, if_pos (Or.inr (Or.inr t3))]⟩
        go_wp2
        go_ret
        exact ⟨(congrArg (fun z => Ending.returned (Value.int .i64 z)) (show R = 106 by rw [HC.out, HE.out.1, if_pos rfl, HR.out, if_neg (by decide)])).symm, HB2.out⟩
       ·have d3 : decide ((l.length : Int) > 16384) = false := decide_eq_false (by omega)
        have d3' : decide ((16384 : Int) < (l.length : Int)) = false := decide_eq_false (by omega)
        have d3p : ¬ (16384 : Int) < (l.length : Int) := by omega
        by_cases t4 : n <= z
        ·have d4 : decide (n <= z) = true := decide_eq_true t4
         have HR : Y.Hd (bkE (-1) bs = 102) := ⟨by rw [HE2.out, if_neg (by omega), if_pos t4]⟩
         go_wp2
         go_ret
         exact ⟨(congrArg (fun z => Ending.returned (Value.int .i64 z)) (show R = 102 by rw [HC.out, HE.out.1, if_pos rfl, HR.out, if_neg (by decide)])).symm, HB2.out⟩
        ·have d4 : decide (n <= z) = false := decide_eq_false t4
         have HR : Y.Hd (bkE (-1) bs = bkE n (bs.drop (j + 1))) := ⟨by rw [HE2.out, if_neg (by omega), if_neg t4]⟩
         go_wp2
         go_roundw
         case rel =>
          first
           | exact ⟨j + 1, n, by omega, by go_num, rfl, HBQ.out, HR.out⟩
           | ((repeat apply Exists.intro); refine ⟨⟨j + 1, n, by omega, ?_, rfl, HBQ.out, HR.out⟩, rfl⟩; go_num)
         case measure => simp [intOf]; omega
    ·have i2 : ¬ (j : Int) < bs.length := by omega
     rw [List.drop_of_length_le (by omega), bkE] at hEb
     have hm := hasMain_any ds _ O wr (fun j hj => Nat.lt_of_lt_of_le (HH.out.1 j hj) hbw.size) (HH.out.2.2.2.2.2.below hbw HH.out.1)
     have HEB := hid hEb
     have HBW := hid hbw
     clear hEb hbw hbq vb
     generalize hu : ds.any isMain = u at *
     have HU : Y.Hd (R = if u then 0 else 107) := ⟨by rw [HC.out, HE.out.1, HEB.out]; rfl⟩
     clear hu
     go_wp2_with fail
     refine hm.mono ?_
     rintro e w4 ⟨rfl, hb4⟩
     have HB4 := hid (HBW.out.trans (hb4.mono HBW.out.size))
     clear hm hb4 y0 y1
     cases u
     ·go_wp2
      go_ret
      exact ⟨(congrArg (fun z => Ending.returned (Value.int .i64 z)) (show R = 107 from HU.out.trans (by simp))).symm, HB4.out⟩
     ·go_wp2
      go_ret
      exact ⟨(congrArg (fun z => Ending.returned (Value.int .i64 z)) (show R = 0 from HU.out.trans (by simp))).symm, HB4.out⟩
end Go.Proofs.YtlilefhmohkfkaaGreatDoor.V
