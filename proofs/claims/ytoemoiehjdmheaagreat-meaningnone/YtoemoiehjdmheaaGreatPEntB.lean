import Derived.Test.YtoemoiehjdmheaaGreatPRow
namespace Go.Proofs.YtoemoiehjdmheaaGreat.P
open Go.RowKit
open Go.Proofs
set_option linter.unusedVariables false
set_option linter.unusedSimpArgs false
set_option maxHeartbeats 1000000
set_option maxRecDepth 100000
theorem of_17 (w : World) : Calls Tryz.prog 74 #[.int .i64 17] w fun e w' => e = .returned (entV 17 ⟨#[110, 105, 112]⟩ 2 1 1 false 0 0 0 (.func (.func 105) #[] #[])) /\ Below w.heap.size w w' := by
 obtain ⟨wA, hA, hb, hz⟩ := mk w
 go_enter Tryz.func74, Tryz.ntmps74
 go_wp2_with fail
 refine (row_any _ _ _ _ _ _).mono ?_
 rintro e w1 ⟨rfl, h1⟩
 have hm := Made.of hb hz h1
 unfold rowV
 go_wp2_with (refine wpList_store_row rfl 160 _ _ rfl w.heap.size _ rfl rfl 160 zE hm.blk (by exact sizeE) (by rfl) (by simp [Value.oneCell']) ?_)
 exact hm.done rfl rfl rfl
theorem ent_17 (w : World) : Calls Tryz.prog 58 #[.int .i64 17] w fun e w' => e = .returned (entV 17 ⟨#[110, 105, 112]⟩ 2 1 1 false 0 0 0 (.func (.func 105) #[] #[])) /\ Below w.heap.size w w' := by
 obtain ⟨wA, hA, hb, hz⟩ := mk w
 go_enter Tryz.func58, Tryz.ntmps58
 go_wp2_with fail
 refine (of_17 _).mono ?_
 rintro e w1 ⟨rfl, h1⟩
 have hm := Made.of hb hz h1
 unfold entV
 go_wp2_with (refine wpList_store_row rfl 160 _ _ rfl w.heap.size _ rfl rfl 160 zE hm.blk (by exact sizeE) (by rfl) (by simp [Value.oneCell']) ?_)
 exact hm.done rfl rfl rfl
theorem of_18 (w : World) : Calls Tryz.prog 74 #[.int .i64 18] w fun e w' => e = .returned (entV 18 ⟨#[116, 117, 99, 107]⟩ 2 3 1 false 0 0 0 (.func (.func 106) #[] #[])) /\ Below w.heap.size w w' := by
 obtain ⟨wA, hA, hb, hz⟩ := mk w
 go_enter Tryz.func74, Tryz.ntmps74
 go_wp2_with fail
 refine (row_any _ _ _ _ _ _).mono ?_
 rintro e w1 ⟨rfl, h1⟩
 have hm := Made.of hb hz h1
 unfold rowV
 go_wp2_with (refine wpList_store_row rfl 160 _ _ rfl w.heap.size _ rfl rfl 160 zE hm.blk (by exact sizeE) (by rfl) (by simp [Value.oneCell']) ?_)
 exact hm.done rfl rfl rfl
theorem ent_18 (w : World) : Calls Tryz.prog 58 #[.int .i64 18] w fun e w' => e = .returned (entV 18 ⟨#[116, 117, 99, 107]⟩ 2 3 1 false 0 0 0 (.func (.func 106) #[] #[])) /\ Below w.heap.size w w' := by
 obtain ⟨wA, hA, hb, hz⟩ := mk w
 go_enter Tryz.func58, Tryz.ntmps58
 go_wp2_with fail
 refine (of_18 _).mono ?_
 rintro e w1 ⟨rfl, h1⟩
 have hm := Made.of hb hz h1
 unfold entV
 go_wp2_with (refine wpList_store_row rfl 160 _ _ rfl w.heap.size _ rfl rfl 160 zE hm.blk (by exact sizeE) (by rfl) (by simp [Value.oneCell']) ?_)
 exact hm.done rfl rfl rfl
theorem of_19 (w : World) : Calls Tryz.prog 74 #[.int .i64 19] w fun e w' => e = .returned (entV 19 ⟨#[50, 100, 117, 112]⟩ 2 4 2 false 0 0 0 (.func (.func 107) #[] #[])) /\ Below w.heap.size w w' := by
 obtain ⟨wA, hA, hb, hz⟩ := mk w
 go_enter Tryz.func74, Tryz.ntmps74
 go_wp2_with fail
 refine (row_any _ _ _ _ _ _).mono ?_
 rintro e w1 ⟨rfl, h1⟩
 have hm := Made.of hb hz h1
 unfold rowV
 go_wp2_with (refine wpList_store_row rfl 160 _ _ rfl w.heap.size _ rfl rfl 160 zE hm.blk (by exact sizeE) (by rfl) (by simp [Value.oneCell']) ?_)
 exact hm.done rfl rfl rfl
theorem ent_19 (w : World) : Calls Tryz.prog 58 #[.int .i64 19] w fun e w' => e = .returned (entV 19 ⟨#[50, 100, 117, 112]⟩ 2 4 2 false 0 0 0 (.func (.func 107) #[] #[])) /\ Below w.heap.size w w' := by
 obtain ⟨wA, hA, hb, hz⟩ := mk w
 go_enter Tryz.func58, Tryz.ntmps58
 go_wp2_with fail
 refine (of_19 _).mono ?_
 rintro e w1 ⟨rfl, h1⟩
 have hm := Made.of hb hz h1
 unfold entV
 go_wp2_with (refine wpList_store_row rfl 160 _ _ rfl w.heap.size _ rfl rfl 160 zE hm.blk (by exact sizeE) (by rfl) (by simp [Value.oneCell']) ?_)
 exact hm.done rfl rfl rfl
theorem of_20 (w : World) : Calls Tryz.prog 74 #[.int .i64 20] w fun e w' => e = .returned (entV 20 ⟨#[50, 100, 114, 111, 112]⟩ 2 0 1 false 0 0 0 (.func (.func 108) #[] #[])) /\ Below w.heap.size w w' := by
 obtain ⟨wA, hA, hb, hz⟩ := mk w
 go_enter Tryz.func74, Tryz.ntmps74
 go_wp2_with fail
 refine (row_any _ _ _ _ _ _).mono ?_
 rintro e w1 ⟨rfl, h1⟩
 have hm := Made.of hb hz h1
 unfold rowV
 go_wp2_with (refine wpList_store_row rfl 160 _ _ rfl w.heap.size _ rfl rfl 160 zE hm.blk (by exact sizeE) (by rfl) (by simp [Value.oneCell']) ?_)
 exact hm.done rfl rfl rfl
theorem ent_20 (w : World) : Calls Tryz.prog 58 #[.int .i64 20] w fun e w' => e = .returned (entV 20 ⟨#[50, 100, 114, 111, 112]⟩ 2 0 1 false 0 0 0 (.func (.func 108) #[] #[])) /\ Below w.heap.size w w' := by
 obtain ⟨wA, hA, hb, hz⟩ := mk w
 go_enter Tryz.func58, Tryz.ntmps58
 go_wp2_with fail
 refine (of_20 _).mono ?_
 rintro e w1 ⟨rfl, h1⟩
 have hm := Made.of hb hz h1
 unfold entV
 go_wp2_with (refine wpList_store_row rfl 160 _ _ rfl w.heap.size _ rfl rfl 160 zE hm.blk (by exact sizeE) (by rfl) (by simp [Value.oneCell']) ?_)
 exact hm.done rfl rfl rfl
theorem of_21 (w : World) : Calls Tryz.prog 75 #[.int .i64 21] w fun e w' => e = .returned (entV 21 ⟨#[43]⟩ 2 1 1 false 0 0 0 (.func (.func 137) #[] #[])) /\ Below w.heap.size w w' := by
 obtain ⟨wA, hA, hb, hz⟩ := mk w
 go_enter Tryz.func75, Tryz.ntmps75
 go_wp2_with fail
 refine (binary_any _ _ _ _).mono ?_
 rintro e w1 ⟨rfl, h1⟩
 have hm := Made.of hb hz h1
 unfold entV
 go_wp2_with (refine wpList_store_row rfl 160 _ _ rfl w.heap.size _ rfl rfl 160 zE hm.blk (by exact sizeE) (by rfl) (by simp [Value.oneCell']) ?_)
 exact hm.done rfl rfl rfl
theorem ent_21 (w : World) : Calls Tryz.prog 58 #[.int .i64 21] w fun e w' => e = .returned (entV 21 ⟨#[43]⟩ 2 1 1 false 0 0 0 (.func (.func 137) #[] #[])) /\ Below w.heap.size w w' := by
 obtain ⟨wA, hA, hb, hz⟩ := mk w
 go_enter Tryz.func58, Tryz.ntmps58
 go_wp2_with fail
 refine (of_21 _).mono ?_
 rintro e w1 ⟨rfl, h1⟩
 have hm := Made.of hb hz h1
 unfold entV
 go_wp2_with (refine wpList_store_row rfl 160 _ _ rfl w.heap.size _ rfl rfl 160 zE hm.blk (by exact sizeE) (by rfl) (by simp [Value.oneCell']) ?_)
 exact hm.done rfl rfl rfl
theorem of_22 (w : World) : Calls Tryz.prog 75 #[.int .i64 22] w fun e w' => e = .returned (entV 22 ⟨#[45]⟩ 2 1 1 false 0 0 0 (.func (.func 137) #[] #[])) /\ Below w.heap.size w w' := by
 obtain ⟨wA, hA, hb, hz⟩ := mk w
 go_enter Tryz.func75, Tryz.ntmps75
 go_wp2_with fail
 refine (binary_any _ _ _ _).mono ?_
 rintro e w1 ⟨rfl, h1⟩
 have hm := Made.of hb hz h1
 unfold entV
 go_wp2_with (refine wpList_store_row rfl 160 _ _ rfl w.heap.size _ rfl rfl 160 zE hm.blk (by exact sizeE) (by rfl) (by simp [Value.oneCell']) ?_)
 exact hm.done rfl rfl rfl
theorem ent_22 (w : World) : Calls Tryz.prog 58 #[.int .i64 22] w fun e w' => e = .returned (entV 22 ⟨#[45]⟩ 2 1 1 false 0 0 0 (.func (.func 137) #[] #[])) /\ Below w.heap.size w w' := by
 obtain ⟨wA, hA, hb, hz⟩ := mk w
 go_enter Tryz.func58, Tryz.ntmps58
 go_wp2_with fail
 refine (of_22 _).mono ?_
 rintro e w1 ⟨rfl, h1⟩
 have hm := Made.of hb hz h1
 unfold entV
 go_wp2_with (refine wpList_store_row rfl 160 _ _ rfl w.heap.size _ rfl rfl 160 zE hm.blk (by exact sizeE) (by rfl) (by simp [Value.oneCell']) ?_)
 exact hm.done rfl rfl rfl
theorem of_23 (w : World) : Calls Tryz.prog 75 #[.int .i64 23] w fun e w' => e = .returned (entV 23 ⟨#[42]⟩ 2 1 3 false 0 0 0 (.func (.func 137) #[] #[])) /\ Below w.heap.size w w' := by
 obtain ⟨wA, hA, hb, hz⟩ := mk w
 go_enter Tryz.func75, Tryz.ntmps75
 go_wp2_with fail
 refine (binary_any _ _ _ _).mono ?_
 rintro e w1 ⟨rfl, h1⟩
 have hm := Made.of hb hz h1
 unfold entV
 go_wp2_with (refine wpList_store_row rfl 160 _ _ rfl w.heap.size _ rfl rfl 160 zE hm.blk (by exact sizeE) (by rfl) (by simp [Value.oneCell']) ?_)
 exact hm.done rfl rfl rfl
theorem ent_23 (w : World) : Calls Tryz.prog 58 #[.int .i64 23] w fun e w' => e = .returned (entV 23 ⟨#[42]⟩ 2 1 3 false 0 0 0 (.func (.func 137) #[] #[])) /\ Below w.heap.size w w' := by
 obtain ⟨wA, hA, hb, hz⟩ := mk w
 go_enter Tryz.func58, Tryz.ntmps58
 go_wp2_with fail
 refine (of_23 _).mono ?_
 rintro e w1 ⟨rfl, h1⟩
 have hm := Made.of hb hz h1
 unfold entV
 go_wp2_with (refine wpList_store_row rfl 160 _ _ rfl w.heap.size _ rfl rfl 160 zE hm.blk (by exact sizeE) (by rfl) (by simp [Value.oneCell']) ?_)
 exact hm.done rfl rfl rfl
theorem of_24 (w : World) : Calls Tryz.prog 75 #[.int .i64 24] w fun e w' => e = .returned (entV 24 ⟨#[47]⟩ 2 1 4 false 0 0 0 (.func (.func 137) #[] #[])) /\ Below w.heap.size w w' := by
 obtain ⟨wA, hA, hb, hz⟩ := mk w
 go_enter Tryz.func75, Tryz.ntmps75
 go_wp2_with fail
 refine (binary_any _ _ _ _).mono ?_
 rintro e w1 ⟨rfl, h1⟩
 have hm := Made.of hb hz h1
 unfold entV
 go_wp2_with (refine wpList_store_row rfl 160 _ _ rfl w.heap.size _ rfl rfl 160 zE hm.blk (by exact sizeE) (by rfl) (by simp [Value.oneCell']) ?_)
 exact hm.done rfl rfl rfl
theorem ent_24 (w : World) : Calls Tryz.prog 58 #[.int .i64 24] w fun e w' => e = .returned (entV 24 ⟨#[47]⟩ 2 1 4 false 0 0 0 (.func (.func 137) #[] #[])) /\ Below w.heap.size w w' := by
 obtain ⟨wA, hA, hb, hz⟩ := mk w
 go_enter Tryz.func58, Tryz.ntmps58
 go_wp2_with fail
 refine (of_24 _).mono ?_
 rintro e w1 ⟨rfl, h1⟩
 have hm := Made.of hb hz h1
 unfold entV
 go_wp2_with (refine wpList_store_row rfl 160 _ _ rfl w.heap.size _ rfl rfl 160 zE hm.blk (by exact sizeE) (by rfl) (by simp [Value.oneCell']) ?_)
 exact hm.done rfl rfl rfl
theorem of_25 (w : World) : Calls Tryz.prog 75 #[.int .i64 25] w fun e w' => e = .returned (entV 25 ⟨#[109, 111, 100]⟩ 2 1 4 false 0 0 0 (.func (.func 137) #[] #[])) /\ Below w.heap.size w w' := by
 obtain ⟨wA, hA, hb, hz⟩ := mk w
 go_enter Tryz.func75, Tryz.ntmps75
 go_wp2_with fail
 refine (binary_any _ _ _ _).mono ?_
 rintro e w1 ⟨rfl, h1⟩
 have hm := Made.of hb hz h1
 unfold entV
 go_wp2_with (refine wpList_store_row rfl 160 _ _ rfl w.heap.size _ rfl rfl 160 zE hm.blk (by exact sizeE) (by rfl) (by simp [Value.oneCell']) ?_)
 exact hm.done rfl rfl rfl
theorem ent_25 (w : World) : Calls Tryz.prog 58 #[.int .i64 25] w fun e w' => e = .returned (entV 25 ⟨#[109, 111, 100]⟩ 2 1 4 false 0 0 0 (.func (.func 137) #[] #[])) /\ Below w.heap.size w w' := by
 obtain ⟨wA, hA, hb, hz⟩ := mk w
 go_enter Tryz.func58, Tryz.ntmps58
 go_wp2_with fail
 refine (of_25 _).mono ?_
 rintro e w1 ⟨rfl, h1⟩
 have hm := Made.of hb hz h1
 unfold entV
 go_wp2_with (refine wpList_store_row rfl 160 _ _ rfl w.heap.size _ rfl rfl 160 zE hm.blk (by exact sizeE) (by rfl) (by simp [Value.oneCell']) ?_)
 exact hm.done rfl rfl rfl
theorem of_26 (w : World) : Calls Tryz.prog 75 #[.int .i64 26] w fun e w' => e = .returned (entV 26 ⟨#[117, 47]⟩ 2 1 4 false 0 0 0 (.func (.func 137) #[] #[])) /\ Below w.heap.size w w' := by
 obtain ⟨wA, hA, hb, hz⟩ := mk w
 go_enter Tryz.func75, Tryz.ntmps75
 go_wp2_with fail
 refine (binary_any _ _ _ _).mono ?_
 rintro e w1 ⟨rfl, h1⟩
 have hm := Made.of hb hz h1
 unfold entV
 go_wp2_with (refine wpList_store_row rfl 160 _ _ rfl w.heap.size _ rfl rfl 160 zE hm.blk (by exact sizeE) (by rfl) (by simp [Value.oneCell']) ?_)
 exact hm.done rfl rfl rfl
theorem ent_26 (w : World) : Calls Tryz.prog 58 #[.int .i64 26] w fun e w' => e = .returned (entV 26 ⟨#[117, 47]⟩ 2 1 4 false 0 0 0 (.func (.func 137) #[] #[])) /\ Below w.heap.size w w' := by
 obtain ⟨wA, hA, hb, hz⟩ := mk w
 go_enter Tryz.func58, Tryz.ntmps58
 go_wp2_with fail
 refine (of_26 _).mono ?_
 rintro e w1 ⟨rfl, h1⟩
 have hm := Made.of hb hz h1
 unfold entV
 go_wp2_with (refine wpList_store_row rfl 160 _ _ rfl w.heap.size _ rfl rfl 160 zE hm.blk (by exact sizeE) (by rfl) (by simp [Value.oneCell']) ?_)
 exact hm.done rfl rfl rfl
theorem of_27 (w : World) : Calls Tryz.prog 75 #[.int .i64 27] w fun e w' => e = .returned (entV 27 ⟨#[117, 109, 111, 100]⟩ 2 1 4 false 0 0 0 (.func (.func 137) #[] #[])) /\ Below w.heap.size w w' := by
 obtain ⟨wA, hA, hb, hz⟩ := mk w
 go_enter Tryz.func75, Tryz.ntmps75
 go_wp2_with fail
 refine (binary_any _ _ _ _).mono ?_
 rintro e w1 ⟨rfl, h1⟩
 have hm := Made.of hb hz h1
 unfold entV
 go_wp2_with (refine wpList_store_row rfl 160 _ _ rfl w.heap.size _ rfl rfl 160 zE hm.blk (by exact sizeE) (by rfl) (by simp [Value.oneCell']) ?_)
 exact hm.done rfl rfl rfl
theorem ent_27 (w : World) : Calls Tryz.prog 58 #[.int .i64 27] w fun e w' => e = .returned (entV 27 ⟨#[117, 109, 111, 100]⟩ 2 1 4 false 0 0 0 (.func (.func 137) #[] #[])) /\ Below w.heap.size w w' := by
 obtain ⟨wA, hA, hb, hz⟩ := mk w
 go_enter Tryz.func58, Tryz.ntmps58
 go_wp2_with fail
 refine (of_27 _).mono ?_
 rintro e w1 ⟨rfl, h1⟩
 have hm := Made.of hb hz h1
 unfold entV
 go_wp2_with (refine wpList_store_row rfl 160 _ _ rfl w.heap.size _ rfl rfl 160 zE hm.blk (by exact sizeE) (by rfl) (by simp [Value.oneCell']) ?_)
 exact hm.done rfl rfl rfl
theorem of_28 (w : World) : Calls Tryz.prog 75 #[.int .i64 28] w fun e w' => e = .returned (entV 28 ⟨#[110, 101, 103, 97, 116, 101]⟩ 1 1 1 false 0 0 0 (.func (.func 139) #[] #[])) /\ Below w.heap.size w w' := by
 obtain ⟨wA, hA, hb, hz⟩ := mk w
 go_enter Tryz.func75, Tryz.ntmps75
 go_wp2_with fail
 refine (unary_any _ _ _).mono ?_
 rintro e w1 ⟨rfl, h1⟩
 have hm := Made.of hb hz h1
 unfold entV
 go_wp2_with (refine wpList_store_row rfl 160 _ _ rfl w.heap.size _ rfl rfl 160 zE hm.blk (by exact sizeE) (by rfl) (by simp [Value.oneCell']) ?_)
 exact hm.done rfl rfl rfl
theorem ent_28 (w : World) : Calls Tryz.prog 58 #[.int .i64 28] w fun e w' => e = .returned (entV 28 ⟨#[110, 101, 103, 97, 116, 101]⟩ 1 1 1 false 0 0 0 (.func (.func 139) #[] #[])) /\ Below w.heap.size w w' := by
 obtain ⟨wA, hA, hb, hz⟩ := mk w
 go_enter Tryz.func58, Tryz.ntmps58
 go_wp2_with fail
 refine (of_28 _).mono ?_
 rintro e w1 ⟨rfl, h1⟩
 have hm := Made.of hb hz h1
 unfold entV
 go_wp2_with (refine wpList_store_row rfl 160 _ _ rfl w.heap.size _ rfl rfl 160 zE hm.blk (by exact sizeE) (by rfl) (by simp [Value.oneCell']) ?_)
 exact hm.done rfl rfl rfl
theorem of_29 (w : World) : Calls Tryz.prog 75 #[.int .i64 29] w fun e w' => e = .returned (entV 29 ⟨#[97, 98, 115]⟩ 1 1 1 false 0 0 0 (.func (.func 139) #[] #[])) /\ Below w.heap.size w w' := by
 obtain ⟨wA, hA, hb, hz⟩ := mk w
 go_enter Tryz.func75, Tryz.ntmps75
 go_wp2_with fail
 refine (unary_any _ _ _).mono ?_
 rintro e w1 ⟨rfl, h1⟩
 have hm := Made.of hb hz h1
 unfold entV
 go_wp2_with (refine wpList_store_row rfl 160 _ _ rfl w.heap.size _ rfl rfl 160 zE hm.blk (by exact sizeE) (by rfl) (by simp [Value.oneCell']) ?_)
 exact hm.done rfl rfl rfl
theorem ent_29 (w : World) : Calls Tryz.prog 58 #[.int .i64 29] w fun e w' => e = .returned (entV 29 ⟨#[97, 98, 115]⟩ 1 1 1 false 0 0 0 (.func (.func 139) #[] #[])) /\ Below w.heap.size w w' := by
 obtain ⟨wA, hA, hb, hz⟩ := mk w
 go_enter Tryz.func58, Tryz.ntmps58
 go_wp2_with fail
 refine (of_29 _).mono ?_
 rintro e w1 ⟨rfl, h1⟩
 have hm := Made.of hb hz h1
 unfold entV
 go_wp2_with (refine wpList_store_row rfl 160 _ _ rfl w.heap.size _ rfl rfl 160 zE hm.blk (by exact sizeE) (by rfl) (by simp [Value.oneCell']) ?_)
 exact hm.done rfl rfl rfl
theorem of_30 (w : World) : Calls Tryz.prog 75 #[.int .i64 30] w fun e w' => e = .returned (entV 30 ⟨#[109, 105, 110]⟩ 2 1 1 false 0 0 0 (.func (.func 137) #[] #[])) /\ Below w.heap.size w w' := by
 obtain ⟨wA, hA, hb, hz⟩ := mk w
 go_enter Tryz.func75, Tryz.ntmps75
 go_wp2_with fail
 refine (binary_any _ _ _ _).mono ?_
 rintro e w1 ⟨rfl, h1⟩
 have hm := Made.of hb hz h1
 unfold entV
 go_wp2_with (refine wpList_store_row rfl 160 _ _ rfl w.heap.size _ rfl rfl 160 zE hm.blk (by exact sizeE) (by rfl) (by simp [Value.oneCell']) ?_)
 exact hm.done rfl rfl rfl
theorem ent_30 (w : World) : Calls Tryz.prog 58 #[.int .i64 30] w fun e w' => e = .returned (entV 30 ⟨#[109, 105, 110]⟩ 2 1 1 false 0 0 0 (.func (.func 137) #[] #[])) /\ Below w.heap.size w w' := by
 obtain ⟨wA, hA, hb, hz⟩ := mk w
 go_enter Tryz.func58, Tryz.ntmps58
 go_wp2_with fail
 refine (of_30 _).mono ?_
 rintro e w1 ⟨rfl, h1⟩
 have hm := Made.of hb hz h1
 unfold entV
 go_wp2_with (refine wpList_store_row rfl 160 _ _ rfl w.heap.size _ rfl rfl 160 zE hm.blk (by exact sizeE) (by rfl) (by simp [Value.oneCell']) ?_)
 exact hm.done rfl rfl rfl
theorem of_31 (w : World) : Calls Tryz.prog 75 #[.int .i64 31] w fun e w' => e = .returned (entV 31 ⟨#[109, 97, 120]⟩ 2 1 1 false 0 0 0 (.func (.func 137) #[] #[])) /\ Below w.heap.size w w' := by
 obtain ⟨wA, hA, hb, hz⟩ := mk w
 go_enter Tryz.func75, Tryz.ntmps75
 go_wp2_with fail
 refine (binary_any _ _ _ _).mono ?_
 rintro e w1 ⟨rfl, h1⟩
 have hm := Made.of hb hz h1
 unfold entV
 go_wp2_with (refine wpList_store_row rfl 160 _ _ rfl w.heap.size _ rfl rfl 160 zE hm.blk (by exact sizeE) (by rfl) (by simp [Value.oneCell']) ?_)
 exact hm.done rfl rfl rfl
theorem ent_31 (w : World) : Calls Tryz.prog 58 #[.int .i64 31] w fun e w' => e = .returned (entV 31 ⟨#[109, 97, 120]⟩ 2 1 1 false 0 0 0 (.func (.func 137) #[] #[])) /\ Below w.heap.size w w' := by
 obtain ⟨wA, hA, hb, hz⟩ := mk w
 go_enter Tryz.func58, Tryz.ntmps58
 go_wp2_with fail
 refine (of_31 _).mono ?_
 rintro e w1 ⟨rfl, h1⟩
 have hm := Made.of hb hz h1
 unfold entV
 go_wp2_with (refine wpList_store_row rfl 160 _ _ rfl w.heap.size _ rfl rfl 160 zE hm.blk (by exact sizeE) (by rfl) (by simp [Value.oneCell']) ?_)
 exact hm.done rfl rfl rfl
theorem of_32 (w : World) : Calls Tryz.prog 75 #[.int .i64 32] w fun e w' => e = .returned (entV 32 ⟨#[49, 43]⟩ 1 1 1 false 0 0 0 (.func (.func 139) #[] #[])) /\ Below w.heap.size w w' := by
 obtain ⟨wA, hA, hb, hz⟩ := mk w
 go_enter Tryz.func75, Tryz.ntmps75
 go_wp2_with fail
 refine (unary_any _ _ _).mono ?_
 rintro e w1 ⟨rfl, h1⟩
 have hm := Made.of hb hz h1
 unfold entV
 go_wp2_with (refine wpList_store_row rfl 160 _ _ rfl w.heap.size _ rfl rfl 160 zE hm.blk (by exact sizeE) (by rfl) (by simp [Value.oneCell']) ?_)
 exact hm.done rfl rfl rfl
theorem ent_32 (w : World) : Calls Tryz.prog 58 #[.int .i64 32] w fun e w' => e = .returned (entV 32 ⟨#[49, 43]⟩ 1 1 1 false 0 0 0 (.func (.func 139) #[] #[])) /\ Below w.heap.size w w' := by
 obtain ⟨wA, hA, hb, hz⟩ := mk w
 go_enter Tryz.func58, Tryz.ntmps58
 go_wp2_with fail
 refine (of_32 _).mono ?_
 rintro e w1 ⟨rfl, h1⟩
 have hm := Made.of hb hz h1
 unfold entV
 go_wp2_with (refine wpList_store_row rfl 160 _ _ rfl w.heap.size _ rfl rfl 160 zE hm.blk (by exact sizeE) (by rfl) (by simp [Value.oneCell']) ?_)
 exact hm.done rfl rfl rfl
end Go.Proofs.YtoemoiehjdmheaaGreat.P
