import Derived.Test.YtoemoiehjdmheaaGreatPRow
namespace Go.Proofs.YtoemoiehjdmheaaGreat.P
open Go.RowKit
open Go.Proofs
set_option linter.unusedVariables false
set_option linter.unusedSimpArgs false
set_option maxHeartbeats 1000000
set_option maxRecDepth 100000
theorem of_33 (w : World) : Calls Tryz.prog 75 #[.int .i64 33] w fun e w' => e = .returned (entV 33 ⟨#[49, 45]⟩ 1 1 1 false 0 0 0 (.func (.func 139) #[] #[])) /\ Below w.heap.size w w' := by
 obtain ⟨wA, hA, hb, hz⟩ := mk w
 go_enter Tryz.func75, Tryz.ntmps75
 go_wp2_with fail
 refine (unary_any _ _ _).mono ?_
 rintro e w1 ⟨rfl, h1⟩
 have hm := Made.of hb hz h1
 unfold entV
 go_wp2_with (refine wpList_store_row rfl 160 _ _ rfl w.heap.size _ rfl rfl 160 zE hm.blk (by exact sizeE) (by rfl) (by simp [Value.oneCell']) ?_)
 exact hm.done rfl rfl rfl
theorem ent_33 (w : World) : Calls Tryz.prog 58 #[.int .i64 33] w fun e w' => e = .returned (entV 33 ⟨#[49, 45]⟩ 1 1 1 false 0 0 0 (.func (.func 139) #[] #[])) /\ Below w.heap.size w w' := by
 obtain ⟨wA, hA, hb, hz⟩ := mk w
 go_enter Tryz.func58, Tryz.ntmps58
 go_wp2_with fail
 refine (of_33 _).mono ?_
 rintro e w1 ⟨rfl, h1⟩
 have hm := Made.of hb hz h1
 unfold entV
 go_wp2_with (refine wpList_store_row rfl 160 _ _ rfl w.heap.size _ rfl rfl 160 zE hm.blk (by exact sizeE) (by rfl) (by simp [Value.oneCell']) ?_)
 exact hm.done rfl rfl rfl
theorem of_34 (w : World) : Calls Tryz.prog 75 #[.int .i64 34] w fun e w' => e = .returned (entV 34 ⟨#[50, 42]⟩ 1 1 1 false 0 0 0 (.func (.func 139) #[] #[])) /\ Below w.heap.size w w' := by
 obtain ⟨wA, hA, hb, hz⟩ := mk w
 go_enter Tryz.func75, Tryz.ntmps75
 go_wp2_with fail
 refine (unary_any _ _ _).mono ?_
 rintro e w1 ⟨rfl, h1⟩
 have hm := Made.of hb hz h1
 unfold entV
 go_wp2_with (refine wpList_store_row rfl 160 _ _ rfl w.heap.size _ rfl rfl 160 zE hm.blk (by exact sizeE) (by rfl) (by simp [Value.oneCell']) ?_)
 exact hm.done rfl rfl rfl
theorem ent_34 (w : World) : Calls Tryz.prog 58 #[.int .i64 34] w fun e w' => e = .returned (entV 34 ⟨#[50, 42]⟩ 1 1 1 false 0 0 0 (.func (.func 139) #[] #[])) /\ Below w.heap.size w w' := by
 obtain ⟨wA, hA, hb, hz⟩ := mk w
 go_enter Tryz.func58, Tryz.ntmps58
 go_wp2_with fail
 refine (of_34 _).mono ?_
 rintro e w1 ⟨rfl, h1⟩
 have hm := Made.of hb hz h1
 unfold entV
 go_wp2_with (refine wpList_store_row rfl 160 _ _ rfl w.heap.size _ rfl rfl 160 zE hm.blk (by exact sizeE) (by rfl) (by simp [Value.oneCell']) ?_)
 exact hm.done rfl rfl rfl
theorem of_35 (w : World) : Calls Tryz.prog 75 #[.int .i64 35] w fun e w' => e = .returned (entV 35 ⟨#[50, 47]⟩ 1 1 1 false 0 0 0 (.func (.func 139) #[] #[])) /\ Below w.heap.size w w' := by
 obtain ⟨wA, hA, hb, hz⟩ := mk w
 go_enter Tryz.func75, Tryz.ntmps75
 go_wp2_with fail
 refine (unary_any _ _ _).mono ?_
 rintro e w1 ⟨rfl, h1⟩
 have hm := Made.of hb hz h1
 unfold entV
 go_wp2_with (refine wpList_store_row rfl 160 _ _ rfl w.heap.size _ rfl rfl 160 zE hm.blk (by exact sizeE) (by rfl) (by simp [Value.oneCell']) ?_)
 exact hm.done rfl rfl rfl
theorem ent_35 (w : World) : Calls Tryz.prog 58 #[.int .i64 35] w fun e w' => e = .returned (entV 35 ⟨#[50, 47]⟩ 1 1 1 false 0 0 0 (.func (.func 139) #[] #[])) /\ Below w.heap.size w w' := by
 obtain ⟨wA, hA, hb, hz⟩ := mk w
 go_enter Tryz.func58, Tryz.ntmps58
 go_wp2_with fail
 refine (of_35 _).mono ?_
 rintro e w1 ⟨rfl, h1⟩
 have hm := Made.of hb hz h1
 unfold entV
 go_wp2_with (refine wpList_store_row rfl 160 _ _ rfl w.heap.size _ rfl rfl 160 zE hm.blk (by exact sizeE) (by rfl) (by simp [Value.oneCell']) ?_)
 exact hm.done rfl rfl rfl
theorem of_36 (w : World) : Calls Tryz.prog 76 #[.int .i64 36] w fun e w' => e = .returned (entV 36 ⟨#[97, 110, 100]⟩ 2 1 1 false 0 0 0 (.func (.func 137) #[] #[])) /\ Below w.heap.size w w' := by
 obtain ⟨wA, hA, hb, hz⟩ := mk w
 go_enter Tryz.func76, Tryz.ntmps76
 go_wp2_with fail
 refine (binary_any _ _ _ _).mono ?_
 rintro e w1 ⟨rfl, h1⟩
 have hm := Made.of hb hz h1
 unfold entV
 go_wp2_with (refine wpList_store_row rfl 160 _ _ rfl w.heap.size _ rfl rfl 160 zE hm.blk (by exact sizeE) (by rfl) (by simp [Value.oneCell']) ?_)
 exact hm.done rfl rfl rfl
theorem ent_36 (w : World) : Calls Tryz.prog 58 #[.int .i64 36] w fun e w' => e = .returned (entV 36 ⟨#[97, 110, 100]⟩ 2 1 1 false 0 0 0 (.func (.func 137) #[] #[])) /\ Below w.heap.size w w' := by
 obtain ⟨wA, hA, hb, hz⟩ := mk w
 go_enter Tryz.func58, Tryz.ntmps58
 go_wp2_with fail
 refine (of_36 _).mono ?_
 rintro e w1 ⟨rfl, h1⟩
 have hm := Made.of hb hz h1
 unfold entV
 go_wp2_with (refine wpList_store_row rfl 160 _ _ rfl w.heap.size _ rfl rfl 160 zE hm.blk (by exact sizeE) (by rfl) (by simp [Value.oneCell']) ?_)
 exact hm.done rfl rfl rfl
theorem of_37 (w : World) : Calls Tryz.prog 76 #[.int .i64 37] w fun e w' => e = .returned (entV 37 ⟨#[111, 114]⟩ 2 1 1 false 0 0 0 (.func (.func 137) #[] #[])) /\ Below w.heap.size w w' := by
 obtain ⟨wA, hA, hb, hz⟩ := mk w
 go_enter Tryz.func76, Tryz.ntmps76
 go_wp2_with fail
 refine (binary_any _ _ _ _).mono ?_
 rintro e w1 ⟨rfl, h1⟩
 have hm := Made.of hb hz h1
 unfold entV
 go_wp2_with (refine wpList_store_row rfl 160 _ _ rfl w.heap.size _ rfl rfl 160 zE hm.blk (by exact sizeE) (by rfl) (by simp [Value.oneCell']) ?_)
 exact hm.done rfl rfl rfl
theorem ent_37 (w : World) : Calls Tryz.prog 58 #[.int .i64 37] w fun e w' => e = .returned (entV 37 ⟨#[111, 114]⟩ 2 1 1 false 0 0 0 (.func (.func 137) #[] #[])) /\ Below w.heap.size w w' := by
 obtain ⟨wA, hA, hb, hz⟩ := mk w
 go_enter Tryz.func58, Tryz.ntmps58
 go_wp2_with fail
 refine (of_37 _).mono ?_
 rintro e w1 ⟨rfl, h1⟩
 have hm := Made.of hb hz h1
 unfold entV
 go_wp2_with (refine wpList_store_row rfl 160 _ _ rfl w.heap.size _ rfl rfl 160 zE hm.blk (by exact sizeE) (by rfl) (by simp [Value.oneCell']) ?_)
 exact hm.done rfl rfl rfl
theorem of_38 (w : World) : Calls Tryz.prog 76 #[.int .i64 38] w fun e w' => e = .returned (entV 38 ⟨#[120, 111, 114]⟩ 2 1 1 false 0 0 0 (.func (.func 137) #[] #[])) /\ Below w.heap.size w w' := by
 obtain ⟨wA, hA, hb, hz⟩ := mk w
 go_enter Tryz.func76, Tryz.ntmps76
 go_wp2_with fail
 refine (binary_any _ _ _ _).mono ?_
 rintro e w1 ⟨rfl, h1⟩
 have hm := Made.of hb hz h1
 unfold entV
 go_wp2_with (refine wpList_store_row rfl 160 _ _ rfl w.heap.size _ rfl rfl 160 zE hm.blk (by exact sizeE) (by rfl) (by simp [Value.oneCell']) ?_)
 exact hm.done rfl rfl rfl
theorem ent_38 (w : World) : Calls Tryz.prog 58 #[.int .i64 38] w fun e w' => e = .returned (entV 38 ⟨#[120, 111, 114]⟩ 2 1 1 false 0 0 0 (.func (.func 137) #[] #[])) /\ Below w.heap.size w w' := by
 obtain ⟨wA, hA, hb, hz⟩ := mk w
 go_enter Tryz.func58, Tryz.ntmps58
 go_wp2_with fail
 refine (of_38 _).mono ?_
 rintro e w1 ⟨rfl, h1⟩
 have hm := Made.of hb hz h1
 unfold entV
 go_wp2_with (refine wpList_store_row rfl 160 _ _ rfl w.heap.size _ rfl rfl 160 zE hm.blk (by exact sizeE) (by rfl) (by simp [Value.oneCell']) ?_)
 exact hm.done rfl rfl rfl
theorem of_39 (w : World) : Calls Tryz.prog 76 #[.int .i64 39] w fun e w' => e = .returned (entV 39 ⟨#[105, 110, 118, 101, 114, 116]⟩ 1 1 1 false 0 0 0 (.func (.func 139) #[] #[])) /\ Below w.heap.size w w' := by
 obtain ⟨wA, hA, hb, hz⟩ := mk w
 go_enter Tryz.func76, Tryz.ntmps76
 go_wp2_with fail
 refine (unary_any _ _ _).mono ?_
 rintro e w1 ⟨rfl, h1⟩
 have hm := Made.of hb hz h1
 unfold entV
 go_wp2_with (refine wpList_store_row rfl 160 _ _ rfl w.heap.size _ rfl rfl 160 zE hm.blk (by exact sizeE) (by rfl) (by simp [Value.oneCell']) ?_)
 exact hm.done rfl rfl rfl
theorem ent_39 (w : World) : Calls Tryz.prog 58 #[.int .i64 39] w fun e w' => e = .returned (entV 39 ⟨#[105, 110, 118, 101, 114, 116]⟩ 1 1 1 false 0 0 0 (.func (.func 139) #[] #[])) /\ Below w.heap.size w w' := by
 obtain ⟨wA, hA, hb, hz⟩ := mk w
 go_enter Tryz.func58, Tryz.ntmps58
 go_wp2_with fail
 refine (of_39 _).mono ?_
 rintro e w1 ⟨rfl, h1⟩
 have hm := Made.of hb hz h1
 unfold entV
 go_wp2_with (refine wpList_store_row rfl 160 _ _ rfl w.heap.size _ rfl rfl 160 zE hm.blk (by exact sizeE) (by rfl) (by simp [Value.oneCell']) ?_)
 exact hm.done rfl rfl rfl
theorem of_40 (w : World) : Calls Tryz.prog 76 #[.int .i64 40] w fun e w' => e = .returned (entV 40 ⟨#[108, 115, 104, 105, 102, 116]⟩ 2 1 1 false 0 0 0 (.func (.func 137) #[] #[])) /\ Below w.heap.size w w' := by
 obtain ⟨wA, hA, hb, hz⟩ := mk w
 go_enter Tryz.func76, Tryz.ntmps76
 go_wp2_with fail
 refine (binary_any _ _ _ _).mono ?_
 rintro e w1 ⟨rfl, h1⟩
 have hm := Made.of hb hz h1
 unfold entV
 go_wp2_with (refine wpList_store_row rfl 160 _ _ rfl w.heap.size _ rfl rfl 160 zE hm.blk (by exact sizeE) (by rfl) (by simp [Value.oneCell']) ?_)
 exact hm.done rfl rfl rfl
theorem ent_40 (w : World) : Calls Tryz.prog 58 #[.int .i64 40] w fun e w' => e = .returned (entV 40 ⟨#[108, 115, 104, 105, 102, 116]⟩ 2 1 1 false 0 0 0 (.func (.func 137) #[] #[])) /\ Below w.heap.size w w' := by
 obtain ⟨wA, hA, hb, hz⟩ := mk w
 go_enter Tryz.func58, Tryz.ntmps58
 go_wp2_with fail
 refine (of_40 _).mono ?_
 rintro e w1 ⟨rfl, h1⟩
 have hm := Made.of hb hz h1
 unfold entV
 go_wp2_with (refine wpList_store_row rfl 160 _ _ rfl w.heap.size _ rfl rfl 160 zE hm.blk (by exact sizeE) (by rfl) (by simp [Value.oneCell']) ?_)
 exact hm.done rfl rfl rfl
theorem of_41 (w : World) : Calls Tryz.prog 76 #[.int .i64 41] w fun e w' => e = .returned (entV 41 ⟨#[114, 115, 104, 105, 102, 116]⟩ 2 1 1 false 0 0 0 (.func (.func 137) #[] #[])) /\ Below w.heap.size w w' := by
 obtain ⟨wA, hA, hb, hz⟩ := mk w
 go_enter Tryz.func76, Tryz.ntmps76
 go_wp2_with fail
 refine (binary_any _ _ _ _).mono ?_
 rintro e w1 ⟨rfl, h1⟩
 have hm := Made.of hb hz h1
 unfold entV
 go_wp2_with (refine wpList_store_row rfl 160 _ _ rfl w.heap.size _ rfl rfl 160 zE hm.blk (by exact sizeE) (by rfl) (by simp [Value.oneCell']) ?_)
 exact hm.done rfl rfl rfl
theorem ent_41 (w : World) : Calls Tryz.prog 58 #[.int .i64 41] w fun e w' => e = .returned (entV 41 ⟨#[114, 115, 104, 105, 102, 116]⟩ 2 1 1 false 0 0 0 (.func (.func 137) #[] #[])) /\ Below w.heap.size w w' := by
 obtain ⟨wA, hA, hb, hz⟩ := mk w
 go_enter Tryz.func58, Tryz.ntmps58
 go_wp2_with fail
 refine (of_41 _).mono ?_
 rintro e w1 ⟨rfl, h1⟩
 have hm := Made.of hb hz h1
 unfold entV
 go_wp2_with (refine wpList_store_row rfl 160 _ _ rfl w.heap.size _ rfl rfl 160 zE hm.blk (by exact sizeE) (by rfl) (by simp [Value.oneCell']) ?_)
 exact hm.done rfl rfl rfl
theorem of_42 (w : World) : Calls Tryz.prog 76 #[.int .i64 42] w fun e w' => e = .returned (entV 42 ⟨#[61]⟩ 2 1 1 false 0 0 0 (.func (.func 137) #[] #[])) /\ Below w.heap.size w w' := by
 obtain ⟨wA, hA, hb, hz⟩ := mk w
 go_enter Tryz.func76, Tryz.ntmps76
 go_wp2_with fail
 refine (binary_any _ _ _ _).mono ?_
 rintro e w1 ⟨rfl, h1⟩
 have hm := Made.of hb hz h1
 unfold entV
 go_wp2_with (refine wpList_store_row rfl 160 _ _ rfl w.heap.size _ rfl rfl 160 zE hm.blk (by exact sizeE) (by rfl) (by simp [Value.oneCell']) ?_)
 exact hm.done rfl rfl rfl
theorem ent_42 (w : World) : Calls Tryz.prog 58 #[.int .i64 42] w fun e w' => e = .returned (entV 42 ⟨#[61]⟩ 2 1 1 false 0 0 0 (.func (.func 137) #[] #[])) /\ Below w.heap.size w w' := by
 obtain ⟨wA, hA, hb, hz⟩ := mk w
 go_enter Tryz.func58, Tryz.ntmps58
 go_wp2_with fail
 refine (of_42 _).mono ?_
 rintro e w1 ⟨rfl, h1⟩
 have hm := Made.of hb hz h1
 unfold entV
 go_wp2_with (refine wpList_store_row rfl 160 _ _ rfl w.heap.size _ rfl rfl 160 zE hm.blk (by exact sizeE) (by rfl) (by simp [Value.oneCell']) ?_)
 exact hm.done rfl rfl rfl
theorem of_43 (w : World) : Calls Tryz.prog 76 #[.int .i64 43] w fun e w' => e = .returned (entV 43 ⟨#[60, 62]⟩ 2 1 1 false 0 0 0 (.func (.func 137) #[] #[])) /\ Below w.heap.size w w' := by
 obtain ⟨wA, hA, hb, hz⟩ := mk w
 go_enter Tryz.func76, Tryz.ntmps76
 go_wp2_with fail
 refine (binary_any _ _ _ _).mono ?_
 rintro e w1 ⟨rfl, h1⟩
 have hm := Made.of hb hz h1
 unfold entV
 go_wp2_with (refine wpList_store_row rfl 160 _ _ rfl w.heap.size _ rfl rfl 160 zE hm.blk (by exact sizeE) (by rfl) (by simp [Value.oneCell']) ?_)
 exact hm.done rfl rfl rfl
theorem ent_43 (w : World) : Calls Tryz.prog 58 #[.int .i64 43] w fun e w' => e = .returned (entV 43 ⟨#[60, 62]⟩ 2 1 1 false 0 0 0 (.func (.func 137) #[] #[])) /\ Below w.heap.size w w' := by
 obtain ⟨wA, hA, hb, hz⟩ := mk w
 go_enter Tryz.func58, Tryz.ntmps58
 go_wp2_with fail
 refine (of_43 _).mono ?_
 rintro e w1 ⟨rfl, h1⟩
 have hm := Made.of hb hz h1
 unfold entV
 go_wp2_with (refine wpList_store_row rfl 160 _ _ rfl w.heap.size _ rfl rfl 160 zE hm.blk (by exact sizeE) (by rfl) (by simp [Value.oneCell']) ?_)
 exact hm.done rfl rfl rfl
theorem of_44 (w : World) : Calls Tryz.prog 76 #[.int .i64 44] w fun e w' => e = .returned (entV 44 ⟨#[60]⟩ 2 1 1 false 0 0 0 (.func (.func 137) #[] #[])) /\ Below w.heap.size w w' := by
 obtain ⟨wA, hA, hb, hz⟩ := mk w
 go_enter Tryz.func76, Tryz.ntmps76
 go_wp2_with fail
 refine (binary_any _ _ _ _).mono ?_
 rintro e w1 ⟨rfl, h1⟩
 have hm := Made.of hb hz h1
 unfold entV
 go_wp2_with (refine wpList_store_row rfl 160 _ _ rfl w.heap.size _ rfl rfl 160 zE hm.blk (by exact sizeE) (by rfl) (by simp [Value.oneCell']) ?_)
 exact hm.done rfl rfl rfl
theorem ent_44 (w : World) : Calls Tryz.prog 58 #[.int .i64 44] w fun e w' => e = .returned (entV 44 ⟨#[60]⟩ 2 1 1 false 0 0 0 (.func (.func 137) #[] #[])) /\ Below w.heap.size w w' := by
 obtain ⟨wA, hA, hb, hz⟩ := mk w
 go_enter Tryz.func58, Tryz.ntmps58
 go_wp2_with fail
 refine (of_44 _).mono ?_
 rintro e w1 ⟨rfl, h1⟩
 have hm := Made.of hb hz h1
 unfold entV
 go_wp2_with (refine wpList_store_row rfl 160 _ _ rfl w.heap.size _ rfl rfl 160 zE hm.blk (by exact sizeE) (by rfl) (by simp [Value.oneCell']) ?_)
 exact hm.done rfl rfl rfl
theorem of_45 (w : World) : Calls Tryz.prog 76 #[.int .i64 45] w fun e w' => e = .returned (entV 45 ⟨#[62]⟩ 2 1 1 false 0 0 0 (.func (.func 137) #[] #[])) /\ Below w.heap.size w w' := by
 obtain ⟨wA, hA, hb, hz⟩ := mk w
 go_enter Tryz.func76, Tryz.ntmps76
 go_wp2_with fail
 refine (binary_any _ _ _ _).mono ?_
 rintro e w1 ⟨rfl, h1⟩
 have hm := Made.of hb hz h1
 unfold entV
 go_wp2_with (refine wpList_store_row rfl 160 _ _ rfl w.heap.size _ rfl rfl 160 zE hm.blk (by exact sizeE) (by rfl) (by simp [Value.oneCell']) ?_)
 exact hm.done rfl rfl rfl
theorem ent_45 (w : World) : Calls Tryz.prog 58 #[.int .i64 45] w fun e w' => e = .returned (entV 45 ⟨#[62]⟩ 2 1 1 false 0 0 0 (.func (.func 137) #[] #[])) /\ Below w.heap.size w w' := by
 obtain ⟨wA, hA, hb, hz⟩ := mk w
 go_enter Tryz.func58, Tryz.ntmps58
 go_wp2_with fail
 refine (of_45 _).mono ?_
 rintro e w1 ⟨rfl, h1⟩
 have hm := Made.of hb hz h1
 unfold entV
 go_wp2_with (refine wpList_store_row rfl 160 _ _ rfl w.heap.size _ rfl rfl 160 zE hm.blk (by exact sizeE) (by rfl) (by simp [Value.oneCell']) ?_)
 exact hm.done rfl rfl rfl
theorem of_46 (w : World) : Calls Tryz.prog 76 #[.int .i64 46] w fun e w' => e = .returned (entV 46 ⟨#[117, 60]⟩ 2 1 1 false 0 0 0 (.func (.func 137) #[] #[])) /\ Below w.heap.size w w' := by
 obtain ⟨wA, hA, hb, hz⟩ := mk w
 go_enter Tryz.func76, Tryz.ntmps76
 go_wp2_with fail
 refine (binary_any _ _ _ _).mono ?_
 rintro e w1 ⟨rfl, h1⟩
 have hm := Made.of hb hz h1
 unfold entV
 go_wp2_with (refine wpList_store_row rfl 160 _ _ rfl w.heap.size _ rfl rfl 160 zE hm.blk (by exact sizeE) (by rfl) (by simp [Value.oneCell']) ?_)
 exact hm.done rfl rfl rfl
theorem ent_46 (w : World) : Calls Tryz.prog 58 #[.int .i64 46] w fun e w' => e = .returned (entV 46 ⟨#[117, 60]⟩ 2 1 1 false 0 0 0 (.func (.func 137) #[] #[])) /\ Below w.heap.size w w' := by
 obtain ⟨wA, hA, hb, hz⟩ := mk w
 go_enter Tryz.func58, Tryz.ntmps58
 go_wp2_with fail
 refine (of_46 _).mono ?_
 rintro e w1 ⟨rfl, h1⟩
 have hm := Made.of hb hz h1
 unfold entV
 go_wp2_with (refine wpList_store_row rfl 160 _ _ rfl w.heap.size _ rfl rfl 160 zE hm.blk (by exact sizeE) (by rfl) (by simp [Value.oneCell']) ?_)
 exact hm.done rfl rfl rfl
theorem of_47 (w : World) : Calls Tryz.prog 76 #[.int .i64 47] w fun e w' => e = .returned (entV 47 ⟨#[117, 62]⟩ 2 1 1 false 0 0 0 (.func (.func 137) #[] #[])) /\ Below w.heap.size w w' := by
 obtain ⟨wA, hA, hb, hz⟩ := mk w
 go_enter Tryz.func76, Tryz.ntmps76
 go_wp2_with fail
 refine (binary_any _ _ _ _).mono ?_
 rintro e w1 ⟨rfl, h1⟩
 have hm := Made.of hb hz h1
 unfold entV
 go_wp2_with (refine wpList_store_row rfl 160 _ _ rfl w.heap.size _ rfl rfl 160 zE hm.blk (by exact sizeE) (by rfl) (by simp [Value.oneCell']) ?_)
 exact hm.done rfl rfl rfl
theorem ent_47 (w : World) : Calls Tryz.prog 58 #[.int .i64 47] w fun e w' => e = .returned (entV 47 ⟨#[117, 62]⟩ 2 1 1 false 0 0 0 (.func (.func 137) #[] #[])) /\ Below w.heap.size w w' := by
 obtain ⟨wA, hA, hb, hz⟩ := mk w
 go_enter Tryz.func58, Tryz.ntmps58
 go_wp2_with fail
 refine (of_47 _).mono ?_
 rintro e w1 ⟨rfl, h1⟩
 have hm := Made.of hb hz h1
 unfold entV
 go_wp2_with (refine wpList_store_row rfl 160 _ _ rfl w.heap.size _ rfl rfl 160 zE hm.blk (by exact sizeE) (by rfl) (by simp [Value.oneCell']) ?_)
 exact hm.done rfl rfl rfl
theorem of_48 (w : World) : Calls Tryz.prog 76 #[.int .i64 48] w fun e w' => e = .returned (entV 48 ⟨#[48, 61]⟩ 1 1 1 false 0 0 0 (.func (.func 139) #[] #[])) /\ Below w.heap.size w w' := by
 obtain ⟨wA, hA, hb, hz⟩ := mk w
 go_enter Tryz.func76, Tryz.ntmps76
 go_wp2_with fail
 refine (unary_any _ _ _).mono ?_
 rintro e w1 ⟨rfl, h1⟩
 have hm := Made.of hb hz h1
 unfold entV
 go_wp2_with (refine wpList_store_row rfl 160 _ _ rfl w.heap.size _ rfl rfl 160 zE hm.blk (by exact sizeE) (by rfl) (by simp [Value.oneCell']) ?_)
 exact hm.done rfl rfl rfl
theorem ent_48 (w : World) : Calls Tryz.prog 58 #[.int .i64 48] w fun e w' => e = .returned (entV 48 ⟨#[48, 61]⟩ 1 1 1 false 0 0 0 (.func (.func 139) #[] #[])) /\ Below w.heap.size w w' := by
 obtain ⟨wA, hA, hb, hz⟩ := mk w
 go_enter Tryz.func58, Tryz.ntmps58
 go_wp2_with fail
 refine (of_48 _).mono ?_
 rintro e w1 ⟨rfl, h1⟩
 have hm := Made.of hb hz h1
 unfold entV
 go_wp2_with (refine wpList_store_row rfl 160 _ _ rfl w.heap.size _ rfl rfl 160 zE hm.blk (by exact sizeE) (by rfl) (by simp [Value.oneCell']) ?_)
 exact hm.done rfl rfl rfl
end Go.Proofs.YtoemoiehjdmheaaGreat.P
