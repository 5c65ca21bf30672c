import Derived.Test.YtgponcjjnjpfkaaGreatPRow
/-! Entries 1 to 16. -/
namespace Go.Proofs.YtgponcjjnjpfkaaGreat.P
open Go.RowKit
open Go.Proofs
set_option linter.unusedVariables false
set_option linter.unusedSimpArgs false
set_option maxHeartbeats 1000000
set_option maxRecDepth 100000
theorem of_1 (w : World) : Calls Tryz.prog 66 #[.int .i64 1] w fun e w' => e = .returned (entV 1 ⟨#[]⟩ 0 0 2 false 0 0 0 .nilFunc) ∧ Below w.heap.size w w' := by
  obtain ⟨wA, hA, hb, hz⟩ := mk w
  go_enter Tryz.func66, Tryz.ntmps66
  go_wp2_with fail
  refine (row_any _ _ _ _ _ _).mono ?_
  rintro e w1 ⟨rfl, h1⟩
  have hm := Made.of hb hz h1
  unfold rowV
  go_wp2_with (refine wpList_store_row rfl 94 _ _ rfl w.heap.size _ rfl rfl 94 zE hm.blk (by exact sizeE) (by rfl) (by simp [Value.oneCell']) ?_)
  exact hm.done rfl rfl rfl
theorem ent_1 (w : World) : Calls Tryz.prog 45 #[.int .i64 1] w fun e w' => e = .returned (entV 1 ⟨#[]⟩ 0 0 2 false 0 0 0 .nilFunc) ∧ Below w.heap.size w w' := by
  obtain ⟨wA, hA, hb, hz⟩ := mk w
  go_enter Tryz.func45, Tryz.ntmps45
  go_wp2_with fail
  refine (of_1 _).mono ?_
  rintro e w1 ⟨rfl, h1⟩
  have hm := Made.of hb hz h1
  unfold entV
  go_wp2_with (refine wpList_store_row rfl 94 _ _ rfl w.heap.size _ rfl rfl 94 zE hm.blk (by exact sizeE) (by rfl) (by simp [Value.oneCell']) ?_)
  exact hm.done rfl rfl rfl
theorem of_2 (w : World) : Calls Tryz.prog 66 #[.int .i64 2] w fun e w' => e = .returned (entV 2 ⟨#[]⟩ 0 1 2 false 0 0 0 .nilFunc) ∧ Below w.heap.size w w' := by
  obtain ⟨wA, hA, hb, hz⟩ := mk w
  go_enter Tryz.func66, Tryz.ntmps66
  go_wp2_with fail
  refine (row_any _ _ _ _ _ _).mono ?_
  rintro e w1 ⟨rfl, h1⟩
  have hm := Made.of hb hz h1
  unfold rowV
  go_wp2_with (refine wpList_store_row rfl 94 _ _ rfl w.heap.size _ rfl rfl 94 zE hm.blk (by exact sizeE) (by rfl) (by simp [Value.oneCell']) ?_)
  exact hm.done rfl rfl rfl
theorem ent_2 (w : World) : Calls Tryz.prog 45 #[.int .i64 2] w fun e w' => e = .returned (entV 2 ⟨#[]⟩ 0 1 2 false 0 0 0 .nilFunc) ∧ Below w.heap.size w w' := by
  obtain ⟨wA, hA, hb, hz⟩ := mk w
  go_enter Tryz.func45, Tryz.ntmps45
  go_wp2_with fail
  refine (of_2 _).mono ?_
  rintro e w1 ⟨rfl, h1⟩
  have hm := Made.of hb hz h1
  unfold entV
  go_wp2_with (refine wpList_store_row rfl 94 _ _ rfl w.heap.size _ rfl rfl 94 zE hm.blk (by exact sizeE) (by rfl) (by simp [Value.oneCell']) ?_)
  exact hm.done rfl rfl rfl
theorem of_3 (w : World) : Calls Tryz.prog 66 #[.int .i64 3] w fun e w' => e = .returned (entV 3 ⟨#[]⟩ 0 1 2 true 0 0 0 .nilFunc) ∧ Below w.heap.size w w' := by
  obtain ⟨wA, hA, hb, hz⟩ := mk w
  go_enter Tryz.func66, Tryz.ntmps66
  go_wp2_with fail
  refine (withOperand_any _ _ _ _ _).mono ?_
  rintro e w1 ⟨rfl, h1⟩
  have hm := Made.of hb hz h1
  unfold entV
  go_wp2_with (refine wpList_store_row rfl 94 _ _ rfl w.heap.size _ rfl rfl 94 zE hm.blk (by exact sizeE) (by rfl) (by simp [Value.oneCell']) ?_)
  exact hm.done rfl rfl rfl
theorem ent_3 (w : World) : Calls Tryz.prog 45 #[.int .i64 3] w fun e w' => e = .returned (entV 3 ⟨#[]⟩ 0 1 2 true 0 0 0 .nilFunc) ∧ Below w.heap.size w w' := by
  obtain ⟨wA, hA, hb, hz⟩ := mk w
  go_enter Tryz.func45, Tryz.ntmps45
  go_wp2_with fail
  refine (of_3 _).mono ?_
  rintro e w1 ⟨rfl, h1⟩
  have hm := Made.of hb hz h1
  unfold entV
  go_wp2_with (refine wpList_store_row rfl 94 _ _ rfl w.heap.size _ rfl rfl 94 zE hm.blk (by exact sizeE) (by rfl) (by simp [Value.oneCell']) ?_)
  exact hm.done rfl rfl rfl
theorem of_4 (w : World) : Calls Tryz.prog 66 #[.int .i64 4] w fun e w' => e = .returned (entV 4 ⟨#[]⟩ 0 0 2 true 0 0 0 .nilFunc) ∧ Below w.heap.size w w' := by
  obtain ⟨wA, hA, hb, hz⟩ := mk w
  go_enter Tryz.func66, Tryz.ntmps66
  go_wp2_with fail
  refine (withOperand_any _ _ _ _ _).mono ?_
  rintro e w1 ⟨rfl, h1⟩
  have hm := Made.of hb hz h1
  unfold entV
  go_wp2_with (refine wpList_store_row rfl 94 _ _ rfl w.heap.size _ rfl rfl 94 zE hm.blk (by exact sizeE) (by rfl) (by simp [Value.oneCell']) ?_)
  exact hm.done rfl rfl rfl
theorem ent_4 (w : World) : Calls Tryz.prog 45 #[.int .i64 4] w fun e w' => e = .returned (entV 4 ⟨#[]⟩ 0 0 2 true 0 0 0 .nilFunc) ∧ Below w.heap.size w w' := by
  obtain ⟨wA, hA, hb, hz⟩ := mk w
  go_enter Tryz.func45, Tryz.ntmps45
  go_wp2_with fail
  refine (of_4 _).mono ?_
  rintro e w1 ⟨rfl, h1⟩
  have hm := Made.of hb hz h1
  unfold entV
  go_wp2_with (refine wpList_store_row rfl 94 _ _ rfl w.heap.size _ rfl rfl 94 zE hm.blk (by exact sizeE) (by rfl) (by simp [Value.oneCell']) ?_)
  exact hm.done rfl rfl rfl
theorem of_5 (w : World) : Calls Tryz.prog 66 #[.int .i64 5] w fun e w' => e = .returned (entV 5 ⟨#[]⟩ 1 0 2 true 0 0 0 .nilFunc) ∧ Below w.heap.size w w' := by
  obtain ⟨wA, hA, hb, hz⟩ := mk w
  go_enter Tryz.func66, Tryz.ntmps66
  go_wp2_with fail
  refine (withOperand_any _ _ _ _ _).mono ?_
  rintro e w1 ⟨rfl, h1⟩
  have hm := Made.of hb hz h1
  unfold entV
  go_wp2_with (refine wpList_store_row rfl 94 _ _ rfl w.heap.size _ rfl rfl 94 zE hm.blk (by exact sizeE) (by rfl) (by simp [Value.oneCell']) ?_)
  exact hm.done rfl rfl rfl
theorem ent_5 (w : World) : Calls Tryz.prog 45 #[.int .i64 5] w fun e w' => e = .returned (entV 5 ⟨#[]⟩ 1 0 2 true 0 0 0 .nilFunc) ∧ Below w.heap.size w w' := by
  obtain ⟨wA, hA, hb, hz⟩ := mk w
  go_enter Tryz.func45, Tryz.ntmps45
  go_wp2_with fail
  refine (of_5 _).mono ?_
  rintro e w1 ⟨rfl, h1⟩
  have hm := Made.of hb hz h1
  unfold entV
  go_wp2_with (refine wpList_store_row rfl 94 _ _ rfl w.heap.size _ rfl rfl 94 zE hm.blk (by exact sizeE) (by rfl) (by simp [Value.oneCell']) ?_)
  exact hm.done rfl rfl rfl
theorem of_6 (w : World) : Calls Tryz.prog 66 #[.int .i64 6] w fun e w' => e = .returned (entV 6 ⟨#[]⟩ 2 0 3 false 0 0 2 (.func (.func 88) #[] #[])) ∧ Below w.heap.size w w' := by
  obtain ⟨wA, hA, hb, hz⟩ := mk w
  go_enter Tryz.func66, Tryz.ntmps66
  go_wp2_with fail
  refine (row_any _ _ _ _ _ _).mono ?_
  rintro e w1 ⟨rfl, h1⟩
  have hm := Made.of hb hz h1
  unfold rowV
  go_wp2_with (refine wpList_store_row rfl 94 _ _ rfl w.heap.size _ rfl rfl 94 zE hm.blk (by exact sizeE) (by rfl) (by simp [Value.oneCell']) ?_)
  exact hm.done rfl rfl rfl
theorem ent_6 (w : World) : Calls Tryz.prog 45 #[.int .i64 6] w fun e w' => e = .returned (entV 6 ⟨#[]⟩ 2 0 3 false 0 0 2 (.func (.func 88) #[] #[])) ∧ Below w.heap.size w w' := by
  obtain ⟨wA, hA, hb, hz⟩ := mk w
  go_enter Tryz.func45, Tryz.ntmps45
  go_wp2_with fail
  refine (of_6 _).mono ?_
  rintro e w1 ⟨rfl, h1⟩
  have hm := Made.of hb hz h1
  unfold entV
  go_wp2_with (refine wpList_store_row rfl 94 _ _ rfl w.heap.size _ rfl rfl 94 zE hm.blk (by exact sizeE) (by rfl) (by simp [Value.oneCell']) ?_)
  exact hm.done rfl rfl rfl
theorem of_7 (w : World) : Calls Tryz.prog 66 #[.int .i64 7] w fun e w' => e = .returned (entV 7 ⟨#[]⟩ 0 0 3 true 0 0 0 .nilFunc) ∧ Below w.heap.size w w' := by
  obtain ⟨wA, hA, hb, hz⟩ := mk w
  go_enter Tryz.func66, Tryz.ntmps66
  go_wp2_with fail
  refine (withOperand_any _ _ _ _ _).mono ?_
  rintro e w1 ⟨rfl, h1⟩
  have hm := Made.of hb hz h1
  unfold entV
  go_wp2_with (refine wpList_store_row rfl 94 _ _ rfl w.heap.size _ rfl rfl 94 zE hm.blk (by exact sizeE) (by rfl) (by simp [Value.oneCell']) ?_)
  exact hm.done rfl rfl rfl
theorem ent_7 (w : World) : Calls Tryz.prog 45 #[.int .i64 7] w fun e w' => e = .returned (entV 7 ⟨#[]⟩ 0 0 3 true 0 0 0 .nilFunc) ∧ Below w.heap.size w w' := by
  obtain ⟨wA, hA, hb, hz⟩ := mk w
  go_enter Tryz.func45, Tryz.ntmps45
  go_wp2_with fail
  refine (of_7 _).mono ?_
  rintro e w1 ⟨rfl, h1⟩
  have hm := Made.of hb hz h1
  unfold entV
  go_wp2_with (refine wpList_store_row rfl 94 _ _ rfl w.heap.size _ rfl rfl 94 zE hm.blk (by exact sizeE) (by rfl) (by simp [Value.oneCell']) ?_)
  exact hm.done rfl rfl rfl
theorem of_8 (w : World) : Calls Tryz.prog 66 #[.int .i64 8] w fun e w' => e = .returned (entV 8 ⟨#[]⟩ 0 0 2 false 0 0 0 .nilFunc) ∧ Below w.heap.size w w' := by
  obtain ⟨wA, hA, hb, hz⟩ := mk w
  go_enter Tryz.func66, Tryz.ntmps66
  go_wp2_with fail
  refine (row_any _ _ _ _ _ _).mono ?_
  rintro e w1 ⟨rfl, h1⟩
  have hm := Made.of hb hz h1
  unfold rowV
  go_wp2_with (refine wpList_store_row rfl 94 _ _ rfl w.heap.size _ rfl rfl 94 zE hm.blk (by exact sizeE) (by rfl) (by simp [Value.oneCell']) ?_)
  exact hm.done rfl rfl rfl
theorem ent_8 (w : World) : Calls Tryz.prog 45 #[.int .i64 8] w fun e w' => e = .returned (entV 8 ⟨#[]⟩ 0 0 2 false 0 0 0 .nilFunc) ∧ Below w.heap.size w w' := by
  obtain ⟨wA, hA, hb, hz⟩ := mk w
  go_enter Tryz.func45, Tryz.ntmps45
  go_wp2_with fail
  refine (of_8 _).mono ?_
  rintro e w1 ⟨rfl, h1⟩
  have hm := Made.of hb hz h1
  unfold entV
  go_wp2_with (refine wpList_store_row rfl 94 _ _ rfl w.heap.size _ rfl rfl 94 zE hm.blk (by exact sizeE) (by rfl) (by simp [Value.oneCell']) ?_)
  exact hm.done rfl rfl rfl
theorem of_9 (w : World) : Calls Tryz.prog 66 #[.int .i64 9] w fun e w' => e = .returned (entV 9 ⟨#[110, 111, 112]⟩ 0 0 1 false 0 0 0 (.func (.func 90) #[] #[])) ∧ Below w.heap.size w w' := by
  obtain ⟨wA, hA, hb, hz⟩ := mk w
  go_enter Tryz.func66, Tryz.ntmps66
  go_wp2_with fail
  refine (row_any _ _ _ _ _ _).mono ?_
  rintro e w1 ⟨rfl, h1⟩
  have hm := Made.of hb hz h1
  unfold rowV
  go_wp2_with (refine wpList_store_row rfl 94 _ _ rfl w.heap.size _ rfl rfl 94 zE hm.blk (by exact sizeE) (by rfl) (by simp [Value.oneCell']) ?_)
  exact hm.done rfl rfl rfl
theorem ent_9 (w : World) : Calls Tryz.prog 45 #[.int .i64 9] w fun e w' => e = .returned (entV 9 ⟨#[110, 111, 112]⟩ 0 0 1 false 0 0 0 (.func (.func 90) #[] #[])) ∧ Below w.heap.size w w' := by
  obtain ⟨wA, hA, hb, hz⟩ := mk w
  go_enter Tryz.func45, Tryz.ntmps45
  go_wp2_with fail
  refine (of_9 _).mono ?_
  rintro e w1 ⟨rfl, h1⟩
  have hm := Made.of hb hz h1
  unfold entV
  go_wp2_with (refine wpList_store_row rfl 94 _ _ rfl w.heap.size _ rfl rfl 94 zE hm.blk (by exact sizeE) (by rfl) (by simp [Value.oneCell']) ?_)
  exact hm.done rfl rfl rfl
theorem of_10 (w : World) : Calls Tryz.prog 66 #[.int .i64 10] w fun e w' => e = .returned (entV 10 ⟨#[121, 105, 101, 108, 100]⟩ 0 0 1 false 0 0 0 .nilFunc) ∧ Below w.heap.size w w' := by
  obtain ⟨wA, hA, hb, hz⟩ := mk w
  go_enter Tryz.func66, Tryz.ntmps66
  go_wp2_with fail
  refine (row_any _ _ _ _ _ _).mono ?_
  rintro e w1 ⟨rfl, h1⟩
  have hm := Made.of hb hz h1
  unfold rowV
  go_wp2_with (refine wpList_store_row rfl 94 _ _ rfl w.heap.size _ rfl rfl 94 zE hm.blk (by exact sizeE) (by rfl) (by simp [Value.oneCell']) ?_)
  exact hm.done rfl rfl rfl
theorem ent_10 (w : World) : Calls Tryz.prog 45 #[.int .i64 10] w fun e w' => e = .returned (entV 10 ⟨#[121, 105, 101, 108, 100]⟩ 0 0 1 false 0 0 0 .nilFunc) ∧ Below w.heap.size w w' := by
  obtain ⟨wA, hA, hb, hz⟩ := mk w
  go_enter Tryz.func45, Tryz.ntmps45
  go_wp2_with fail
  refine (of_10 _).mono ?_
  rintro e w1 ⟨rfl, h1⟩
  have hm := Made.of hb hz h1
  unfold entV
  go_wp2_with (refine wpList_store_row rfl 94 _ _ rfl w.heap.size _ rfl rfl 94 zE hm.blk (by exact sizeE) (by rfl) (by simp [Value.oneCell']) ?_)
  exact hm.done rfl rfl rfl
theorem of_11 (w : World) : Calls Tryz.prog 66 #[.int .i64 11] w fun e w' => e = .returned (entV 11 ⟨#[104, 97, 108, 116]⟩ 0 0 1 false 0 0 0 .nilFunc) ∧ Below w.heap.size w w' := by
  obtain ⟨wA, hA, hb, hz⟩ := mk w
  go_enter Tryz.func66, Tryz.ntmps66
  go_wp2_with fail
  refine (row_any _ _ _ _ _ _).mono ?_
  rintro e w1 ⟨rfl, h1⟩
  have hm := Made.of hb hz h1
  unfold rowV
  go_wp2_with (refine wpList_store_row rfl 94 _ _ rfl w.heap.size _ rfl rfl 94 zE hm.blk (by exact sizeE) (by rfl) (by simp [Value.oneCell']) ?_)
  exact hm.done rfl rfl rfl
theorem ent_11 (w : World) : Calls Tryz.prog 45 #[.int .i64 11] w fun e w' => e = .returned (entV 11 ⟨#[104, 97, 108, 116]⟩ 0 0 1 false 0 0 0 .nilFunc) ∧ Below w.heap.size w w' := by
  obtain ⟨wA, hA, hb, hz⟩ := mk w
  go_enter Tryz.func45, Tryz.ntmps45
  go_wp2_with fail
  refine (of_11 _).mono ?_
  rintro e w1 ⟨rfl, h1⟩
  have hm := Made.of hb hz h1
  unfold entV
  go_wp2_with (refine wpList_store_row rfl 94 _ _ rfl w.heap.size _ rfl rfl 94 zE hm.blk (by exact sizeE) (by rfl) (by simp [Value.oneCell']) ?_)
  exact hm.done rfl rfl rfl
theorem of_12 (w : World) : Calls Tryz.prog 67 #[.int .i64 12] w fun e w' => e = .returned (entV 12 ⟨#[100, 117, 112]⟩ 1 2 1 false 0 0 0 (.func (.func 91) #[] #[])) ∧ Below w.heap.size w w' := by
  obtain ⟨wA, hA, hb, hz⟩ := mk w
  go_enter Tryz.func67, Tryz.ntmps67
  go_wp2_with fail
  refine (row_any _ _ _ _ _ _).mono ?_
  rintro e w1 ⟨rfl, h1⟩
  have hm := Made.of hb hz h1
  unfold rowV
  go_wp2_with (refine wpList_store_row rfl 94 _ _ rfl w.heap.size _ rfl rfl 94 zE hm.blk (by exact sizeE) (by rfl) (by simp [Value.oneCell']) ?_)
  exact hm.done rfl rfl rfl
theorem ent_12 (w : World) : Calls Tryz.prog 45 #[.int .i64 12] w fun e w' => e = .returned (entV 12 ⟨#[100, 117, 112]⟩ 1 2 1 false 0 0 0 (.func (.func 91) #[] #[])) ∧ Below w.heap.size w w' := by
  obtain ⟨wA, hA, hb, hz⟩ := mk w
  go_enter Tryz.func45, Tryz.ntmps45
  go_wp2_with fail
  refine (of_12 _).mono ?_
  rintro e w1 ⟨rfl, h1⟩
  have hm := Made.of hb hz h1
  unfold entV
  go_wp2_with (refine wpList_store_row rfl 94 _ _ rfl w.heap.size _ rfl rfl 94 zE hm.blk (by exact sizeE) (by rfl) (by simp [Value.oneCell']) ?_)
  exact hm.done rfl rfl rfl
theorem of_13 (w : World) : Calls Tryz.prog 67 #[.int .i64 13] w fun e w' => e = .returned (entV 13 ⟨#[100, 114, 111, 112]⟩ 1 0 1 false 0 0 0 (.func (.func 93) #[] #[])) ∧ Below w.heap.size w w' := by
  obtain ⟨wA, hA, hb, hz⟩ := mk w
  go_enter Tryz.func67, Tryz.ntmps67
  go_wp2_with fail
  refine (row_any _ _ _ _ _ _).mono ?_
  rintro e w1 ⟨rfl, h1⟩
  have hm := Made.of hb hz h1
  unfold rowV
  go_wp2_with (refine wpList_store_row rfl 94 _ _ rfl w.heap.size _ rfl rfl 94 zE hm.blk (by exact sizeE) (by rfl) (by simp [Value.oneCell']) ?_)
  exact hm.done rfl rfl rfl
theorem ent_13 (w : World) : Calls Tryz.prog 45 #[.int .i64 13] w fun e w' => e = .returned (entV 13 ⟨#[100, 114, 111, 112]⟩ 1 0 1 false 0 0 0 (.func (.func 93) #[] #[])) ∧ Below w.heap.size w w' := by
  obtain ⟨wA, hA, hb, hz⟩ := mk w
  go_enter Tryz.func45, Tryz.ntmps45
  go_wp2_with fail
  refine (of_13 _).mono ?_
  rintro e w1 ⟨rfl, h1⟩
  have hm := Made.of hb hz h1
  unfold entV
  go_wp2_with (refine wpList_store_row rfl 94 _ _ rfl w.heap.size _ rfl rfl 94 zE hm.blk (by exact sizeE) (by rfl) (by simp [Value.oneCell']) ?_)
  exact hm.done rfl rfl rfl
theorem of_14 (w : World) : Calls Tryz.prog 67 #[.int .i64 14] w fun e w' => e = .returned (entV 14 ⟨#[115, 119, 97, 112]⟩ 2 2 1 false 0 0 0 (.func (.func 94) #[] #[])) ∧ Below w.heap.size w w' := by
  obtain ⟨wA, hA, hb, hz⟩ := mk w
  go_enter Tryz.func67, Tryz.ntmps67
  go_wp2_with fail
  refine (row_any _ _ _ _ _ _).mono ?_
  rintro e w1 ⟨rfl, h1⟩
  have hm := Made.of hb hz h1
  unfold rowV
  go_wp2_with (refine wpList_store_row rfl 94 _ _ rfl w.heap.size _ rfl rfl 94 zE hm.blk (by exact sizeE) (by rfl) (by simp [Value.oneCell']) ?_)
  exact hm.done rfl rfl rfl
theorem ent_14 (w : World) : Calls Tryz.prog 45 #[.int .i64 14] w fun e w' => e = .returned (entV 14 ⟨#[115, 119, 97, 112]⟩ 2 2 1 false 0 0 0 (.func (.func 94) #[] #[])) ∧ Below w.heap.size w w' := by
  obtain ⟨wA, hA, hb, hz⟩ := mk w
  go_enter Tryz.func45, Tryz.ntmps45
  go_wp2_with fail
  refine (of_14 _).mono ?_
  rintro e w1 ⟨rfl, h1⟩
  have hm := Made.of hb hz h1
  unfold entV
  go_wp2_with (refine wpList_store_row rfl 94 _ _ rfl w.heap.size _ rfl rfl 94 zE hm.blk (by exact sizeE) (by rfl) (by simp [Value.oneCell']) ?_)
  exact hm.done rfl rfl rfl
theorem of_15 (w : World) : Calls Tryz.prog 67 #[.int .i64 15] w fun e w' => e = .returned (entV 15 ⟨#[111, 118, 101, 114]⟩ 2 3 1 false 0 0 0 (.func (.func 95) #[] #[])) ∧ Below w.heap.size w w' := by
  obtain ⟨wA, hA, hb, hz⟩ := mk w
  go_enter Tryz.func67, Tryz.ntmps67
  go_wp2_with fail
  refine (row_any _ _ _ _ _ _).mono ?_
  rintro e w1 ⟨rfl, h1⟩
  have hm := Made.of hb hz h1
  unfold rowV
  go_wp2_with (refine wpList_store_row rfl 94 _ _ rfl w.heap.size _ rfl rfl 94 zE hm.blk (by exact sizeE) (by rfl) (by simp [Value.oneCell']) ?_)
  exact hm.done rfl rfl rfl
theorem ent_15 (w : World) : Calls Tryz.prog 45 #[.int .i64 15] w fun e w' => e = .returned (entV 15 ⟨#[111, 118, 101, 114]⟩ 2 3 1 false 0 0 0 (.func (.func 95) #[] #[])) ∧ Below w.heap.size w w' := by
  obtain ⟨wA, hA, hb, hz⟩ := mk w
  go_enter Tryz.func45, Tryz.ntmps45
  go_wp2_with fail
  refine (of_15 _).mono ?_
  rintro e w1 ⟨rfl, h1⟩
  have hm := Made.of hb hz h1
  unfold entV
  go_wp2_with (refine wpList_store_row rfl 94 _ _ rfl w.heap.size _ rfl rfl 94 zE hm.blk (by exact sizeE) (by rfl) (by simp [Value.oneCell']) ?_)
  exact hm.done rfl rfl rfl
theorem of_16 (w : World) : Calls Tryz.prog 67 #[.int .i64 16] w fun e w' => e = .returned (entV 16 ⟨#[114, 111, 116]⟩ 3 3 1 false 0 0 0 (.func (.func 96) #[] #[])) ∧ Below w.heap.size w w' := by
  obtain ⟨wA, hA, hb, hz⟩ := mk w
  go_enter Tryz.func67, Tryz.ntmps67
  go_wp2_with fail
  refine (row_any _ _ _ _ _ _).mono ?_
  rintro e w1 ⟨rfl, h1⟩
  have hm := Made.of hb hz h1
  unfold rowV
  go_wp2_with (refine wpList_store_row rfl 94 _ _ rfl w.heap.size _ rfl rfl 94 zE hm.blk (by exact sizeE) (by rfl) (by simp [Value.oneCell']) ?_)
  exact hm.done rfl rfl rfl
theorem ent_16 (w : World) : Calls Tryz.prog 45 #[.int .i64 16] w fun e w' => e = .returned (entV 16 ⟨#[114, 111, 116]⟩ 3 3 1 false 0 0 0 (.func (.func 96) #[] #[])) ∧ Below w.heap.size w w' := by
  obtain ⟨wA, hA, hb, hz⟩ := mk w
  go_enter Tryz.func45, Tryz.ntmps45
  go_wp2_with fail
  refine (of_16 _).mono ?_
  rintro e w1 ⟨rfl, h1⟩
  have hm := Made.of hb hz h1
  unfold entV
  go_wp2_with (refine wpList_store_row rfl 94 _ _ rfl w.heap.size _ rfl rfl 94 zE hm.blk (by exact sizeE) (by rfl) (by simp [Value.oneCell']) ?_)
  exact hm.done rfl rfl rfl
end Go.Proofs.YtgponcjjnjpfkaaGreat.P
