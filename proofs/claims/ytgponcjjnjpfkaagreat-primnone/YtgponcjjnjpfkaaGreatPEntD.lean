import Derived.Test.YtgponcjjnjpfkaaGreatPRow
/-! Entries 49 to 63. -/
namespace Go.Proofs.YtgponcjjnjpfkaaGreat.P
open Go.RowKit
open Go.Proofs
set_option linter.unusedVariables false
set_option linter.unusedSimpArgs false
set_option maxHeartbeats 1000000
set_option maxRecDepth 100000
theorem of_49 (w : World) : Calls Tryz.prog 69 #[.int .i64 49] w fun e w' => e = .returned (entV 49 ⟨#[48, 60]⟩ 1 1 1 false 0 0 0 (.func (.func 126) #[] #[])) ∧ Below w.heap.size w w' := by
  obtain ⟨wA, hA, hb, hz⟩ := mk w
  go_enter Tryz.func69, Tryz.ntmps69
  go_wp2_with fail
  refine (unary_any _ _ _).mono ?_
  rintro e w1 ⟨rfl, h1⟩
  have hm := Made.of hb hz h1
  unfold entV
  go_wp2_with (refine wpList_store_row rfl 94 _ _ rfl w.heap.size _ rfl rfl 94 zE hm.blk (by exact sizeE) (by rfl) (by simp [Value.oneCell']) ?_)
  exact hm.done rfl rfl rfl
theorem ent_49 (w : World) : Calls Tryz.prog 45 #[.int .i64 49] w fun e w' => e = .returned (entV 49 ⟨#[48, 60]⟩ 1 1 1 false 0 0 0 (.func (.func 126) #[] #[])) ∧ Below w.heap.size w w' := by
  obtain ⟨wA, hA, hb, hz⟩ := mk w
  go_enter Tryz.func45, Tryz.ntmps45
  go_wp2_with fail
  refine (of_49 _).mono ?_
  rintro e w1 ⟨rfl, h1⟩
  have hm := Made.of hb hz h1
  unfold entV
  go_wp2_with (refine wpList_store_row rfl 94 _ _ rfl w.heap.size _ rfl rfl 94 zE hm.blk (by exact sizeE) (by rfl) (by simp [Value.oneCell']) ?_)
  exact hm.done rfl rfl rfl
theorem of_50 (w : World) : Calls Tryz.prog 70 #[.int .i64 50] w fun e w' => e = .returned (entV 50 ⟨#[64]⟩ 1 1 2 false 0 0 0 (.func (.func 103) #[] #[])) ∧ Below w.heap.size w w' := by
  obtain ⟨wA, hA, hb, hz⟩ := mk w
  go_enter Tryz.func70, Tryz.ntmps70
  go_wp2_with fail
  refine (row_any _ _ _ _ _ _).mono ?_
  rintro e w1 ⟨rfl, h1⟩
  have hm := Made.of hb hz h1
  unfold rowV
  go_wp2_with (refine wpList_store_row rfl 94 _ _ rfl w.heap.size _ rfl rfl 94 zE hm.blk (by exact sizeE) (by rfl) (by simp [Value.oneCell']) ?_)
  exact hm.done rfl rfl rfl
theorem ent_50 (w : World) : Calls Tryz.prog 45 #[.int .i64 50] w fun e w' => e = .returned (entV 50 ⟨#[64]⟩ 1 1 2 false 0 0 0 (.func (.func 103) #[] #[])) ∧ Below w.heap.size w w' := by
  obtain ⟨wA, hA, hb, hz⟩ := mk w
  go_enter Tryz.func45, Tryz.ntmps45
  go_wp2_with fail
  refine (of_50 _).mono ?_
  rintro e w1 ⟨rfl, h1⟩
  have hm := Made.of hb hz h1
  unfold entV
  go_wp2_with (refine wpList_store_row rfl 94 _ _ rfl w.heap.size _ rfl rfl 94 zE hm.blk (by exact sizeE) (by rfl) (by simp [Value.oneCell']) ?_)
  exact hm.done rfl rfl rfl
theorem of_51 (w : World) : Calls Tryz.prog 70 #[.int .i64 51] w fun e w' => e = .returned (entV 51 ⟨#[33]⟩ 2 0 2 false 0 0 0 (.func (.func 105) #[] #[])) ∧ Below w.heap.size w w' := by
  obtain ⟨wA, hA, hb, hz⟩ := mk w
  go_enter Tryz.func70, Tryz.ntmps70
  go_wp2_with fail
  refine (row_any _ _ _ _ _ _).mono ?_
  rintro e w1 ⟨rfl, h1⟩
  have hm := Made.of hb hz h1
  unfold rowV
  go_wp2_with (refine wpList_store_row rfl 94 _ _ rfl w.heap.size _ rfl rfl 94 zE hm.blk (by exact sizeE) (by rfl) (by simp [Value.oneCell']) ?_)
  exact hm.done rfl rfl rfl
theorem ent_51 (w : World) : Calls Tryz.prog 45 #[.int .i64 51] w fun e w' => e = .returned (entV 51 ⟨#[33]⟩ 2 0 2 false 0 0 0 (.func (.func 105) #[] #[])) ∧ Below w.heap.size w w' := by
  obtain ⟨wA, hA, hb, hz⟩ := mk w
  go_enter Tryz.func45, Tryz.ntmps45
  go_wp2_with fail
  refine (of_51 _).mono ?_
  rintro e w1 ⟨rfl, h1⟩
  have hm := Made.of hb hz h1
  unfold entV
  go_wp2_with (refine wpList_store_row rfl 94 _ _ rfl w.heap.size _ rfl rfl 94 zE hm.blk (by exact sizeE) (by rfl) (by simp [Value.oneCell']) ?_)
  exact hm.done rfl rfl rfl
theorem of_52 (w : World) : Calls Tryz.prog 70 #[.int .i64 52] w fun e w' => e = .returned (entV 52 ⟨#[99, 64]⟩ 1 1 2 false 0 0 0 (.func (.func 107) #[] #[])) ∧ Below w.heap.size w w' := by
  obtain ⟨wA, hA, hb, hz⟩ := mk w
  go_enter Tryz.func70, Tryz.ntmps70
  go_wp2_with fail
  refine (row_any _ _ _ _ _ _).mono ?_
  rintro e w1 ⟨rfl, h1⟩
  have hm := Made.of hb hz h1
  unfold rowV
  go_wp2_with (refine wpList_store_row rfl 94 _ _ rfl w.heap.size _ rfl rfl 94 zE hm.blk (by exact sizeE) (by rfl) (by simp [Value.oneCell']) ?_)
  exact hm.done rfl rfl rfl
theorem ent_52 (w : World) : Calls Tryz.prog 45 #[.int .i64 52] w fun e w' => e = .returned (entV 52 ⟨#[99, 64]⟩ 1 1 2 false 0 0 0 (.func (.func 107) #[] #[])) ∧ Below w.heap.size w w' := by
  obtain ⟨wA, hA, hb, hz⟩ := mk w
  go_enter Tryz.func45, Tryz.ntmps45
  go_wp2_with fail
  refine (of_52 _).mono ?_
  rintro e w1 ⟨rfl, h1⟩
  have hm := Made.of hb hz h1
  unfold entV
  go_wp2_with (refine wpList_store_row rfl 94 _ _ rfl w.heap.size _ rfl rfl 94 zE hm.blk (by exact sizeE) (by rfl) (by simp [Value.oneCell']) ?_)
  exact hm.done rfl rfl rfl
theorem of_53 (w : World) : Calls Tryz.prog 70 #[.int .i64 53] w fun e w' => e = .returned (entV 53 ⟨#[99, 33]⟩ 2 0 2 false 0 0 0 (.func (.func 109) #[] #[])) ∧ Below w.heap.size w w' := by
  obtain ⟨wA, hA, hb, hz⟩ := mk w
  go_enter Tryz.func70, Tryz.ntmps70
  go_wp2_with fail
  refine (row_any _ _ _ _ _ _).mono ?_
  rintro e w1 ⟨rfl, h1⟩
  have hm := Made.of hb hz h1
  unfold rowV
  go_wp2_with (refine wpList_store_row rfl 94 _ _ rfl w.heap.size _ rfl rfl 94 zE hm.blk (by exact sizeE) (by rfl) (by simp [Value.oneCell']) ?_)
  exact hm.done rfl rfl rfl
theorem ent_53 (w : World) : Calls Tryz.prog 45 #[.int .i64 53] w fun e w' => e = .returned (entV 53 ⟨#[99, 33]⟩ 2 0 2 false 0 0 0 (.func (.func 109) #[] #[])) ∧ Below w.heap.size w w' := by
  obtain ⟨wA, hA, hb, hz⟩ := mk w
  go_enter Tryz.func45, Tryz.ntmps45
  go_wp2_with fail
  refine (of_53 _).mono ?_
  rintro e w1 ⟨rfl, h1⟩
  have hm := Made.of hb hz h1
  unfold entV
  go_wp2_with (refine wpList_store_row rfl 94 _ _ rfl w.heap.size _ rfl rfl 94 zE hm.blk (by exact sizeE) (by rfl) (by simp [Value.oneCell']) ?_)
  exact hm.done rfl rfl rfl
theorem of_54 (w : World) : Calls Tryz.prog 70 #[.int .i64 54] w fun e w' => e = .returned (entV 54 ⟨#[43, 33]⟩ 2 0 3 false 0 0 0 (.func (.func 110) #[] #[])) ∧ Below w.heap.size w w' := by
  obtain ⟨wA, hA, hb, hz⟩ := mk w
  go_enter Tryz.func70, Tryz.ntmps70
  go_wp2_with fail
  refine (row_any _ _ _ _ _ _).mono ?_
  rintro e w1 ⟨rfl, h1⟩
  have hm := Made.of hb hz h1
  unfold rowV
  go_wp2_with (refine wpList_store_row rfl 94 _ _ rfl w.heap.size _ rfl rfl 94 zE hm.blk (by exact sizeE) (by rfl) (by simp [Value.oneCell']) ?_)
  exact hm.done rfl rfl rfl
theorem ent_54 (w : World) : Calls Tryz.prog 45 #[.int .i64 54] w fun e w' => e = .returned (entV 54 ⟨#[43, 33]⟩ 2 0 3 false 0 0 0 (.func (.func 110) #[] #[])) ∧ Below w.heap.size w w' := by
  obtain ⟨wA, hA, hb, hz⟩ := mk w
  go_enter Tryz.func45, Tryz.ntmps45
  go_wp2_with fail
  refine (of_54 _).mono ?_
  rintro e w1 ⟨rfl, h1⟩
  have hm := Made.of hb hz h1
  unfold entV
  go_wp2_with (refine wpList_store_row rfl 94 _ _ rfl w.heap.size _ rfl rfl 94 zE hm.blk (by exact sizeE) (by rfl) (by simp [Value.oneCell']) ?_)
  exact hm.done rfl rfl rfl
theorem of_55 (w : World) : Calls Tryz.prog 71 #[.int .i64 55] w fun e w' => e = .returned (entV 55 ⟨#[62, 114]⟩ 1 0 1 false 0 0 1 (.func (.func 111) #[] #[])) ∧ Below w.heap.size w w' := by
  obtain ⟨wA, hA, hb, hz⟩ := mk w
  go_enter Tryz.func71, Tryz.ntmps71
  go_wp2_with fail
  refine (row_any _ _ _ _ _ _).mono ?_
  rintro e w1 ⟨rfl, h1⟩
  have hm := Made.of hb hz h1
  unfold rowV
  go_wp2_with (refine wpList_store_row rfl 94 _ _ rfl w.heap.size _ rfl rfl 94 zE hm.blk (by exact sizeE) (by rfl) (by simp [Value.oneCell']) ?_)
  exact hm.done rfl rfl rfl
theorem ent_55 (w : World) : Calls Tryz.prog 45 #[.int .i64 55] w fun e w' => e = .returned (entV 55 ⟨#[62, 114]⟩ 1 0 1 false 0 0 1 (.func (.func 111) #[] #[])) ∧ Below w.heap.size w w' := by
  obtain ⟨wA, hA, hb, hz⟩ := mk w
  go_enter Tryz.func45, Tryz.ntmps45
  go_wp2_with fail
  refine (of_55 _).mono ?_
  rintro e w1 ⟨rfl, h1⟩
  have hm := Made.of hb hz h1
  unfold entV
  go_wp2_with (refine wpList_store_row rfl 94 _ _ rfl w.heap.size _ rfl rfl 94 zE hm.blk (by exact sizeE) (by rfl) (by simp [Value.oneCell']) ?_)
  exact hm.done rfl rfl rfl
theorem of_56 (w : World) : Calls Tryz.prog 71 #[.int .i64 56] w fun e w' => e = .returned (entV 56 ⟨#[114, 62]⟩ 0 1 1 false 4 0 0 (.func (.func 112) #[] #[])) ∧ Below w.heap.size w w' := by
  obtain ⟨wA, hA, hb, hz⟩ := mk w
  go_enter Tryz.func71, Tryz.ntmps71
  go_wp2_with fail
  refine (row_any _ _ _ _ _ _).mono ?_
  rintro e w1 ⟨rfl, h1⟩
  have hm := Made.of hb hz h1
  unfold rowV
  go_wp2_with (refine wpList_store_row rfl 94 _ _ rfl w.heap.size _ rfl rfl 94 zE hm.blk (by exact sizeE) (by rfl) (by simp [Value.oneCell']) ?_)
  exact hm.done rfl rfl rfl
theorem ent_56 (w : World) : Calls Tryz.prog 45 #[.int .i64 56] w fun e w' => e = .returned (entV 56 ⟨#[114, 62]⟩ 0 1 1 false 4 0 0 (.func (.func 112) #[] #[])) ∧ Below w.heap.size w w' := by
  obtain ⟨wA, hA, hb, hz⟩ := mk w
  go_enter Tryz.func45, Tryz.ntmps45
  go_wp2_with fail
  refine (of_56 _).mono ?_
  rintro e w1 ⟨rfl, h1⟩
  have hm := Made.of hb hz h1
  unfold entV
  go_wp2_with (refine wpList_store_row rfl 94 _ _ rfl w.heap.size _ rfl rfl 94 zE hm.blk (by exact sizeE) (by rfl) (by simp [Value.oneCell']) ?_)
  exact hm.done rfl rfl rfl
theorem of_57 (w : World) : Calls Tryz.prog 71 #[.int .i64 57] w fun e w' => e = .returned (entV 57 ⟨#[114, 64]⟩ 0 1 1 false 4 0 0 (.func (.func 130) #[] #[])) ∧ Below w.heap.size w w' := by
  obtain ⟨wA, hA, hb, hz⟩ := mk w
  go_enter Tryz.func71, Tryz.ntmps71
  go_wp2_with fail
  refine (peek_any _ _ _ _ _).mono ?_
  rintro e w1 ⟨rfl, h1⟩
  have hm := Made.of hb hz h1
  unfold entV
  go_wp2_with (refine wpList_store_row rfl 94 _ _ rfl w.heap.size _ rfl rfl 94 zE hm.blk (by exact sizeE) (by rfl) (by simp [Value.oneCell']) ?_)
  exact hm.done rfl rfl rfl
theorem ent_57 (w : World) : Calls Tryz.prog 45 #[.int .i64 57] w fun e w' => e = .returned (entV 57 ⟨#[114, 64]⟩ 0 1 1 false 4 0 0 (.func (.func 130) #[] #[])) ∧ Below w.heap.size w w' := by
  obtain ⟨wA, hA, hb, hz⟩ := mk w
  go_enter Tryz.func45, Tryz.ntmps45
  go_wp2_with fail
  refine (of_57 _).mono ?_
  rintro e w1 ⟨rfl, h1⟩
  have hm := Made.of hb hz h1
  unfold entV
  go_wp2_with (refine wpList_store_row rfl 94 _ _ rfl w.heap.size _ rfl rfl 94 zE hm.blk (by exact sizeE) (by rfl) (by simp [Value.oneCell']) ?_)
  exact hm.done rfl rfl rfl
theorem of_58 (w : World) : Calls Tryz.prog 71 #[.int .i64 58] w fun e w' => e = .returned (entV 58 ⟨#[105]⟩ 0 1 1 false 3 0 0 (.func (.func 130) #[] #[])) ∧ Below w.heap.size w w' := by
  obtain ⟨wA, hA, hb, hz⟩ := mk w
  go_enter Tryz.func71, Tryz.ntmps71
  go_wp2_with fail
  refine (peek_any _ _ _ _ _).mono ?_
  rintro e w1 ⟨rfl, h1⟩
  have hm := Made.of hb hz h1
  unfold entV
  go_wp2_with (refine wpList_store_row rfl 94 _ _ rfl w.heap.size _ rfl rfl 94 zE hm.blk (by exact sizeE) (by rfl) (by simp [Value.oneCell']) ?_)
  exact hm.done rfl rfl rfl
theorem ent_58 (w : World) : Calls Tryz.prog 45 #[.int .i64 58] w fun e w' => e = .returned (entV 58 ⟨#[105]⟩ 0 1 1 false 3 0 0 (.func (.func 130) #[] #[])) ∧ Below w.heap.size w w' := by
  obtain ⟨wA, hA, hb, hz⟩ := mk w
  go_enter Tryz.func45, Tryz.ntmps45
  go_wp2_with fail
  refine (of_58 _).mono ?_
  rintro e w1 ⟨rfl, h1⟩
  have hm := Made.of hb hz h1
  unfold entV
  go_wp2_with (refine wpList_store_row rfl 94 _ _ rfl w.heap.size _ rfl rfl 94 zE hm.blk (by exact sizeE) (by rfl) (by simp [Value.oneCell']) ?_)
  exact hm.done rfl rfl rfl
theorem of_59 (w : World) : Calls Tryz.prog 71 #[.int .i64 59] w fun e w' => e = .returned (entV 59 ⟨#[106]⟩ 0 1 1 false 3 2 0 (.func (.func 130) #[] #[])) ∧ Below w.heap.size w w' := by
  obtain ⟨wA, hA, hb, hz⟩ := mk w
  go_enter Tryz.func71, Tryz.ntmps71
  go_wp2_with fail
  refine (peek_any _ _ _ _ _).mono ?_
  rintro e w1 ⟨rfl, h1⟩
  have hm := Made.of hb hz h1
  unfold entV
  go_wp2_with (refine wpList_store_row rfl 94 _ _ rfl w.heap.size _ rfl rfl 94 zE hm.blk (by exact sizeE) (by rfl) (by simp [Value.oneCell']) ?_)
  exact hm.done rfl rfl rfl
theorem ent_59 (w : World) : Calls Tryz.prog 45 #[.int .i64 59] w fun e w' => e = .returned (entV 59 ⟨#[106]⟩ 0 1 1 false 3 2 0 (.func (.func 130) #[] #[])) ∧ Below w.heap.size w w' := by
  obtain ⟨wA, hA, hb, hz⟩ := mk w
  go_enter Tryz.func45, Tryz.ntmps45
  go_wp2_with fail
  refine (of_59 _).mono ?_
  rintro e w1 ⟨rfl, h1⟩
  have hm := Made.of hb hz h1
  unfold entV
  go_wp2_with (refine wpList_store_row rfl 94 _ _ rfl w.heap.size _ rfl rfl 94 zE hm.blk (by exact sizeE) (by rfl) (by simp [Value.oneCell']) ?_)
  exact hm.done rfl rfl rfl
theorem of_60 (w : World) : Calls Tryz.prog 72 #[.int .i64 60] w fun e w' => e = .returned (entV 60 ⟨#[112, 108, 111, 116]⟩ 3 0 3 false 0 0 0 (.func (.func 115) #[] #[])) ∧ Below w.heap.size w w' := by
  obtain ⟨wA, hA, hb, hz⟩ := mk w
  go_enter Tryz.func72, Tryz.ntmps72
  go_wp2_with fail
  refine (row_any _ _ _ _ _ _).mono ?_
  rintro e w1 ⟨rfl, h1⟩
  have hm := Made.of hb hz h1
  unfold rowV
  go_wp2_with (refine wpList_store_row rfl 94 _ _ rfl w.heap.size _ rfl rfl 94 zE hm.blk (by exact sizeE) (by rfl) (by simp [Value.oneCell']) ?_)
  exact hm.done rfl rfl rfl
theorem ent_60 (w : World) : Calls Tryz.prog 45 #[.int .i64 60] w fun e w' => e = .returned (entV 60 ⟨#[112, 108, 111, 116]⟩ 3 0 3 false 0 0 0 (.func (.func 115) #[] #[])) ∧ Below w.heap.size w w' := by
  obtain ⟨wA, hA, hb, hz⟩ := mk w
  go_enter Tryz.func45, Tryz.ntmps45
  go_wp2_with fail
  refine (of_60 _).mono ?_
  rintro e w1 ⟨rfl, h1⟩
  have hm := Made.of hb hz h1
  unfold entV
  go_wp2_with (refine wpList_store_row rfl 94 _ _ rfl w.heap.size _ rfl rfl 94 zE hm.blk (by exact sizeE) (by rfl) (by simp [Value.oneCell']) ?_)
  exact hm.done rfl rfl rfl
theorem of_61 (w : World) : Calls Tryz.prog 72 #[.int .i64 61] w fun e w' => e = .returned (entV 61 ⟨#[112, 97, 100]⟩ 0 1 1 false 0 0 0 (.func (.func 117) #[] #[])) ∧ Below w.heap.size w w' := by
  obtain ⟨wA, hA, hb, hz⟩ := mk w
  go_enter Tryz.func72, Tryz.ntmps72
  go_wp2_with fail
  refine (row_any _ _ _ _ _ _).mono ?_
  rintro e w1 ⟨rfl, h1⟩
  have hm := Made.of hb hz h1
  unfold rowV
  go_wp2_with (refine wpList_store_row rfl 94 _ _ rfl w.heap.size _ rfl rfl 94 zE hm.blk (by exact sizeE) (by rfl) (by simp [Value.oneCell']) ?_)
  exact hm.done rfl rfl rfl
theorem ent_61 (w : World) : Calls Tryz.prog 45 #[.int .i64 61] w fun e w' => e = .returned (entV 61 ⟨#[112, 97, 100]⟩ 0 1 1 false 0 0 0 (.func (.func 117) #[] #[])) ∧ Below w.heap.size w w' := by
  obtain ⟨wA, hA, hb, hz⟩ := mk w
  go_enter Tryz.func45, Tryz.ntmps45
  go_wp2_with fail
  refine (of_61 _).mono ?_
  rintro e w1 ⟨rfl, h1⟩
  have hm := Made.of hb hz h1
  unfold entV
  go_wp2_with (refine wpList_store_row rfl 94 _ _ rfl w.heap.size _ rfl rfl 94 zE hm.blk (by exact sizeE) (by rfl) (by simp [Value.oneCell']) ?_)
  exact hm.done rfl rfl rfl
theorem of_62 (w : World) : Calls Tryz.prog 72 #[.int .i64 62] w fun e w' => e = .returned (entV 62 ⟨#[116, 111, 110, 101]⟩ 2 0 2 false 0 0 0 (.func (.func 119) #[] #[])) ∧ Below w.heap.size w w' := by
  obtain ⟨wA, hA, hb, hz⟩ := mk w
  go_enter Tryz.func72, Tryz.ntmps72
  go_wp2_with fail
  refine (row_any _ _ _ _ _ _).mono ?_
  rintro e w1 ⟨rfl, h1⟩
  have hm := Made.of hb hz h1
  unfold rowV
  go_wp2_with (refine wpList_store_row rfl 94 _ _ rfl w.heap.size _ rfl rfl 94 zE hm.blk (by exact sizeE) (by rfl) (by simp [Value.oneCell']) ?_)
  exact hm.done rfl rfl rfl
theorem ent_62 (w : World) : Calls Tryz.prog 45 #[.int .i64 62] w fun e w' => e = .returned (entV 62 ⟨#[116, 111, 110, 101]⟩ 2 0 2 false 0 0 0 (.func (.func 119) #[] #[])) ∧ Below w.heap.size w w' := by
  obtain ⟨wA, hA, hb, hz⟩ := mk w
  go_enter Tryz.func45, Tryz.ntmps45
  go_wp2_with fail
  refine (of_62 _).mono ?_
  rintro e w1 ⟨rfl, h1⟩
  have hm := Made.of hb hz h1
  unfold entV
  go_wp2_with (refine wpList_store_row rfl 94 _ _ rfl w.heap.size _ rfl rfl 94 zE hm.blk (by exact sizeE) (by rfl) (by simp [Value.oneCell']) ?_)
  exact hm.done rfl rfl rfl
theorem of_63 (w : World) : Calls Tryz.prog 72 #[.int .i64 63] w fun e w' => e = .returned (entV 63 ⟨#[98, 97, 110, 107]⟩ 1 0 1 false 0 0 0 (.func (.func 121) #[] #[])) ∧ Below w.heap.size w w' := by
  obtain ⟨wA, hA, hb, hz⟩ := mk w
  go_enter Tryz.func72, Tryz.ntmps72
  go_wp2_with fail
  refine (row_any _ _ _ _ _ _).mono ?_
  rintro e w1 ⟨rfl, h1⟩
  have hm := Made.of hb hz h1
  unfold rowV
  go_wp2_with (refine wpList_store_row rfl 94 _ _ rfl w.heap.size _ rfl rfl 94 zE hm.blk (by exact sizeE) (by rfl) (by simp [Value.oneCell']) ?_)
  exact hm.done rfl rfl rfl
theorem ent_63 (w : World) : Calls Tryz.prog 45 #[.int .i64 63] w fun e w' => e = .returned (entV 63 ⟨#[98, 97, 110, 107]⟩ 1 0 1 false 0 0 0 (.func (.func 121) #[] #[])) ∧ Below w.heap.size w w' := by
  obtain ⟨wA, hA, hb, hz⟩ := mk w
  go_enter Tryz.func45, Tryz.ntmps45
  go_wp2_with fail
  refine (of_63 _).mono ?_
  rintro e w1 ⟨rfl, h1⟩
  have hm := Made.of hb hz h1
  unfold entV
  go_wp2_with (refine wpList_store_row rfl 94 _ _ rfl w.heap.size _ rfl rfl 94 zE hm.blk (by exact sizeE) (by rfl) (by simp [Value.oneCell']) ?_)
  exact hm.done rfl rfl rfl
end Go.Proofs.YtgponcjjnjpfkaaGreat.P
