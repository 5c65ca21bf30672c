import Derived.Test.YtgponcjjnjpfkaaGreatG7
import Derived.Laws.ResultCell
import Derived.Maps.AppendAt
import Derived.Laws.EntriesVeiled
/-! The reference's table. -/
namespace Go.Proofs.YtgponcjjnjpfkaaGreat.L
open Go.RowKit
open Go.Proofs
open P
set_option linter.unusedVariables false
set_option linter.unusedSimpArgs false
set_option maxHeartbeats 2000000
set_option maxRecDepth 100000
theorem rl_1 (w : World) : Calls Tryz.prog 77 #[.int .i64 1] w fun e w' => e = .returned (rowV 1 ⟨#[]⟩ 0 0 2 false) ∧ Below w.heap.size w w' := by
  go_enter Tryz.func77, Tryz.ntmps77
  go_wp2
  exact bodyPost_ret (v := rowV 1 ⟨#[]⟩ 0 0 2 false) (by simp [results, Tryz.results77, go_sem, rowV]) rfl ⟨rfl, bel_alloc w _⟩
theorem rl_2 (w : World) : Calls Tryz.prog 77 #[.int .i64 2] w fun e w' => e = .returned (rowV 2 ⟨#[]⟩ 0 1 2 false) ∧ Below w.heap.size w w' := by
  go_enter Tryz.func77, Tryz.ntmps77
  go_wp2
  exact bodyPost_ret (v := rowV 2 ⟨#[]⟩ 0 1 2 false) (by simp [results, Tryz.results77, go_sem, rowV]) rfl ⟨rfl, bel_alloc w _⟩
theorem rl_3 (w : World) : Calls Tryz.prog 77 #[.int .i64 3] w fun e w' => e = .returned (rowV 3 ⟨#[]⟩ 0 1 2 true) ∧ Below w.heap.size w w' := by
  go_enter Tryz.func77, Tryz.ntmps77
  go_wp2
  exact bodyPost_ret (v := rowV 3 ⟨#[]⟩ 0 1 2 true) (by simp [results, Tryz.results77, go_sem, rowV]) rfl ⟨rfl, bel_alloc w _⟩
theorem rl_4 (w : World) : Calls Tryz.prog 77 #[.int .i64 4] w fun e w' => e = .returned (rowV 4 ⟨#[]⟩ 0 0 2 true) ∧ Below w.heap.size w w' := by
  go_enter Tryz.func77, Tryz.ntmps77
  go_wp2
  exact bodyPost_ret (v := rowV 4 ⟨#[]⟩ 0 0 2 true) (by simp [results, Tryz.results77, go_sem, rowV]) rfl ⟨rfl, bel_alloc w _⟩
theorem rl_5 (w : World) : Calls Tryz.prog 77 #[.int .i64 5] w fun e w' => e = .returned (rowV 5 ⟨#[]⟩ 1 0 2 true) ∧ Below w.heap.size w w' := by
  go_enter Tryz.func77, Tryz.ntmps77
  go_wp2
  exact bodyPost_ret (v := rowV 5 ⟨#[]⟩ 1 0 2 true) (by simp [results, Tryz.results77, go_sem, rowV]) rfl ⟨rfl, bel_alloc w _⟩
theorem rl_6 (w : World) : Calls Tryz.prog 77 #[.int .i64 6] w fun e w' => e = .returned (rowV 6 ⟨#[]⟩ 2 0 3 false) ∧ Below w.heap.size w w' := by
  go_enter Tryz.func77, Tryz.ntmps77
  go_wp2
  exact bodyPost_ret (v := rowV 6 ⟨#[]⟩ 2 0 3 false) (by simp [results, Tryz.results77, go_sem, rowV]) rfl ⟨rfl, bel_alloc w _⟩
theorem rl_7 (w : World) : Calls Tryz.prog 77 #[.int .i64 7] w fun e w' => e = .returned (rowV 7 ⟨#[]⟩ 0 0 3 true) ∧ Below w.heap.size w w' := by
  go_enter Tryz.func77, Tryz.ntmps77
  go_wp2
  exact bodyPost_ret (v := rowV 7 ⟨#[]⟩ 0 0 3 true) (by simp [results, Tryz.results77, go_sem, rowV]) rfl ⟨rfl, bel_alloc w _⟩
theorem rl_8 (w : World) : Calls Tryz.prog 77 #[.int .i64 8] w fun e w' => e = .returned (rowV 8 ⟨#[]⟩ 0 0 2 false) ∧ Below w.heap.size w w' := by
  go_enter Tryz.func77, Tryz.ntmps77
  go_wp2
  exact bodyPost_ret (v := rowV 8 ⟨#[]⟩ 0 0 2 false) (by simp [results, Tryz.results77, go_sem, rowV]) rfl ⟨rfl, bel_alloc w _⟩
theorem rl_9 (w : World) : Calls Tryz.prog 77 #[.int .i64 9] w fun e w' => e = .returned (rowV 9 ⟨#[110, 111, 112]⟩ 0 0 1 false) ∧ Below w.heap.size w w' := by
  go_enter Tryz.func77, Tryz.ntmps77
  go_wp2
  exact bodyPost_ret (v := rowV 9 ⟨#[110, 111, 112]⟩ 0 0 1 false) (by simp [results, Tryz.results77, go_sem, rowV]) rfl ⟨rfl, bel_alloc w _⟩
theorem rl_10 (w : World) : Calls Tryz.prog 77 #[.int .i64 10] w fun e w' => e = .returned (rowV 10 ⟨#[121, 105, 101, 108, 100]⟩ 0 0 1 false) ∧ Below w.heap.size w w' := by
  go_enter Tryz.func77, Tryz.ntmps77
  go_wp2
  exact bodyPost_ret (v := rowV 10 ⟨#[121, 105, 101, 108, 100]⟩ 0 0 1 false) (by simp [results, Tryz.results77, go_sem, rowV]) rfl ⟨rfl, bel_alloc w _⟩
theorem rl_11 (w : World) : Calls Tryz.prog 77 #[.int .i64 11] w fun e w' => e = .returned (rowV 11 ⟨#[104, 97, 108, 116]⟩ 0 0 1 false) ∧ Below w.heap.size w w' := by
  go_enter Tryz.func77, Tryz.ntmps77
  go_wp2
  exact bodyPost_ret (v := rowV 11 ⟨#[104, 97, 108, 116]⟩ 0 0 1 false) (by simp [results, Tryz.results77, go_sem, rowV]) rfl ⟨rfl, bel_alloc w _⟩
theorem rl_12 (w : World) : Calls Tryz.prog 77 #[.int .i64 12] w fun e w' => e = .returned (rowV 12 ⟨#[100, 117, 112]⟩ 1 2 1 false) ∧ Below w.heap.size w w' := by
  go_enter Tryz.func77, Tryz.ntmps77
  go_wp2
  exact bodyPost_ret (v := rowV 12 ⟨#[100, 117, 112]⟩ 1 2 1 false) (by simp [results, Tryz.results77, go_sem, rowV]) rfl ⟨rfl, bel_alloc w _⟩
theorem rl_13 (w : World) : Calls Tryz.prog 77 #[.int .i64 13] w fun e w' => e = .returned (rowV 13 ⟨#[100, 114, 111, 112]⟩ 1 0 1 false) ∧ Below w.heap.size w w' := by
  go_enter Tryz.func77, Tryz.ntmps77
  go_wp2
  exact bodyPost_ret (v := rowV 13 ⟨#[100, 114, 111, 112]⟩ 1 0 1 false) (by simp [results, Tryz.results77, go_sem, rowV]) rfl ⟨rfl, bel_alloc w _⟩
theorem rl_14 (w : World) : Calls Tryz.prog 77 #[.int .i64 14] w fun e w' => e = .returned (rowV 14 ⟨#[115, 119, 97, 112]⟩ 2 2 1 false) ∧ Below w.heap.size w w' := by
  go_enter Tryz.func77, Tryz.ntmps77
  go_wp2
  exact bodyPost_ret (v := rowV 14 ⟨#[115, 119, 97, 112]⟩ 2 2 1 false) (by simp [results, Tryz.results77, go_sem, rowV]) rfl ⟨rfl, bel_alloc w _⟩
theorem rl_15 (w : World) : Calls Tryz.prog 77 #[.int .i64 15] w fun e w' => e = .returned (rowV 15 ⟨#[111, 118, 101, 114]⟩ 2 3 1 false) ∧ Below w.heap.size w w' := by
  go_enter Tryz.func77, Tryz.ntmps77
  go_wp2
  exact bodyPost_ret (v := rowV 15 ⟨#[111, 118, 101, 114]⟩ 2 3 1 false) (by simp [results, Tryz.results77, go_sem, rowV]) rfl ⟨rfl, bel_alloc w _⟩
theorem rl_16 (w : World) : Calls Tryz.prog 77 #[.int .i64 16] w fun e w' => e = .returned (rowV 16 ⟨#[114, 111, 116]⟩ 3 3 1 false) ∧ Below w.heap.size w w' := by
  go_enter Tryz.func77, Tryz.ntmps77
  go_wp2
  exact bodyPost_ret (v := rowV 16 ⟨#[114, 111, 116]⟩ 3 3 1 false) (by simp [results, Tryz.results77, go_sem, rowV]) rfl ⟨rfl, bel_alloc w _⟩
theorem rl_17 (w : World) : Calls Tryz.prog 77 #[.int .i64 17] w fun e w' => e = .returned (rowV 17 ⟨#[110, 105, 112]⟩ 2 1 1 false) ∧ Below w.heap.size w w' := by
  go_enter Tryz.func77, Tryz.ntmps77
  go_wp2
  exact bodyPost_ret (v := rowV 17 ⟨#[110, 105, 112]⟩ 2 1 1 false) (by simp [results, Tryz.results77, go_sem, rowV]) rfl ⟨rfl, bel_alloc w _⟩
theorem rl_18 (w : World) : Calls Tryz.prog 77 #[.int .i64 18] w fun e w' => e = .returned (rowV 18 ⟨#[116, 117, 99, 107]⟩ 2 3 1 false) ∧ Below w.heap.size w w' := by
  go_enter Tryz.func77, Tryz.ntmps77
  go_wp2
  exact bodyPost_ret (v := rowV 18 ⟨#[116, 117, 99, 107]⟩ 2 3 1 false) (by simp [results, Tryz.results77, go_sem, rowV]) rfl ⟨rfl, bel_alloc w _⟩
theorem rl_19 (w : World) : Calls Tryz.prog 77 #[.int .i64 19] w fun e w' => e = .returned (rowV 19 ⟨#[50, 100, 117, 112]⟩ 2 4 2 false) ∧ Below w.heap.size w w' := by
  go_enter Tryz.func77, Tryz.ntmps77
  go_wp2
  exact bodyPost_ret (v := rowV 19 ⟨#[50, 100, 117, 112]⟩ 2 4 2 false) (by simp [results, Tryz.results77, go_sem, rowV]) rfl ⟨rfl, bel_alloc w _⟩
theorem rl_20 (w : World) : Calls Tryz.prog 77 #[.int .i64 20] w fun e w' => e = .returned (rowV 20 ⟨#[50, 100, 114, 111, 112]⟩ 2 0 1 false) ∧ Below w.heap.size w w' := by
  go_enter Tryz.func77, Tryz.ntmps77
  go_wp2
  exact bodyPost_ret (v := rowV 20 ⟨#[50, 100, 114, 111, 112]⟩ 2 0 1 false) (by simp [results, Tryz.results77, go_sem, rowV]) rfl ⟨rfl, bel_alloc w _⟩
end Go.Proofs.YtgponcjjnjpfkaaGreat.L
/-! The reference's table. -/
namespace Go.Proofs.YtgponcjjnjpfkaaGreat.L
open Go.RowKit
open Go.Proofs
open P
set_option linter.unusedVariables false
set_option linter.unusedSimpArgs false
set_option maxHeartbeats 2000000
set_option maxRecDepth 100000
theorem rl_21 (w : World) : Calls Tryz.prog 78 #[.int .i64 21] w fun e w' => e = .returned (rowV 21 ⟨#[43]⟩ 2 1 1 false) ∧ Below w.heap.size w w' := by
  go_enter Tryz.func78, Tryz.ntmps78
  go_wp2
  exact bodyPost_ret (v := rowV 21 ⟨#[43]⟩ 2 1 1 false) (by simp [results, Tryz.results78, go_sem, rowV]) rfl ⟨rfl, bel_alloc w _⟩
theorem rl_22 (w : World) : Calls Tryz.prog 78 #[.int .i64 22] w fun e w' => e = .returned (rowV 22 ⟨#[45]⟩ 2 1 1 false) ∧ Below w.heap.size w w' := by
  go_enter Tryz.func78, Tryz.ntmps78
  go_wp2
  exact bodyPost_ret (v := rowV 22 ⟨#[45]⟩ 2 1 1 false) (by simp [results, Tryz.results78, go_sem, rowV]) rfl ⟨rfl, bel_alloc w _⟩
theorem rl_23 (w : World) : Calls Tryz.prog 78 #[.int .i64 23] w fun e w' => e = .returned (rowV 23 ⟨#[42]⟩ 2 1 3 false) ∧ Below w.heap.size w w' := by
  go_enter Tryz.func78, Tryz.ntmps78
  go_wp2
  exact bodyPost_ret (v := rowV 23 ⟨#[42]⟩ 2 1 3 false) (by simp [results, Tryz.results78, go_sem, rowV]) rfl ⟨rfl, bel_alloc w _⟩
theorem rl_24 (w : World) : Calls Tryz.prog 78 #[.int .i64 24] w fun e w' => e = .returned (rowV 24 ⟨#[47]⟩ 2 1 4 false) ∧ Below w.heap.size w w' := by
  go_enter Tryz.func78, Tryz.ntmps78
  go_wp2
  exact bodyPost_ret (v := rowV 24 ⟨#[47]⟩ 2 1 4 false) (by simp [results, Tryz.results78, go_sem, rowV]) rfl ⟨rfl, bel_alloc w _⟩
theorem rl_25 (w : World) : Calls Tryz.prog 78 #[.int .i64 25] w fun e w' => e = .returned (rowV 25 ⟨#[109, 111, 100]⟩ 2 1 4 false) ∧ Below w.heap.size w w' := by
  go_enter Tryz.func78, Tryz.ntmps78
  go_wp2
  exact bodyPost_ret (v := rowV 25 ⟨#[109, 111, 100]⟩ 2 1 4 false) (by simp [results, Tryz.results78, go_sem, rowV]) rfl ⟨rfl, bel_alloc w _⟩
theorem rl_26 (w : World) : Calls Tryz.prog 78 #[.int .i64 26] w fun e w' => e = .returned (rowV 26 ⟨#[117, 47]⟩ 2 1 4 false) ∧ Below w.heap.size w w' := by
  go_enter Tryz.func78, Tryz.ntmps78
  go_wp2
  exact bodyPost_ret (v := rowV 26 ⟨#[117, 47]⟩ 2 1 4 false) (by simp [results, Tryz.results78, go_sem, rowV]) rfl ⟨rfl, bel_alloc w _⟩
theorem rl_27 (w : World) : Calls Tryz.prog 78 #[.int .i64 27] w fun e w' => e = .returned (rowV 27 ⟨#[117, 109, 111, 100]⟩ 2 1 4 false) ∧ Below w.heap.size w w' := by
  go_enter Tryz.func78, Tryz.ntmps78
  go_wp2
  exact bodyPost_ret (v := rowV 27 ⟨#[117, 109, 111, 100]⟩ 2 1 4 false) (by simp [results, Tryz.results78, go_sem, rowV]) rfl ⟨rfl, bel_alloc w _⟩
theorem rl_28 (w : World) : Calls Tryz.prog 78 #[.int .i64 28] w fun e w' => e = .returned (rowV 28 ⟨#[110, 101, 103, 97, 116, 101]⟩ 1 1 1 false) ∧ Below w.heap.size w w' := by
  go_enter Tryz.func78, Tryz.ntmps78
  go_wp2
  exact bodyPost_ret (v := rowV 28 ⟨#[110, 101, 103, 97, 116, 101]⟩ 1 1 1 false) (by simp [results, Tryz.results78, go_sem, rowV]) rfl ⟨rfl, bel_alloc w _⟩
theorem rl_29 (w : World) : Calls Tryz.prog 78 #[.int .i64 29] w fun e w' => e = .returned (rowV 29 ⟨#[97, 98, 115]⟩ 1 1 1 false) ∧ Below w.heap.size w w' := by
  go_enter Tryz.func78, Tryz.ntmps78
  go_wp2
  exact bodyPost_ret (v := rowV 29 ⟨#[97, 98, 115]⟩ 1 1 1 false) (by simp [results, Tryz.results78, go_sem, rowV]) rfl ⟨rfl, bel_alloc w _⟩
theorem rl_30 (w : World) : Calls Tryz.prog 78 #[.int .i64 30] w fun e w' => e = .returned (rowV 30 ⟨#[109, 105, 110]⟩ 2 1 1 false) ∧ Below w.heap.size w w' := by
  go_enter Tryz.func78, Tryz.ntmps78
  go_wp2
  exact bodyPost_ret (v := rowV 30 ⟨#[109, 105, 110]⟩ 2 1 1 false) (by simp [results, Tryz.results78, go_sem, rowV]) rfl ⟨rfl, bel_alloc w _⟩
theorem rl_31 (w : World) : Calls Tryz.prog 78 #[.int .i64 31] w fun e w' => e = .returned (rowV 31 ⟨#[109, 97, 120]⟩ 2 1 1 false) ∧ Below w.heap.size w w' := by
  go_enter Tryz.func78, Tryz.ntmps78
  go_wp2
  exact bodyPost_ret (v := rowV 31 ⟨#[109, 97, 120]⟩ 2 1 1 false) (by simp [results, Tryz.results78, go_sem, rowV]) rfl ⟨rfl, bel_alloc w _⟩
theorem rl_32 (w : World) : Calls Tryz.prog 78 #[.int .i64 32] w fun e w' => e = .returned (rowV 32 ⟨#[49, 43]⟩ 1 1 1 false) ∧ Below w.heap.size w w' := by
  go_enter Tryz.func78, Tryz.ntmps78
  go_wp2
  exact bodyPost_ret (v := rowV 32 ⟨#[49, 43]⟩ 1 1 1 false) (by simp [results, Tryz.results78, go_sem, rowV]) rfl ⟨rfl, bel_alloc w _⟩
theorem rl_33 (w : World) : Calls Tryz.prog 78 #[.int .i64 33] w fun e w' => e = .returned (rowV 33 ⟨#[49, 45]⟩ 1 1 1 false) ∧ Below w.heap.size w w' := by
  go_enter Tryz.func78, Tryz.ntmps78
  go_wp2
  exact bodyPost_ret (v := rowV 33 ⟨#[49, 45]⟩ 1 1 1 false) (by simp [results, Tryz.results78, go_sem, rowV]) rfl ⟨rfl, bel_alloc w _⟩
theorem rl_34 (w : World) : Calls Tryz.prog 78 #[.int .i64 34] w fun e w' => e = .returned (rowV 34 ⟨#[50, 42]⟩ 1 1 1 false) ∧ Below w.heap.size w w' := by
  go_enter Tryz.func78, Tryz.ntmps78
  go_wp2
  exact bodyPost_ret (v := rowV 34 ⟨#[50, 42]⟩ 1 1 1 false) (by simp [results, Tryz.results78, go_sem, rowV]) rfl ⟨rfl, bel_alloc w _⟩
theorem rl_35 (w : World) : Calls Tryz.prog 78 #[.int .i64 35] w fun e w' => e = .returned (rowV 35 ⟨#[50, 47]⟩ 1 1 1 false) ∧ Below w.heap.size w w' := by
  go_enter Tryz.func78, Tryz.ntmps78
  go_wp2
  exact bodyPost_ret (v := rowV 35 ⟨#[50, 47]⟩ 1 1 1 false) (by simp [results, Tryz.results78, go_sem, rowV]) rfl ⟨rfl, bel_alloc w _⟩
theorem rl_36 (w : World) : Calls Tryz.prog 78 #[.int .i64 36] w fun e w' => e = .returned (rowV 36 ⟨#[97, 110, 100]⟩ 2 1 1 false) ∧ Below w.heap.size w w' := by
  go_enter Tryz.func78, Tryz.ntmps78
  go_wp2
  exact bodyPost_ret (v := rowV 36 ⟨#[97, 110, 100]⟩ 2 1 1 false) (by simp [results, Tryz.results78, go_sem, rowV]) rfl ⟨rfl, bel_alloc w _⟩
theorem rl_37 (w : World) : Calls Tryz.prog 78 #[.int .i64 37] w fun e w' => e = .returned (rowV 37 ⟨#[111, 114]⟩ 2 1 1 false) ∧ Below w.heap.size w w' := by
  go_enter Tryz.func78, Tryz.ntmps78
  go_wp2
  exact bodyPost_ret (v := rowV 37 ⟨#[111, 114]⟩ 2 1 1 false) (by simp [results, Tryz.results78, go_sem, rowV]) rfl ⟨rfl, bel_alloc w _⟩
theorem rl_38 (w : World) : Calls Tryz.prog 78 #[.int .i64 38] w fun e w' => e = .returned (rowV 38 ⟨#[120, 111, 114]⟩ 2 1 1 false) ∧ Below w.heap.size w w' := by
  go_enter Tryz.func78, Tryz.ntmps78
  go_wp2
  exact bodyPost_ret (v := rowV 38 ⟨#[120, 111, 114]⟩ 2 1 1 false) (by simp [results, Tryz.results78, go_sem, rowV]) rfl ⟨rfl, bel_alloc w _⟩
theorem rl_39 (w : World) : Calls Tryz.prog 78 #[.int .i64 39] w fun e w' => e = .returned (rowV 39 ⟨#[105, 110, 118, 101, 114, 116]⟩ 1 1 1 false) ∧ Below w.heap.size w w' := by
  go_enter Tryz.func78, Tryz.ntmps78
  go_wp2
  exact bodyPost_ret (v := rowV 39 ⟨#[105, 110, 118, 101, 114, 116]⟩ 1 1 1 false) (by simp [results, Tryz.results78, go_sem, rowV]) rfl ⟨rfl, bel_alloc w _⟩
theorem rl_40 (w : World) : Calls Tryz.prog 78 #[.int .i64 40] w fun e w' => e = .returned (rowV 40 ⟨#[108, 115, 104, 105, 102, 116]⟩ 2 1 1 false) ∧ Below w.heap.size w w' := by
  go_enter Tryz.func78, Tryz.ntmps78
  go_wp2
  exact bodyPost_ret (v := rowV 40 ⟨#[108, 115, 104, 105, 102, 116]⟩ 2 1 1 false) (by simp [results, Tryz.results78, go_sem, rowV]) rfl ⟨rfl, bel_alloc w _⟩
theorem rl_41 (w : World) : Calls Tryz.prog 78 #[.int .i64 41] w fun e w' => e = .returned (rowV 41 ⟨#[114, 115, 104, 105, 102, 116]⟩ 2 1 1 false) ∧ Below w.heap.size w w' := by
  go_enter Tryz.func78, Tryz.ntmps78
  go_wp2
  exact bodyPost_ret (v := rowV 41 ⟨#[114, 115, 104, 105, 102, 116]⟩ 2 1 1 false) (by simp [results, Tryz.results78, go_sem, rowV]) rfl ⟨rfl, bel_alloc w _⟩
end Go.Proofs.YtgponcjjnjpfkaaGreat.L
/-! The reference's table. -/
namespace Go.Proofs.YtgponcjjnjpfkaaGreat.L
open Go.RowKit
open Go.Proofs
open P
set_option linter.unusedVariables false
set_option linter.unusedSimpArgs false
set_option maxHeartbeats 2000000
set_option maxRecDepth 100000
theorem rl_42 (w : World) : Calls Tryz.prog 79 #[.int .i64 42] w fun e w' => e = .returned (rowV 42 ⟨#[61]⟩ 2 1 1 false) ∧ Below w.heap.size w w' := by
  go_enter Tryz.func79, Tryz.ntmps79
  go_wp2
  exact bodyPost_ret (v := rowV 42 ⟨#[61]⟩ 2 1 1 false) (by simp [results, Tryz.results79, go_sem, rowV]) rfl ⟨rfl, bel_alloc w _⟩
theorem rl_43 (w : World) : Calls Tryz.prog 79 #[.int .i64 43] w fun e w' => e = .returned (rowV 43 ⟨#[60, 62]⟩ 2 1 1 false) ∧ Below w.heap.size w w' := by
  go_enter Tryz.func79, Tryz.ntmps79
  go_wp2
  exact bodyPost_ret (v := rowV 43 ⟨#[60, 62]⟩ 2 1 1 false) (by simp [results, Tryz.results79, go_sem, rowV]) rfl ⟨rfl, bel_alloc w _⟩
theorem rl_44 (w : World) : Calls Tryz.prog 79 #[.int .i64 44] w fun e w' => e = .returned (rowV 44 ⟨#[60]⟩ 2 1 1 false) ∧ Below w.heap.size w w' := by
  go_enter Tryz.func79, Tryz.ntmps79
  go_wp2
  exact bodyPost_ret (v := rowV 44 ⟨#[60]⟩ 2 1 1 false) (by simp [results, Tryz.results79, go_sem, rowV]) rfl ⟨rfl, bel_alloc w _⟩
theorem rl_45 (w : World) : Calls Tryz.prog 79 #[.int .i64 45] w fun e w' => e = .returned (rowV 45 ⟨#[62]⟩ 2 1 1 false) ∧ Below w.heap.size w w' := by
  go_enter Tryz.func79, Tryz.ntmps79
  go_wp2
  exact bodyPost_ret (v := rowV 45 ⟨#[62]⟩ 2 1 1 false) (by simp [results, Tryz.results79, go_sem, rowV]) rfl ⟨rfl, bel_alloc w _⟩
theorem rl_46 (w : World) : Calls Tryz.prog 79 #[.int .i64 46] w fun e w' => e = .returned (rowV 46 ⟨#[117, 60]⟩ 2 1 1 false) ∧ Below w.heap.size w w' := by
  go_enter Tryz.func79, Tryz.ntmps79
  go_wp2
  exact bodyPost_ret (v := rowV 46 ⟨#[117, 60]⟩ 2 1 1 false) (by simp [results, Tryz.results79, go_sem, rowV]) rfl ⟨rfl, bel_alloc w _⟩
theorem rl_47 (w : World) : Calls Tryz.prog 79 #[.int .i64 47] w fun e w' => e = .returned (rowV 47 ⟨#[117, 62]⟩ 2 1 1 false) ∧ Below w.heap.size w w' := by
  go_enter Tryz.func79, Tryz.ntmps79
  go_wp2
  exact bodyPost_ret (v := rowV 47 ⟨#[117, 62]⟩ 2 1 1 false) (by simp [results, Tryz.results79, go_sem, rowV]) rfl ⟨rfl, bel_alloc w _⟩
theorem rl_48 (w : World) : Calls Tryz.prog 79 #[.int .i64 48] w fun e w' => e = .returned (rowV 48 ⟨#[48, 61]⟩ 1 1 1 false) ∧ Below w.heap.size w w' := by
  go_enter Tryz.func79, Tryz.ntmps79
  go_wp2
  exact bodyPost_ret (v := rowV 48 ⟨#[48, 61]⟩ 1 1 1 false) (by simp [results, Tryz.results79, go_sem, rowV]) rfl ⟨rfl, bel_alloc w _⟩
theorem rl_49 (w : World) : Calls Tryz.prog 79 #[.int .i64 49] w fun e w' => e = .returned (rowV 49 ⟨#[48, 60]⟩ 1 1 1 false) ∧ Below w.heap.size w w' := by
  go_enter Tryz.func79, Tryz.ntmps79
  go_wp2
  exact bodyPost_ret (v := rowV 49 ⟨#[48, 60]⟩ 1 1 1 false) (by simp [results, Tryz.results79, go_sem, rowV]) rfl ⟨rfl, bel_alloc w _⟩
theorem rl_50 (w : World) : Calls Tryz.prog 79 #[.int .i64 50] w fun e w' => e = .returned (rowV 50 ⟨#[64]⟩ 1 1 2 false) ∧ Below w.heap.size w w' := by
  go_enter Tryz.func79, Tryz.ntmps79
  go_wp2
  exact bodyPost_ret (v := rowV 50 ⟨#[64]⟩ 1 1 2 false) (by simp [results, Tryz.results79, go_sem, rowV]) rfl ⟨rfl, bel_alloc w _⟩
theorem rl_51 (w : World) : Calls Tryz.prog 79 #[.int .i64 51] w fun e w' => e = .returned (rowV 51 ⟨#[33]⟩ 2 0 2 false) ∧ Below w.heap.size w w' := by
  go_enter Tryz.func79, Tryz.ntmps79
  go_wp2
  exact bodyPost_ret (v := rowV 51 ⟨#[33]⟩ 2 0 2 false) (by simp [results, Tryz.results79, go_sem, rowV]) rfl ⟨rfl, bel_alloc w _⟩
theorem rl_52 (w : World) : Calls Tryz.prog 79 #[.int .i64 52] w fun e w' => e = .returned (rowV 52 ⟨#[99, 64]⟩ 1 1 2 false) ∧ Below w.heap.size w w' := by
  go_enter Tryz.func79, Tryz.ntmps79
  go_wp2
  exact bodyPost_ret (v := rowV 52 ⟨#[99, 64]⟩ 1 1 2 false) (by simp [results, Tryz.results79, go_sem, rowV]) rfl ⟨rfl, bel_alloc w _⟩
theorem rl_53 (w : World) : Calls Tryz.prog 79 #[.int .i64 53] w fun e w' => e = .returned (rowV 53 ⟨#[99, 33]⟩ 2 0 2 false) ∧ Below w.heap.size w w' := by
  go_enter Tryz.func79, Tryz.ntmps79
  go_wp2
  exact bodyPost_ret (v := rowV 53 ⟨#[99, 33]⟩ 2 0 2 false) (by simp [results, Tryz.results79, go_sem, rowV]) rfl ⟨rfl, bel_alloc w _⟩
theorem rl_54 (w : World) : Calls Tryz.prog 79 #[.int .i64 54] w fun e w' => e = .returned (rowV 54 ⟨#[43, 33]⟩ 2 0 3 false) ∧ Below w.heap.size w w' := by
  go_enter Tryz.func79, Tryz.ntmps79
  go_wp2
  exact bodyPost_ret (v := rowV 54 ⟨#[43, 33]⟩ 2 0 3 false) (by simp [results, Tryz.results79, go_sem, rowV]) rfl ⟨rfl, bel_alloc w _⟩
theorem rl_55 (w : World) : Calls Tryz.prog 79 #[.int .i64 55] w fun e w' => e = .returned (rowV 55 ⟨#[62, 114]⟩ 1 0 1 false) ∧ Below w.heap.size w w' := by
  go_enter Tryz.func79, Tryz.ntmps79
  go_wp2
  exact bodyPost_ret (v := rowV 55 ⟨#[62, 114]⟩ 1 0 1 false) (by simp [results, Tryz.results79, go_sem, rowV]) rfl ⟨rfl, bel_alloc w _⟩
theorem rl_56 (w : World) : Calls Tryz.prog 79 #[.int .i64 56] w fun e w' => e = .returned (rowV 56 ⟨#[114, 62]⟩ 0 1 1 false) ∧ Below w.heap.size w w' := by
  go_enter Tryz.func79, Tryz.ntmps79
  go_wp2
  exact bodyPost_ret (v := rowV 56 ⟨#[114, 62]⟩ 0 1 1 false) (by simp [results, Tryz.results79, go_sem, rowV]) rfl ⟨rfl, bel_alloc w _⟩
theorem rl_57 (w : World) : Calls Tryz.prog 79 #[.int .i64 57] w fun e w' => e = .returned (rowV 57 ⟨#[114, 64]⟩ 0 1 1 false) ∧ Below w.heap.size w w' := by
  go_enter Tryz.func79, Tryz.ntmps79
  go_wp2
  exact bodyPost_ret (v := rowV 57 ⟨#[114, 64]⟩ 0 1 1 false) (by simp [results, Tryz.results79, go_sem, rowV]) rfl ⟨rfl, bel_alloc w _⟩
theorem rl_58 (w : World) : Calls Tryz.prog 79 #[.int .i64 58] w fun e w' => e = .returned (rowV 58 ⟨#[105]⟩ 0 1 1 false) ∧ Below w.heap.size w w' := by
  go_enter Tryz.func79, Tryz.ntmps79
  go_wp2
  exact bodyPost_ret (v := rowV 58 ⟨#[105]⟩ 0 1 1 false) (by simp [results, Tryz.results79, go_sem, rowV]) rfl ⟨rfl, bel_alloc w _⟩
theorem rl_59 (w : World) : Calls Tryz.prog 79 #[.int .i64 59] w fun e w' => e = .returned (rowV 59 ⟨#[106]⟩ 0 1 1 false) ∧ Below w.heap.size w w' := by
  go_enter Tryz.func79, Tryz.ntmps79
  go_wp2
  exact bodyPost_ret (v := rowV 59 ⟨#[106]⟩ 0 1 1 false) (by simp [results, Tryz.results79, go_sem, rowV]) rfl ⟨rfl, bel_alloc w _⟩
theorem rl_60 (w : World) : Calls Tryz.prog 79 #[.int .i64 60] w fun e w' => e = .returned (rowV 60 ⟨#[112, 108, 111, 116]⟩ 3 0 3 false) ∧ Below w.heap.size w w' := by
  go_enter Tryz.func79, Tryz.ntmps79
  go_wp2
  exact bodyPost_ret (v := rowV 60 ⟨#[112, 108, 111, 116]⟩ 3 0 3 false) (by simp [results, Tryz.results79, go_sem, rowV]) rfl ⟨rfl, bel_alloc w _⟩
theorem rl_61 (w : World) : Calls Tryz.prog 79 #[.int .i64 61] w fun e w' => e = .returned (rowV 61 ⟨#[112, 97, 100]⟩ 0 1 1 false) ∧ Below w.heap.size w w' := by
  go_enter Tryz.func79, Tryz.ntmps79
  go_wp2
  exact bodyPost_ret (v := rowV 61 ⟨#[112, 97, 100]⟩ 0 1 1 false) (by simp [results, Tryz.results79, go_sem, rowV]) rfl ⟨rfl, bel_alloc w _⟩
theorem rl_62 (w : World) : Calls Tryz.prog 79 #[.int .i64 62] w fun e w' => e = .returned (rowV 62 ⟨#[116, 111, 110, 101]⟩ 2 0 2 false) ∧ Below w.heap.size w w' := by
  go_enter Tryz.func79, Tryz.ntmps79
  go_wp2
  exact bodyPost_ret (v := rowV 62 ⟨#[116, 111, 110, 101]⟩ 2 0 2 false) (by simp [results, Tryz.results79, go_sem, rowV]) rfl ⟨rfl, bel_alloc w _⟩
theorem rl_63 (w : World) : Calls Tryz.prog 79 #[.int .i64 63] w fun e w' => e = .returned (rowV 63 ⟨#[98, 97, 110, 107]⟩ 1 0 1 false) ∧ Below w.heap.size w w' := by
  go_enter Tryz.func79, Tryz.ntmps79
  go_wp2
  exact bodyPost_ret (v := rowV 63 ⟨#[98, 97, 110, 107]⟩ 1 0 1 false) (by simp [results, Tryz.results79, go_sem, rowV]) rfl ⟨rfl, bel_alloc w _⟩
end Go.Proofs.YtgponcjjnjpfkaaGreat.L
/-! The reference's table. -/
namespace Go.Proofs.YtgponcjjnjpfkaaGreat.L
open Go.RowKit
open Go.Proofs
open P
set_option linter.unusedVariables false
set_option linter.unusedSimpArgs false
set_option maxHeartbeats 2000000
set_option maxRecDepth 100000
theorem rl_at (x : Nat) (h1 : 1 ≤ x) (h2 : x < 64) : (x < 21 → ∀ w, Calls Tryz.prog 77 #[.int .i64 (x : Int)] w fun e w' => e = .returned (rowN x) ∧ Below w.heap.size w w') ∧ (21 ≤ x → x < 42 → ∀ w, Calls Tryz.prog 78 #[.int .i64 (x : Int)] w fun e w' => e = .returned (rowN x) ∧ Below w.heap.size w w') ∧ (42 ≤ x → ∀ w, Calls Tryz.prog 79 #[.int .i64 (x : Int)] w fun e w' => e = .returned (rowN x) ∧ Below w.heap.size w w') := by
  rcases num_cases x h1 h2 with rfl | rfl | rfl | rfl | rfl | rfl | rfl | rfl | rfl | rfl | rfl | rfl | rfl | rfl | rfl | rfl | rfl | rfl | rfl | rfl | rfl | rfl | rfl | rfl | rfl | rfl | rfl | rfl | rfl | rfl | rfl | rfl | rfl | rfl | rfl | rfl | rfl | rfl | rfl | rfl | rfl | rfl | rfl | rfl | rfl | rfl | rfl | rfl | rfl | rfl | rfl | rfl | rfl | rfl | rfl | rfl | rfl | rfl | rfl | rfl | rfl | rfl | rfl
  · exact ⟨fun _ => rl_1, fun h => absurd h (by decide), fun h => absurd h (by decide)⟩
  · exact ⟨fun _ => rl_2, fun h => absurd h (by decide), fun h => absurd h (by decide)⟩
  · exact ⟨fun _ => rl_3, fun h => absurd h (by decide), fun h => absurd h (by decide)⟩
  · exact ⟨fun _ => rl_4, fun h => absurd h (by decide), fun h => absurd h (by decide)⟩
  · exact ⟨fun _ => rl_5, fun h => absurd h (by decide), fun h => absurd h (by decide)⟩
  · exact ⟨fun _ => rl_6, fun h => absurd h (by decide), fun h => absurd h (by decide)⟩
  · exact ⟨fun _ => rl_7, fun h => absurd h (by decide), fun h => absurd h (by decide)⟩
  · exact ⟨fun _ => rl_8, fun h => absurd h (by decide), fun h => absurd h (by decide)⟩
  · exact ⟨fun _ => rl_9, fun h => absurd h (by decide), fun h => absurd h (by decide)⟩
  · exact ⟨fun _ => rl_10, fun h => absurd h (by decide), fun h => absurd h (by decide)⟩
  · exact ⟨fun _ => rl_11, fun h => absurd h (by decide), fun h => absurd h (by decide)⟩
  · exact ⟨fun _ => rl_12, fun h => absurd h (by decide), fun h => absurd h (by decide)⟩
  · exact ⟨fun _ => rl_13, fun h => absurd h (by decide), fun h => absurd h (by decide)⟩
  · exact ⟨fun _ => rl_14, fun h => absurd h (by decide), fun h => absurd h (by decide)⟩
  · exact ⟨fun _ => rl_15, fun h => absurd h (by decide), fun h => absurd h (by decide)⟩
  · exact ⟨fun _ => rl_16, fun h => absurd h (by decide), fun h => absurd h (by decide)⟩
  · exact ⟨fun _ => rl_17, fun h => absurd h (by decide), fun h => absurd h (by decide)⟩
  · exact ⟨fun _ => rl_18, fun h => absurd h (by decide), fun h => absurd h (by decide)⟩
  · exact ⟨fun _ => rl_19, fun h => absurd h (by decide), fun h => absurd h (by decide)⟩
  · exact ⟨fun _ => rl_20, fun h => absurd h (by decide), fun h => absurd h (by decide)⟩
  · exact ⟨fun h => absurd h (by decide), fun _ _ => rl_21, fun h => absurd h (by decide)⟩
  · exact ⟨fun h => absurd h (by decide), fun _ _ => rl_22, fun h => absurd h (by decide)⟩
  · exact ⟨fun h => absurd h (by decide), fun _ _ => rl_23, fun h => absurd h (by decide)⟩
  · exact ⟨fun h => absurd h (by decide), fun _ _ => rl_24, fun h => absurd h (by decide)⟩
  · exact ⟨fun h => absurd h (by decide), fun _ _ => rl_25, fun h => absurd h (by decide)⟩
  · exact ⟨fun h => absurd h (by decide), fun _ _ => rl_26, fun h => absurd h (by decide)⟩
  · exact ⟨fun h => absurd h (by decide), fun _ _ => rl_27, fun h => absurd h (by decide)⟩
  · exact ⟨fun h => absurd h (by decide), fun _ _ => rl_28, fun h => absurd h (by decide)⟩
  · exact ⟨fun h => absurd h (by decide), fun _ _ => rl_29, fun h => absurd h (by decide)⟩
  · exact ⟨fun h => absurd h (by decide), fun _ _ => rl_30, fun h => absurd h (by decide)⟩
  · exact ⟨fun h => absurd h (by decide), fun _ _ => rl_31, fun h => absurd h (by decide)⟩
  · exact ⟨fun h => absurd h (by decide), fun _ _ => rl_32, fun h => absurd h (by decide)⟩
  · exact ⟨fun h => absurd h (by decide), fun _ _ => rl_33, fun h => absurd h (by decide)⟩
  · exact ⟨fun h => absurd h (by decide), fun _ _ => rl_34, fun h => absurd h (by decide)⟩
  · exact ⟨fun h => absurd h (by decide), fun _ _ => rl_35, fun h => absurd h (by decide)⟩
  · exact ⟨fun h => absurd h (by decide), fun _ _ => rl_36, fun h => absurd h (by decide)⟩
  · exact ⟨fun h => absurd h (by decide), fun _ _ => rl_37, fun h => absurd h (by decide)⟩
  · exact ⟨fun h => absurd h (by decide), fun _ _ => rl_38, fun h => absurd h (by decide)⟩
  · exact ⟨fun h => absurd h (by decide), fun _ _ => rl_39, fun h => absurd h (by decide)⟩
  · exact ⟨fun h => absurd h (by decide), fun _ _ => rl_40, fun h => absurd h (by decide)⟩
  · exact ⟨fun h => absurd h (by decide), fun _ _ => rl_41, fun h => absurd h (by decide)⟩
  · exact ⟨fun h => absurd h (by decide), fun _ h => absurd h (by decide), fun _ => rl_42⟩
  · exact ⟨fun h => absurd h (by decide), fun _ h => absurd h (by decide), fun _ => rl_43⟩
  · exact ⟨fun h => absurd h (by decide), fun _ h => absurd h (by decide), fun _ => rl_44⟩
  · exact ⟨fun h => absurd h (by decide), fun _ h => absurd h (by decide), fun _ => rl_45⟩
  · exact ⟨fun h => absurd h (by decide), fun _ h => absurd h (by decide), fun _ => rl_46⟩
  · exact ⟨fun h => absurd h (by decide), fun _ h => absurd h (by decide), fun _ => rl_47⟩
  · exact ⟨fun h => absurd h (by decide), fun _ h => absurd h (by decide), fun _ => rl_48⟩
  · exact ⟨fun h => absurd h (by decide), fun _ h => absurd h (by decide), fun _ => rl_49⟩
  · exact ⟨fun h => absurd h (by decide), fun _ h => absurd h (by decide), fun _ => rl_50⟩
  · exact ⟨fun h => absurd h (by decide), fun _ h => absurd h (by decide), fun _ => rl_51⟩
  · exact ⟨fun h => absurd h (by decide), fun _ h => absurd h (by decide), fun _ => rl_52⟩
  · exact ⟨fun h => absurd h (by decide), fun _ h => absurd h (by decide), fun _ => rl_53⟩
  · exact ⟨fun h => absurd h (by decide), fun _ h => absurd h (by decide), fun _ => rl_54⟩
  · exact ⟨fun h => absurd h (by decide), fun _ h => absurd h (by decide), fun _ => rl_55⟩
  · exact ⟨fun h => absurd h (by decide), fun _ h => absurd h (by decide), fun _ => rl_56⟩
  · exact ⟨fun h => absurd h (by decide), fun _ h => absurd h (by decide), fun _ => rl_57⟩
  · exact ⟨fun h => absurd h (by decide), fun _ h => absurd h (by decide), fun _ => rl_58⟩
  · exact ⟨fun h => absurd h (by decide), fun _ h => absurd h (by decide), fun _ => rl_59⟩
  · exact ⟨fun h => absurd h (by decide), fun _ h => absurd h (by decide), fun _ => rl_60⟩
  · exact ⟨fun h => absurd h (by decide), fun _ h => absurd h (by decide), fun _ => rl_61⟩
  · exact ⟨fun h => absurd h (by decide), fun _ h => absurd h (by decide), fun _ => rl_62⟩
  · exact ⟨fun h => absurd h (by decide), fun _ h => absurd h (by decide), fun _ => rl_63⟩
theorem rrow_at (x : Nat) (h1 : 1 ≤ x) (h2 : x < 64) (w : World) : Calls Tryz.prog 55 #[.int .i64 (x : Int)] w fun e w' => e = .returned (rowN x) ∧ Below w.heap.size w w' := by
  have hl := rl_at x h1 h2
  have k1 : (x : Int) < 21 ∨ ¬ (x : Int) < 21 := by omega
  have k2 : (x : Int) < 42 ∨ ¬ (x : Int) < 42 := by omega
  have i1 : (x : Int) < 21 → x < 21 := by omega
  have i2 : ¬ (x : Int) < 21 → 21 ≤ x := by omega
  have i3 : (x : Int) < 42 → x < 42 := by omega
  have i4 : ¬ (x : Int) < 42 → 42 ≤ x := by omega
  unfold rowN rowV at *
  obtain ⟨wA, hA⟩ : ∃ wA, w.alloc (.cells #[.int .i64 0, .string { data := #[] }, .int .i64 0, .int .i64 0, .int .i64 0, .bool false] 59) = wA := ⟨_, rfl⟩
  have hb : Below w.heap.size w wA := by rw [← hA]; exact (Below.refl _ w).alloc (Nat.le_refl _) _
  have hz : wA.heap[w.heap.size]? = some (.cells zR 59 (0, 0)) := by rw [← hA]; exact heap_alloc_new w _
  generalize nm x = a1 at *
  generalize ri x = a2 at *
  generalize ro x = a3 at *
  generalize rc x = a4 at *
  generalize rb x = a5 at *
  generalize (x : Int) = a0 at *
  rcases k1 with k | k
  · have d1 : decide (a0 < 21) = true := decide_eq_true k
    have hc := hl.1 (i1 k)
    clear hl k2 i1 i2 i3 i4
    go_enter Tryz.func55, Tryz.ntmps55
    go_wp2_with fail
    refine (hc wA).mono ?_
    rintro e w1 ⟨rfl, h1⟩
    have hz1 : w1.heap[w.heap.size]? = some (.cells zR 59 (0, 0)) := (h1.block _ (S.lt_of hz)).trans hz
    have hb1 : Below w.heap.size w w1 := hb.trans ⟨h1.os, h1.tape, h1.output, h1.size, fun k hk => h1.block k (Nat.lt_of_lt_of_le hk hb.size)⟩
    have hfin := setRow_heap w1 w.heap.size _ #[.int .i64 a0, .string a1, .int .i64 a2, .int .i64 a3, .int .i64 a4, .bool a5] _ _ hz1
    have hbf := Below.setRow hb1 w.heap.size (Nat.le_refl _) #[.int .i64 a0, .string a1, .int .i64 a2, .int .i64 a3, .int .i64 a4, .bool a5]
    go_wp2_with (refine wpList_store_row rfl 59 _ _ rfl w.heap.size _ rfl rfl 59 zR hz1 (by exact sizeR) (by rfl) (by simp [Value.oneCell']) ?_)
    exact bodyPost_ret (results_cell_row rfl _ _ w.heap.size 59 _ (0, 0) _ rfl hfin Tryz.underlying59 rfl (by exact sizeR)) rfl ⟨rfl, hbf⟩
  have d1 : decide (a0 < 21) = false := decide_eq_false k
  rcases k2 with k' | k'
  · have d2 : decide (a0 < 42) = true := decide_eq_true k'
    have hc := hl.2.1 (i2 k) (i3 k')
    clear hl i1 i2 i3 i4
    go_enter Tryz.func55, Tryz.ntmps55
    go_wp2_with fail
    refine (hc wA).mono ?_
    rintro e w1 ⟨rfl, h1⟩
    have hz1 : w1.heap[w.heap.size]? = some (.cells zR 59 (0, 0)) := (h1.block _ (S.lt_of hz)).trans hz
    have hb1 : Below w.heap.size w w1 := hb.trans ⟨h1.os, h1.tape, h1.output, h1.size, fun k hk => h1.block k (Nat.lt_of_lt_of_le hk hb.size)⟩
    have hfin := setRow_heap w1 w.heap.size _ #[.int .i64 a0, .string a1, .int .i64 a2, .int .i64 a3, .int .i64 a4, .bool a5] _ _ hz1
    have hbf := Below.setRow hb1 w.heap.size (Nat.le_refl _) #[.int .i64 a0, .string a1, .int .i64 a2, .int .i64 a3, .int .i64 a4, .bool a5]
    go_wp2_with (refine wpList_store_row rfl 59 _ _ rfl w.heap.size _ rfl rfl 59 zR hz1 (by exact sizeR) (by rfl) (by simp [Value.oneCell']) ?_)
    exact bodyPost_ret (results_cell_row rfl _ _ w.heap.size 59 _ (0, 0) _ rfl hfin Tryz.underlying59 rfl (by exact sizeR)) rfl ⟨rfl, hbf⟩
  · have d2 : decide (a0 < 42) = false := decide_eq_false k'
    have hc := hl.2.2 (i4 k')
    clear hl i1 i2 i3 i4
    go_enter Tryz.func55, Tryz.ntmps55
    go_wp2_with fail
    refine (hc wA).mono ?_
    rintro e w1 ⟨rfl, h1⟩
    have hz1 : w1.heap[w.heap.size]? = some (.cells zR 59 (0, 0)) := (h1.block _ (S.lt_of hz)).trans hz
    have hb1 : Below w.heap.size w w1 := hb.trans ⟨h1.os, h1.tape, h1.output, h1.size, fun k hk => h1.block k (Nat.lt_of_lt_of_le hk hb.size)⟩
    have hfin := setRow_heap w1 w.heap.size _ #[.int .i64 a0, .string a1, .int .i64 a2, .int .i64 a3, .int .i64 a4, .bool a5] _ _ hz1
    have hbf := Below.setRow hb1 w.heap.size (Nat.le_refl _) #[.int .i64 a0, .string a1, .int .i64 a2, .int .i64 a3, .int .i64 a4, .bool a5]
    go_wp2_with (refine wpList_store_row rfl 59 _ _ rfl w.heap.size _ rfl rfl 59 zR hz1 (by exact sizeR) (by rfl) (by simp [Value.oneCell']) ?_)
    exact bodyPost_ret (results_cell_row rfl _ _ w.heap.size 59 _ (0, 0) _ rfl hfin Tryz.underlying59 rfl (by exact sizeR)) rfl ⟨rfl, hbf⟩
theorem rof_at (x : Nat) (h1 : 1 ≤ x) (h2 : x < 64) (w : World) : Calls Tryz.prog 24 #[.int .i64 (x : Int)] w fun e w' => e = .returned (.tuple #[rowN x, .int .i64 0]) ∧ Below w.heap.size w w' := by
  have hc := fun w => rrow_at x h1 h2 w
  have d1 : decide ((x : Int) < 1) = false := decide_eq_false (by omega)
  have d2 : decide (63 < (x : Int)) = false := decide_eq_false (by omega)
  unfold rowN rowV at *
  obtain ⟨wA, hA⟩ : ∃ wA, w.alloc (.cells #[.int .i64 0, .string { data := #[] }, .int .i64 0, .int .i64 0, .int .i64 0, .bool false] 59) = wA := ⟨_, rfl⟩
  have hb : Below w.heap.size w wA := by rw [← hA]; exact (Below.refl _ w).alloc (Nat.le_refl _) _
  have hz : wA.heap[w.heap.size]? = some (.cells zR 59 (0, 0)) := by rw [← hA]; exact heap_alloc_new w _
  generalize nm x = a1 at *
  generalize ri x = a2 at *
  generalize ro x = a3 at *
  generalize rc x = a4 at *
  generalize rb x = a5 at *
  generalize (x : Int) = a0 at *
  go_enter Tryz.func24, Tryz.ntmps24
  go_wp2_with fail
  refine (hc wA).mono ?_
  rintro e w1 ⟨rfl, h1⟩
  have hz1 : w1.heap[w.heap.size]? = some (.cells zR 59 (0, 0)) := (h1.block _ (S.lt_of hz)).trans hz
  have hb1 : Below w.heap.size w w1 := hb.trans ⟨h1.os, h1.tape, h1.output, h1.size, fun k hk => h1.block k (Nat.lt_of_lt_of_le hk hb.size)⟩
  have hfin := setRow_heap w1 w.heap.size _ #[.int .i64 a0, .string a1, .int .i64 a2, .int .i64 a3, .int .i64 a4, .bool a5] _ _ hz1
  have hbf := Below.setRow hb1 w.heap.size (Nat.le_refl _) #[.int .i64 a0, .string a1, .int .i64 a2, .int .i64 a3, .int .i64 a4, .bool a5]
  go_wp2_with (refine wpList_store_row rfl 59 _ _ rfl w.heap.size _ rfl rfl 59 zR hz1 (by exact sizeR) (by rfl) (by simp [Value.oneCell']) ?_)
  refine bodyPost_ret (v := .tuple #[.agg #[.int .i64 a0, .string a1, .int .i64 a2, .int .i64 a3, .int .i64 a4, .bool a5], .int .i64 0]) ?_ rfl ⟨rfl, hbf⟩
  rw [results_cell_tmp rfl]
  simp [asAddr, run_loadVar_row _ w.heap.size _ 59 _ _ _ hfin Tryz.underlying59 rfl sizeR]
theorem rof_no (op : Int) (h : op < 1 ∨ 64 ≤ op) (w : World) : Calls Tryz.prog 24 #[.int .i64 op] w fun e w' => e = .returned (.tuple #[rowV 0 ⟨#[]⟩ 0 0 0 false, .int .i64 60]) ∧ Below w.heap.size w w' := by
  by_cases a : op < 1
  · have e1 : decide (op < 1) = true := decide_eq_true a
    go_enter Tryz.func24, Tryz.ntmps24
    go_wp2
    exact bodyPost_ret (v := .tuple #[rowV 0 ⟨#[]⟩ 0 0 0 false, .int .i64 60]) (by simp [results, Tryz.results24, go_sem, rowV]) rfl ⟨rfl, bel_alloc w _⟩
  · have e1 : decide (op < 1) = false := decide_eq_false a
    have e2 : decide (63 < op) = true := decide_eq_true (by omega)
    go_enter Tryz.func24, Tryz.ntmps24
    go_wp2
    exact bodyPost_ret (v := .tuple #[rowV 0 ⟨#[]⟩ 0 0 0 false, .int .i64 60]) (by simp [results, Tryz.results24, go_sem, rowV]) rfl ⟨rfl, bel_alloc w _⟩
end Go.Proofs.YtgponcjjnjpfkaaGreat.L
/-! Both sides' answers of a number and of a name. -/
namespace Go.Proofs.YtgponcjjnjpfkaaGreat.L
open Go.RowKit
open Go.Proofs
open P
set_option linter.unusedVariables false
set_option linter.unusedSimpArgs false
set_option maxHeartbeats 4000000
set_option maxRecDepth 100000
theorem plain_at (x : Nat) (h1 : 1 ≤ x) (h2 : x < 64) (w : World) : Calls Tryz.prog 27 #[.int .i64 (x : Int)] w fun e w' => e = .returned (.bool (plain (x : Int))) ∧ Below w.heap.size w w' := by
  rcases num_cases x h1 h2 with rfl | rfl | rfl | rfl | rfl | rfl | rfl | rfl | rfl | rfl | rfl | rfl | rfl | rfl | rfl | rfl | rfl | rfl | rfl | rfl | rfl | rfl | rfl | rfl | rfl | rfl | rfl | rfl | rfl | rfl | rfl | rfl | rfl | rfl | rfl | rfl | rfl | rfl | rfl | rfl | rfl | rfl | rfl | rfl | rfl | rfl | rfl | rfl | rfl | rfl | rfl | rfl | rfl | rfl | rfl | rfl | rfl | rfl | rfl | rfl | rfl | rfl | rfl
  · exact plain_no _ _ _ _ _ _ _ _ _ _ ent_1 w
  · exact plain_no _ _ _ _ _ _ _ _ _ _ ent_2 w
  · exact plain_no _ _ _ _ _ _ _ _ _ _ ent_3 w
  · exact plain_no _ _ _ _ _ _ _ _ _ _ ent_4 w
  · exact plain_no _ _ _ _ _ _ _ _ _ _ ent_5 w
  · exact plain_yes _ _ _ _ _ _ _ _ _ _ _ ent_6 w
  · exact plain_no _ _ _ _ _ _ _ _ _ _ ent_7 w
  · exact plain_no _ _ _ _ _ _ _ _ _ _ ent_8 w
  · exact plain_yes _ _ _ _ _ _ _ _ _ _ _ ent_9 w
  · exact plain_no _ _ _ _ _ _ _ _ _ _ ent_10 w
  · exact plain_no _ _ _ _ _ _ _ _ _ _ ent_11 w
  · exact plain_yes _ _ _ _ _ _ _ _ _ _ _ ent_12 w
  · exact plain_yes _ _ _ _ _ _ _ _ _ _ _ ent_13 w
  · exact plain_yes _ _ _ _ _ _ _ _ _ _ _ ent_14 w
  · exact plain_yes _ _ _ _ _ _ _ _ _ _ _ ent_15 w
  · exact plain_yes _ _ _ _ _ _ _ _ _ _ _ ent_16 w
  · exact plain_yes _ _ _ _ _ _ _ _ _ _ _ ent_17 w
  · exact plain_yes _ _ _ _ _ _ _ _ _ _ _ ent_18 w
  · exact plain_yes _ _ _ _ _ _ _ _ _ _ _ ent_19 w
  · exact plain_yes _ _ _ _ _ _ _ _ _ _ _ ent_20 w
  · exact plain_yes _ _ _ _ _ _ _ _ _ _ _ ent_21 w
  · exact plain_yes _ _ _ _ _ _ _ _ _ _ _ ent_22 w
  · exact plain_yes _ _ _ _ _ _ _ _ _ _ _ ent_23 w
  · exact plain_yes _ _ _ _ _ _ _ _ _ _ _ ent_24 w
  · exact plain_yes _ _ _ _ _ _ _ _ _ _ _ ent_25 w
  · exact plain_yes _ _ _ _ _ _ _ _ _ _ _ ent_26 w
  · exact plain_yes _ _ _ _ _ _ _ _ _ _ _ ent_27 w
  · exact plain_yes _ _ _ _ _ _ _ _ _ _ _ ent_28 w
  · exact plain_yes _ _ _ _ _ _ _ _ _ _ _ ent_29 w
  · exact plain_yes _ _ _ _ _ _ _ _ _ _ _ ent_30 w
  · exact plain_yes _ _ _ _ _ _ _ _ _ _ _ ent_31 w
  · exact plain_yes _ _ _ _ _ _ _ _ _ _ _ ent_32 w
  · exact plain_yes _ _ _ _ _ _ _ _ _ _ _ ent_33 w
  · exact plain_yes _ _ _ _ _ _ _ _ _ _ _ ent_34 w
  · exact plain_yes _ _ _ _ _ _ _ _ _ _ _ ent_35 w
  · exact plain_yes _ _ _ _ _ _ _ _ _ _ _ ent_36 w
  · exact plain_yes _ _ _ _ _ _ _ _ _ _ _ ent_37 w
  · exact plain_yes _ _ _ _ _ _ _ _ _ _ _ ent_38 w
  · exact plain_yes _ _ _ _ _ _ _ _ _ _ _ ent_39 w
  · exact plain_yes _ _ _ _ _ _ _ _ _ _ _ ent_40 w
  · exact plain_yes _ _ _ _ _ _ _ _ _ _ _ ent_41 w
  · exact plain_yes _ _ _ _ _ _ _ _ _ _ _ ent_42 w
  · exact plain_yes _ _ _ _ _ _ _ _ _ _ _ ent_43 w
  · exact plain_yes _ _ _ _ _ _ _ _ _ _ _ ent_44 w
  · exact plain_yes _ _ _ _ _ _ _ _ _ _ _ ent_45 w
  · exact plain_yes _ _ _ _ _ _ _ _ _ _ _ ent_46 w
  · exact plain_yes _ _ _ _ _ _ _ _ _ _ _ ent_47 w
  · exact plain_yes _ _ _ _ _ _ _ _ _ _ _ ent_48 w
  · exact plain_yes _ _ _ _ _ _ _ _ _ _ _ ent_49 w
  · exact plain_yes _ _ _ _ _ _ _ _ _ _ _ ent_50 w
  · exact plain_yes _ _ _ _ _ _ _ _ _ _ _ ent_51 w
  · exact plain_yes _ _ _ _ _ _ _ _ _ _ _ ent_52 w
  · exact plain_yes _ _ _ _ _ _ _ _ _ _ _ ent_53 w
  · exact plain_yes _ _ _ _ _ _ _ _ _ _ _ ent_54 w
  · exact plain_yes _ _ _ _ _ _ _ _ _ _ _ ent_55 w
  · exact plain_yes _ _ _ _ _ _ _ _ _ _ _ ent_56 w
  · exact plain_yes _ _ _ _ _ _ _ _ _ _ _ ent_57 w
  · exact plain_yes _ _ _ _ _ _ _ _ _ _ _ ent_58 w
  · exact plain_yes _ _ _ _ _ _ _ _ _ _ _ ent_59 w
  · exact plain_yes _ _ _ _ _ _ _ _ _ _ _ ent_60 w
  · exact plain_yes _ _ _ _ _ _ _ _ _ _ _ ent_61 w
  · exact plain_yes _ _ _ _ _ _ _ _ _ _ _ ent_62 w
  · exact plain_yes _ _ _ _ _ _ _ _ _ _ _ ent_63 w
theorem plain_out (op : Int) (h : op < 1 ∨ 64 ≤ op) : plain op = false := by
  have a : ¬ op = 6 := by omega
  have b : ¬ op = 9 := by omega
  have c : ¬ (12 ≤ op ∧ op ≤ 63) := by omega
  unfold plain
  simp only [beq_eq_false_iff_ne.2 a, beq_eq_false_iff_ne.2 b, Bool.false_or, Bool.and_eq_false_iff, decide_eq_false_iff_not]
  omega
theorem plain_any (op : Int) (w : World) : Calls Tryz.prog 27 #[.int .i64 op] w fun e w' => e = .returned (.bool (plain op)) ∧ Below w.heap.size w w' := by
  by_cases h : op < 1 ∨ 64 ≤ op
  · rw [plain_out op h]
    exact plain_no _ _ _ _ _ _ _ _ _ _ (ent_none op h) w
  · obtain ⟨x, rfl⟩ : ∃ x : Nat, op = (x : Int) := ⟨op.toNat, by omega⟩
    exact plain_at x (by omega) (by omega) w
theorem rplain_any (op : Int) (w : World) : Calls Tryz.prog 28 #[.int .i64 op] w fun e w' => e = .returned (.bool (plain op)) ∧ Below w.heap.size w w' := by
  by_cases c1 : op = 6
  · subst c1
    go_enter Tryz.func28, Tryz.ntmps28
    go_wp2
    go_ret
    exact ⟨rfl, Below.refl _ _⟩
  · by_cases c2 : op = 9
    · subst c2
      go_enter Tryz.func28, Tryz.ntmps28
      go_wp2
      go_ret
      exact ⟨rfl, Below.refl _ _⟩
    · have e1 := beq_eq_false_iff_ne.2 c1
      have e2 := beq_eq_false_iff_ne.2 c2
      have hp : plain op = (decide (12 ≤ op) && decide (op ≤ 63)) := by unfold plain; rw [e1, e2]; rfl
      rw [hp]
      by_cases c3 : 12 ≤ op
      · have e3 := decide_eq_true c3
        rw [e3, Bool.true_and]
        by_cases c4 : op ≤ 63
        · have e4 := decide_eq_true c4
          go_enter Tryz.func28, Tryz.ntmps28
          go_wp2
          go_ret
          first | exact ⟨rfl, Below.refl _ _⟩ | exact ⟨by simp [c4], Below.refl _ _⟩
        · have e4 := decide_eq_false c4
          go_enter Tryz.func28, Tryz.ntmps28
          go_wp2
          go_ret
          first | exact ⟨rfl, Below.refl _ _⟩ | exact ⟨by simp [c4], Below.refl _ _⟩
      · have e3 := decide_eq_false c3
        rw [e3, Bool.false_and]
        go_enter Tryz.func28, Tryz.ntmps28
        go_wp2
        go_ret
        exact ⟨rfl, Below.refl _ _⟩
theorem rnamed_any (name : ByteArray) (w : World) : Calls Tryz.prog 30 #[.string name] w fun e w' => ((∃ x : Nat, 9 ≤ x ∧ x < 64 ∧ (nm x).toList = name.toList ∧ e = .returned (.tuple #[rowN x, .bool true])) ∨ ((∀ x : Nat, 9 ≤ x → x < 64 → (nm x).toList ≠ name.toList) ∧ e = .returned (.tuple #[rowV 0 ⟨#[]⟩ 0 0 0 false, .bool false]))) ∧ Below w.heap.size w w' := by
  obtain ⟨wA, hA⟩ : ∃ wA, w.alloc (.cells #[.int .i64 0, .string { data := #[] }, .int .i64 0, .int .i64 0, .int .i64 0, .bool false] 59) = wA := ⟨_, rfl⟩
  have hb : Below w.heap.size w wA := by rw [← hA]; exact (Below.refl _ w).alloc (Nat.le_refl _) _
  have hz : wA.heap[w.heap.size]? = some (.cells zR 59 (0, 0)) := by rw [← hA]; exact heap_alloc_new w _
  go_enter Tryz.func30, Tryz.ntmps30
  go_wp2
  try rw [hA]
  go_loopw [4] (fun i wr => ∃ k : Nat, k ≤ 55 ∧ i = .int .i64 ((9 + k : Nat) : Int) ∧ (∀ x : Nat, 9 ≤ x → x < 9 + k → (nm x).toList ≠ name.toList) ∧ wr.heap[w.heap.size]? = some (.cells zR 59 (0, 0)) ∧ Below w.heap.size w wr) (fun i _ => 64 - (intOf i).toNat)
  case atStart => exact ⟨0, by omega, rfl, fun x a b => by omega, hz, hb⟩
  case round =>
    obtain ⟨k, hk, rfl, hne, hzr, hB⟩ := hrel
    by_cases hlt : k < 55
    · have hc := rrow_at (9 + k) (by omega) (by omega) wr
      have hi0 : ((9 + k : Nat) : Int) < 64 := by omega
      have hn1 : IntKind.i64.wrap (((9 + k : Nat) : Int) + 1) = ((9 + (k + 1) : Nat) : Int) := by rw [S.i64_id _ (by omega) (by omega)]; omega
      have hms : 64 - (((9 + (k + 1) : Nat) : Int)).toNat < 64 - (((9 + k : Nat) : Int)).toNat := by omega
      unfold rowN rowV at hc
      obtain ⟨a1, ha1⟩ : ∃ a1, nm (9 + k) = a1 := ⟨_, rfl⟩
      obtain ⟨a2, ha2⟩ : ∃ a2, ri (9 + k) = a2 := ⟨_, rfl⟩
      obtain ⟨a3, ha3⟩ : ∃ a3, ro (9 + k) = a3 := ⟨_, rfl⟩
      obtain ⟨a4, ha4⟩ : ∃ a4, rc (9 + k) = a4 := ⟨_, rfl⟩
      obtain ⟨a5, ha5⟩ : ∃ a5, rb (9 + k) = a5 := ⟨_, rfl⟩
      have hrow : rowN (9 + k) = rowV ((9 + k : Nat) : Int) a1 a2 a3 a4 a5 := by unfold rowN; rw [ha1, ha2, ha3, ha4, ha5]
      rw [ha1, ha2, ha3, ha4, ha5] at hc
      have HR := S.hid (And.intro hrow ha1)
      clear hrow ha1 ha2 ha3 ha4 ha5
      generalize hzk : ((9 + k : Nat) : Int) = z at *
      have HM := S.hid hms
      clear hms
      go_wp2_with fail
      refine hc.mono ?_
      rintro e w1 ⟨rfl, b1⟩
      have hz1 : w1.heap[w.heap.size]? = some (.cells zR 59 (0, 0)) := (b1.block _ (S.lt_of hzr)).trans hzr
      have hB1 : Below w.heap.size w w1 := hB.trans (b1.mono hB.size)
      obtain ⟨w2, hw2⟩ : ∃ w2, w1.alloc (.cells #[.int .i64 z, .string a1, .int .i64 a2, .int .i64 a3, .int .i64 a4, .bool a5] 59) = w2 := ⟨_, rfl⟩
      have r2 : RX w2 w1.heap.size z a1 a2 a3 a4 a5 := by rw [← hw2]; exact heap_alloc_new w1 _
      have hz2 : w2.heap[w.heap.size]? = some (.cells zR 59 (0, 0)) := by rw [← hw2]; exact (Below.heap_alloc _ _ _ (S.lt_of hz1)).trans hz1
      have hB2 : Below w.heap.size w w2 := by rw [← hw2]; exact hB1.alloc hB1.size _
      have e0 := S.cell_of w2 w1.heap.size 0 _ 59 _ r2 rfl
      have e1 := S.cell_of w2 w1.heap.size 1 _ 59 _ r2 rfl
      have e2 := S.cell_of w2 w1.heap.size 2 _ 59 _ r2 rfl
      have e3 := S.cell_of w2 w1.heap.size 3 _ 59 _ r2 rfl
      have e4 := S.cell_of w2 w1.heap.size 4 _ 59 _ r2 rfl
      have e5 := S.cell_of w2 w1.heap.size 5 _ 59 _ r2 rfl
      by_cases hx : (a1.toList == name.toList) = true
      · have hfin := setRow_heap w2 w.heap.size _ #[.int .i64 z, .string a1, .int .i64 a2, .int .i64 a3, .int .i64 a4, .bool a5] _ _ hz2
        have hbf := Below.setRow hB2 w.heap.size (Nat.le_refl _) #[.int .i64 z, .string a1, .int .i64 a2, .int .i64 a3, .int .i64 a4, .bool a5]
        go_wp2_with (first | (rw [hw2]; refine wpList_store_row rfl 59 _ _ rfl w.heap.size _ rfl rfl 59 zR hz2 (by exact sizeR) (by rfl) (by simp [Value.oneCell']) ?_) | (refine wpList_store_row rfl 59 _ _ rfl w.heap.size _ rfl rfl 59 zR hz2 (by exact sizeR) (by rfl) (by simp [Value.oneCell']) ?_))
        refine bodyPost_ret (v := .tuple #[.agg #[.int .i64 z, .string a1, .int .i64 a2, .int .i64 a3, .int .i64 a4, .bool a5], .bool true]) ?_ rfl ⟨.inl ⟨9 + k, by omega, by omega, by rw [HR.out.2]; exact eq_of_beq hx, by rw [HR.out.1]; rfl⟩, hbf⟩
        rw [results_cell_tmp rfl]
        simp [asAddr, run_loadVar_row _ w.heap.size _ 59 _ _ _ hfin Tryz.underlying59 rfl sizeR]
      · have hx' : (a1.toList == name.toList) = false := by simpa using hx
        have hne2 : ∀ x : Nat, 9 ≤ x → x < 9 + (k + 1) → (nm x).toList ≠ name.toList := by
          intro x a b
          by_cases q : x < 9 + k
          · exact hne x a q
          · obtain rfl : x = 9 + k := by omega
            rw [HR.out.2]
            exact fun e => hx (by rw [e]; simp)
        have HN := S.hid hne2
        clear hne hne2
        go_wp2
        try rw [hw2]
        go_roundw
        case rel =>
          first
            | exact ⟨k + 1, by omega, by first | rfl | (rw [hn1]) | go_num, HN.out, hz2, hB2⟩
            | ((repeat apply Exists.intro); refine ⟨⟨k + 1, by omega, ?_, HN.out, hz2, hB2⟩, rfl⟩; first | rw [hn1] | rfl)
        case measure => have := HM.out; simpa [intOf] using this
    · obtain rfl : k = 55 := by omega
      have hfin := setRow_heap wr w.heap.size _ #[.int .i64 0, .string ⟨#[]⟩, .int .i64 0, .int .i64 0, .int .i64 0, .bool false] _ _ hzr
      have hbf := Below.setRow hB w.heap.size (Nat.le_refl _) #[.int .i64 0, .string ⟨#[]⟩, .int .i64 0, .int .i64 0, .int .i64 0, .bool false]
      go_wp2_with (refine wpList_store_row rfl 59 _ _ rfl w.heap.size _ rfl rfl 59 zR hzr (by exact sizeR) (by rfl) (by simp [Value.oneCell']) ?_)
      refine bodyPost_ret (v := .tuple #[rowV 0 ⟨#[]⟩ 0 0 0 false, .bool false]) ?_ rfl ⟨.inr ⟨fun x a b => hne x a (by omega), rfl⟩, hbf⟩
      rw [results_cell_tmp rfl]
      simp [asAddr, run_loadVar_row _ w.heap.size _ 59 _ _ _ hfin Tryz.underlying59 rfl sizeR, rowV]
theorem nm_uniq : ∀ x ∈ allN, ∀ y ∈ allN, (nm x == nm y) = true → decide (9 ≤ x) = true → x = y := by decide +kernel
theorem nm_low : ∀ x ∈ allN, (nm x == (⟨#[]⟩ : ByteArray)) = decide (x < 9) := by decide +kernel
theorem in_all (x : Nat) : x ∈ allN ↔ 1 ≤ x ∧ x < 64 := by
  unfold allN; rw [List.mem_range'_1]
theorem nil_tl : (⟨#[]⟩ : ByteArray).toList = [] := by unfold ByteArray.toList ByteArray.toList.loop; rfl
theorem nm_pos (x : Nat) (h1 : 9 ≤ x) (h2 : x < 64) : (nm x).toList.isEmpty = false := tl_nil (by rw [nm_low x ((in_all x).2 ⟨by omega, h2⟩)]; exact decide_eq_false (by omega))
theorem nm_zero (x : Nat) (h1 : 1 ≤ x) (h2 : x < 9) : nm x = ⟨#[]⟩ := by
  have : x = 1 ∨ x = 2 ∨ x = 3 ∨ x = 4 ∨ x = 5 ∨ x = 6 ∨ x = 7 ∨ x = 8 := by omega
  rcases this with rfl | rfl | rfl | rfl | rfl | rfl | rfl | rfl <;> rfl
theorem named_is (name : ByteArray) (x : Nat) (h1 : 9 ≤ x) (h2 : x < 64) (h : (nm x).toList = name.toList) (w : World) : Calls Tryz.prog 29 #[.string name] w fun e w' => e = .returned (.tuple #[rowN x, .bool true]) ∧ Below w.heap.size w w' := by
  have hn : name.toList.isEmpty = false := by rw [← h]; exact nm_pos x h1 h2
  refine (named_yes name hn w).mono fun e w' ⟨q, hb⟩ => ⟨?_, hb⟩
  rcases q with ⟨y, y1, y2, y3⟩ | ⟨q, _⟩
  · have : x = y := nm_uniq x ((in_all x).2 ⟨by omega, h2⟩) y y1 (tl_eq.1 (h.trans y2.symm)) (decide_eq_true h1)
    subst this
    exact y3
  · exact absurd h (q x ((in_all x).2 ⟨by omega, h2⟩))
theorem rnamed_is (name : ByteArray) (x : Nat) (h1 : 9 ≤ x) (h2 : x < 64) (h : (nm x).toList = name.toList) (w : World) : Calls Tryz.prog 30 #[.string name] w fun e w' => e = .returned (.tuple #[rowN x, .bool true]) ∧ Below w.heap.size w w' := by
  refine (rnamed_any name w).mono fun e w' ⟨q, hb⟩ => ⟨?_, hb⟩
  rcases q with ⟨y, y0, y1, y2, y3⟩ | ⟨q, _⟩
  · have : x = y := nm_uniq x ((in_all x).2 ⟨by omega, h2⟩) y ((in_all y).2 ⟨by omega, y1⟩) (tl_eq.1 (h.trans y2.symm)) (decide_eq_true h1)
    subst this
    exact y3
  · exact absurd h (q x h1 h2)
theorem named_not (name : ByteArray) (h : ∀ x : Nat, 9 ≤ x → x < 64 → (nm x).toList ≠ name.toList) (w : World) : Calls Tryz.prog 29 #[.string name] w fun e w' => e = .returned (.tuple #[rowV 0 ⟨#[]⟩ 0 0 0 false, .bool false]) ∧ Below w.heap.size w w' := by
  cases hn : name.toList.isEmpty with
  | true => exact named_empty name hn w
  | false =>
    refine (named_yes name hn w).mono fun e w' ⟨q, hb⟩ => ⟨?_, hb⟩
    rcases q with ⟨y, y1, y2, y3⟩ | ⟨_, q⟩
    · have hy := (in_all y).1 y1
      by_cases h9 : 9 ≤ y
      · exact absurd y2 (h y h9 hy.2)
      · rw [nm_zero y hy.1 (by omega), nil_tl] at y2
        rw [← y2] at hn
        cases hn
    · exact q
theorem rnamed_not (name : ByteArray) (h : ∀ x : Nat, 9 ≤ x → x < 64 → (nm x).toList ≠ name.toList) (w : World) : Calls Tryz.prog 30 #[.string name] w fun e w' => e = .returned (.tuple #[rowV 0 ⟨#[]⟩ 0 0 0 false, .bool false]) ∧ Below w.heap.size w w' := by
  refine (rnamed_any name w).mono fun e w' ⟨q, hb⟩ => ⟨?_, hb⟩
  rcases q with ⟨y, y0, y1, y2, y3⟩ | ⟨_, q⟩
  · exact absurd y2 (h y y0 y1)
  · exact q
theorem named_both (name : ByteArray) : ∃ (a0 : Int) (a1 : ByteArray) (a2 a3 a4 : Int) (a5 b : Bool), (∀ w, Calls Tryz.prog 29 #[.string name] w fun e w' => e = .returned (.tuple #[rowV a0 a1 a2 a3 a4 a5, .bool b]) ∧ Below w.heap.size w w') ∧ ∀ w, Calls Tryz.prog 30 #[.string name] w fun e w' => e = .returned (.tuple #[rowV a0 a1 a2 a3 a4 a5, .bool b]) ∧ Below w.heap.size w w' := by
  by_cases h : ∃ x : Nat, 9 ≤ x ∧ x < 64 ∧ (nm x).toList = name.toList
  · obtain ⟨x, h1, h2, h3⟩ := h
    exact ⟨_, _, _, _, _, _, _, named_is name x h1 h2 h3, rnamed_is name x h1 h2 h3⟩
  · have q : ∀ x : Nat, 9 ≤ x → x < 64 → (nm x).toList ≠ name.toList := fun x a b c => h ⟨x, a, b, c⟩
    exact ⟨_, _, _, _, _, _, _, named_not name q, rnamed_not name q⟩
/-- A number's row on both sides, and what Named answers of its name. -/
theorem of_both (op : Int) : ∃ (a0 : Int) (a1 : ByteArray) (a2 a3 a4 : Int) (a5 : Bool) (er : Int), (∀ w, Calls Tryz.prog 26 #[.int .i64 op] w fun e w' => e = .returned (.tuple #[rowV a0 a1 a2 a3 a4 a5, .int .i64 er]) ∧ Below w.heap.size w w') ∧ (∀ w, Calls Tryz.prog 24 #[.int .i64 op] w fun e w' => e = .returned (.tuple #[rowV a0 a1 a2 a3 a4 a5, .int .i64 er]) ∧ Below w.heap.size w w') ∧
    (((a1.toList == (⟨#[]⟩ : ByteArray).toList) = false ∧ ∀ w, Calls Tryz.prog 29 #[.string a1] w fun e w' => e = .returned (.tuple #[rowV a0 a1 a2 a3 a4 a5, .bool true]) ∧ Below w.heap.size w w') ∨
    (a1 = ⟨#[]⟩ ∧ ∀ w, Calls Tryz.prog 29 #[.string a1] w fun e w' => e = .returned (.tuple #[rowV 0 ⟨#[]⟩ 0 0 0 false, .bool false]) ∧ Below w.heap.size w w')) := by
  by_cases h : op < 1 ∨ 64 ≤ op
  · exact ⟨_, _, _, _, _, _, _, of_no op h, rof_no op h, .inr ⟨rfl, named_empty _ (by rw [nil_tl]; rfl)⟩⟩
  · obtain ⟨x, rfl⟩ : ∃ x : Nat, op = (x : Int) := ⟨op.toNat, by omega⟩
    refine ⟨_, _, _, _, _, _, _, of_at x (by omega) (by omega), rof_at x (by omega) (by omega), ?_⟩
    by_cases h9 : 9 ≤ x
    · refine .inl ⟨?_, named_is (nm x) x h9 (by omega) rfl⟩
      have := nm_pos x h9 (by omega)
      rw [nil_tl]
      cases e : (nm x).toList with
      | nil => rw [e] at this; cases this
      | cons a l => rfl
    · refine .inr ⟨nm_zero x (by omega) (by omega), named_empty _ ?_⟩
      rw [nm_zero x (by omega) (by omega), nil_tl]
      rfl
end Go.Proofs.YtgponcjjnjpfkaaGreat.L
/-! PrimTable, walked. -/
namespace Go.Proofs.YtgponcjjnjpfkaaGreat.L
open Go.RowKit
open Go.Proofs
open P
set_option linter.unusedVariables false
set_option linter.unusedSimpArgs false
set_option maxHeartbeats 4000000
set_option maxRecDepth 100000
theorem infoI : (Tryz.prog.info? 3).map (fun i => (i.zero, i.size, i.bytes)) = some (some (.int .i64 0), 1, 8) := by kernel_rfl
def eI (x : Int) : List Value := [.int .i64 x]
theorem hI (a : Int) : (eI a).length = 1 := rfl
def opsL (op : Int) (k : Nat) : List Int := op :: (List.range k).map fun j => ((j : Nat) : Int) - 1
theorem opsL_succ (op : Int) (k : Nat) : opsL op (k + 1) = opsL op k ++ [(k : Int) - 1] := by simp [opsL, List.range_succ]
theorem opsL_len (op : Int) (k : Nat) : (opsL op k).length = k + 1 := by simp [opsL]
theorem own_one (W : World) (t : TypeId) (v : Value) : (W.alloc (.cells #[v] t)).ownsRow W.heap.size t 1 (.slice (some ⟨W.heap.size, 0, none⟩) 1 1) 1 [v] :=
  ⟨by simp, .inr ⟨W.heap.size, 1, #[v], rfl, Nat.le_refl _, heap_alloc_new W _, Nat.le_refl _, by decide, by simp, by simp⟩⟩
theorem own_b {W W' : World} {B : Nat} {e : TypeId} {s : Nat} {v : Value} {n : Nat} {xs : List Value} (h : W.ownsRow B e s v n xs) (b : Below W.heap.size W W') : W'.ownsRow B e s v n xs := S.own_kept h fun x e hx => b.block x hx
theorem emp_of {a : ByteArray} (h : (a.toList == (⟨#[]⟩ : ByteArray).toList) = false) : a.toList.isEmpty = false := by
  rw [nil_tl] at h
  cases e : a.toList with
  | nil => rw [e] at h; cases h
  | cons x l => rfl
theorem emp_nil : (⟨#[]⟩ : ByteArray).toList.isEmpty = true := by rw [nil_tl]; rfl
theorem rx_cell {W : World} {b : Nat} {a0 : Int} {a1 : ByteArray} {a2 a3 a4 : Int} {a5 : Bool} (r : RX W b a0 a1 a2 a3 a4 a5) : W.cell? ⟨b, 0, none⟩ = some (.int .i64 a0) ∧ W.cell? ⟨b, 1, none⟩ = some (.string a1) ∧ W.cell? ⟨b, 2, none⟩ = some (.int .i64 a2) ∧ W.cell? ⟨b, 3, none⟩ = some (.int .i64 a3) ∧ W.cell? ⟨b, 4, none⟩ = some (.int .i64 a4) ∧ W.cell? ⟨b, 5, none⟩ = some (.bool a5) :=
  ⟨S.cell_of W b 0 _ 59 _ r rfl, S.cell_of W b 1 _ 59 _ r rfl, S.cell_of W b 2 _ 59 _ r rfl, S.cell_of W b 3 _ 59 _ r rfl, S.cell_of W b 4 _ 59 _ r rfl, S.cell_of W b 5 _ 59 _ r rfl⟩
theorem sx_keep {bp bq g k : Nat} {o a0 : Int} {a1 : ByteArray} {a2 a3 a4 : Int} {a5 : Bool} {W W' : World} (h : W.cell? ⟨bp, 0, none⟩ = some (.int .i64 a0) ∧ W.cell? ⟨bp, 1, none⟩ = some (.string a1) ∧ W.cell? ⟨bp, 2, none⟩ = some (.int .i64 a2) ∧ W.cell? ⟨bp, 3, none⟩ = some (.int .i64 a3) ∧ W.cell? ⟨bp, 4, none⟩ = some (.int .i64 a4) ∧ W.cell? ⟨bp, 5, none⟩ = some (.bool a5) ∧ W.cell? ⟨bq, 0, none⟩ = some (.int .i64 a0) ∧ W.cell? ⟨bq, 1, none⟩ = some (.string a1) ∧ W.cell? ⟨bq, 2, none⟩ = some (.int .i64 a2) ∧ W.cell? ⟨bq, 3, none⟩ = some (.int .i64 a3) ∧ W.cell? ⟨bq, 4, none⟩ = some (.int .i64 a4) ∧ W.cell? ⟨bq, 5, none⟩ = some (.bool a5) ∧ W.cell? ⟨g, k, none⟩ = some (.int .i64 o)) (b : Below W.heap.size W W') : W'.cell? ⟨bp, 0, none⟩ = some (.int .i64 a0) ∧ W'.cell? ⟨bp, 1, none⟩ = some (.string a1) ∧ W'.cell? ⟨bp, 2, none⟩ = some (.int .i64 a2) ∧ W'.cell? ⟨bp, 3, none⟩ = some (.int .i64 a3) ∧ W'.cell? ⟨bp, 4, none⟩ = some (.int .i64 a4) ∧ W'.cell? ⟨bp, 5, none⟩ = some (.bool a5) ∧ W'.cell? ⟨bq, 0, none⟩ = some (.int .i64 a0) ∧ W'.cell? ⟨bq, 1, none⟩ = some (.string a1) ∧ W'.cell? ⟨bq, 2, none⟩ = some (.int .i64 a2) ∧ W'.cell? ⟨bq, 3, none⟩ = some (.int .i64 a3) ∧ W'.cell? ⟨bq, 4, none⟩ = some (.int .i64 a4) ∧ W'.cell? ⟨bq, 5, none⟩ = some (.bool a5) ∧ W'.cell? ⟨g, k, none⟩ = some (.int .i64 o) := by
  have t : ∀ (p : Addr) (u : Value), W.cell? p = some u → W'.cell? p = some u := fun p u e => by rw [b.cell (World.block_lt_of_cell? W _ e)]; exact e
  obtain ⟨h0, h1, h2, h3, h4, h5, h6, h7, h8, h9, h10, h11, h12⟩ := h
  exact ⟨t _ _ h0, t _ _ h1, t _ _ h2, t _ _ h3, t _ _ h4, t _ _ h5, t _ _ h6, t _ _ h7, t _ _ h8, t _ _ h9, t _ _ h10, t _ _ h11, t _ _ h12⟩
theorem table_walk (op : Int) (name : ByteArray) (w : World) : Calls Tryz.prog 6 #[.int .i64 op, .string name] w fun e w' => e = .returned (.bool true) ∧ Below w.heap.size w w' := by
  go_enter Tryz.func6, Tryz.ntmps6
  go_wp2_with fail
  refine (fixed_any _).mono ?_
  rintro e w0 ⟨rfl, b0⟩
  go_wp2
  go_loopw [5, 6] (fun v i wr => ∃ k : Nat, k ≤ 67 ∧ i = .int .i64 ((k : Int) - 1) ∧ wr.ownsRow w.heap.size 3 1 v (k + 1) (S.en eI (opsL op k)) ∧ Below w.heap.size w wr) (fun _ i _ => (66 - intOf i).toNat)
  case atStart => exact ⟨0, by omega, rfl, S.own_mono (own_one w0 3 _) b0.size, b0.alloc b0.size _⟩
  case round =>
    obtain ⟨k, hk, rfl, hO, hB⟩ := hrel
    by_cases hlt : k < 67
    · have i1 : (k : Int) - 1 < 66 := by omega
      have hn1 : IntKind.i64.wrap ((k : Int) - 1 + 1) = ((k + 1 : Nat) : Int) - 1 := by rw [S.i64_id _ (by omega) (by omega)]; omega
      have hms : (66 - (((k + 1 : Nat) : Int) - 1)).toNat < (66 - ((k : Int) - 1)).toNat := by omega
      have hown := own_b hO (bel_alloc wr (.cells #[.int .i64 ((k : Int) - 1)] 3))
      have hcs : S.Cs (wr.alloc (.cells #[.int .i64 ((k : Int) - 1)] 3)) (.slice (some ⟨wr.heap.size, 0, none⟩) 1 1) 1 1 [.int .i64 ((k : Int) - 1)] := by
        refine .inr ⟨⟨wr.heap.size, 0, none⟩, 1, rfl, rfl, ?_, by intro x hx; simp at hx; subst hx; rfl⟩
        intro j x hj
        have e : (⟨wr.heap.size, 0, none⟩ : Addr).add j = ⟨wr.heap.size, j, none⟩ := by rw [Addr.add_lit]; simp
        rw [e]
        exact S.cell_of _ _ _ [.int .i64 ((k : Int) - 1)] 3 x (heap_alloc_new wr _) hj
      have hwz : w.heap.size ≤ (wr.alloc (.cells #[.int .i64 ((k : Int) - 1)] 3)).heap.size := by have := hB.size; simp; omega
      have hend : ∀ v' w4, w4.ownsRow w.heap.size 3 1 v' (k + 1 + 1) (S.en eI (opsL op k) ++ [.int .i64 ((k : Int) - 1)]) → S.Grew (wr.alloc (.cells #[.int .i64 ((k : Int) - 1)] 3)) w4 u5 v' →
          w4.ownsRow w.heap.size 3 1 v' (k + 1 + 1) (S.en eI (opsL op (k + 1))) ∧ Below w.heap.size w w4 := by
        intro v' w4 ho hg
        refine ⟨by rw [opsL_succ, S.en_append]; exact ho, hg.belowAll (fun x e => (hO.lt x e).1) (N := w.heap.size) (W0 := w) (hB.alloc hB.size _) (Nat.le_refl _)⟩
      have HE := S.hid hend
      have HM := S.hid hms
      clear hend hO hB hms
      generalize hz : (k : Int) - 1 = z at *
      go_wp2_with (first | (at_builtin; refine S.wpList_append_row _ rfl _ _ 64 3 _ 1 8 Tryz.underlying64 infoI rfl (by decide) rfl w.heap.size _ (k + 1) _ rfl hown _ 1 [.int .i64 z] rfl hcs (by unfold S.room; omega) (by unfold maxLen; omega) hwz ?_))
      intro v' w4 ho hg
      obtain ⟨hO2, hB2⟩ := HE.out v' w4 ho hg
      have HO2 := S.hid hO2
      have HB2 := S.hid hB2
      clear hO2 hB2 ho hg hown hcs HE
      go_wp2
      go_roundw
      case rel =>
        first
          | exact ⟨k + 1, by omega, by first | rfl | (rw [hn1]) | go_num, HO2.out, HB2.out⟩
          | ((repeat apply Exists.intro); refine ⟨⟨k + 1, by omega, ?_, HO2.out, HB2.out⟩, rfl⟩; first | rfl | (rw [hn1]) | go_num)
      case measure => have := HM.out; simpa [intOf] using this
    · obtain rfl : k = 67 := by omega
      obtain ⟨g, cap, rfl⟩ := S.own_pos hO (by omega)
      have hcells : ∀ j u, (S.en eI (opsL op 67))[j]? = some u → wr.cell? ((⟨g, 0, none⟩ : Addr).add j) = some u := hO.cells (g := g) rfl
      have HC := S.hid hcells
      have HB := S.hid hB
      clear hcells hO hB
      generalize wr = wO at *
      go_wp2
      go_loopw [7] (fun i ws => ∃ k : Nat, k ≤ 68 ∧ i = .int .i64 (k : Int) ∧ Below wO.heap.size wO ws) (fun i _ => 68 - (intOf i).toNat)
      case atStart => exact ⟨0, by omega, rfl, Below.refl _ _⟩
      case round =>
        obtain ⟨k, hk, rfl, hS⟩ := hrel
        by_cases hlt : k < 68
        · obtain ⟨o, ho⟩ : ∃ o, (opsL op 67)[k]? = some o := ⟨_, List.getElem?_eq_getElem (by rw [opsL_len]; exact hlt)⟩
          have hce : wO.cell? ⟨g, k, none⟩ = some (.int .i64 o) := by
            have := HC.out k (.int .i64 o) (by have := S.en_get hI (opsL op 67) k 0 o ho (by decide); simpa [eI] using this)
            rw [Addr.add_lit, Nat.zero_add] at this
            exact this
          have hlt1 : (k : Int) < 68 := by omega
          have ck : ∀ W1 W2 : World, Below W1.heap.size W1 W2 → W1.cell? ⟨g, k, none⟩ = some (.int .i64 o) → W2.cell? ⟨g, k, none⟩ = some (.int .i64 o) := fun W1 W2 b e => by rw [b.cell (World.block_lt_of_cell? W1 _ e)]; exact e
          obtain ⟨a0, a1, a2, a3, a4, a5, er, hA, hR, hN⟩ := of_both o
          have hPl := plain_any o
          have hRl := rplain_any o
          generalize plain o = pb at *
          have hsame := same_row a0 a1 a2 a3 a4 a5
          have c0 := ck _ _ hS hce
          unfold rowV at hA hR hsame hN
          have HS := S.hid hS
          clear hS ho
          go_wp2_with fail
          refine (hA _).mono ?_
          rintro e w1 ⟨rfl, b1⟩
          have c1 := ck _ _ (bb b1 (bel_alloc w1 (.cells #[.int .i64 a0, .string a1, .int .i64 a2, .int .i64 a3, .int .i64 a4, .bool a5] 59))) c0
          go_wp2_with fail
          refine (hR _).mono ?_
          rintro e w2 ⟨rfl, b2⟩
          obtain ⟨bp, hbp⟩ : ∃ bp, w1.heap.size = bp := ⟨_, rfl⟩
          have r1 : RX w2 bp a0 a1 a2 a3 a4 a5 := by rw [← hbp]; exact (b2.block _ (by simp)).trans (heap_alloc_new w1 _)
          have b12 : Below wO.heap.size wO w2 := bb HS.out (bb b1 (bb (bel_alloc w1 _) b2))
          have c2 := ck _ _ b2 c1
          rw [hbp]
          clear c0 c1 b1 b2 hA hR hbp
          obtain ⟨w3, hw3⟩ : ∃ w3, w2.alloc (.cells #[.int .i64 a0, .string a1, .int .i64 a2, .int .i64 a3, .int .i64 a4, .bool a5] 59) = w3 := ⟨_, rfl⟩
          obtain ⟨bq, hbq⟩ : ∃ bq, w2.heap.size = bq := ⟨_, rfl⟩
          have r2 : RX w3 bq a0 a1 a2 a3 a4 a5 := by rw [← hw3, ← hbq]; exact heap_alloc_new w2 _
          have b23 : Below w2.heap.size w2 w3 := by rw [← hw3]; exact bel_alloc w2 _
          have r1 := r1.below b23 (S.lt_of r1)
          have c3 := ck _ _ b23 c2
          have B3 := bb b12 b23
          have B3 : Below wO.heap.size wO w3.drew := ⟨B3.os, B3.tape, B3.output, B3.size, B3.block⟩
          have s0 : w3.drew.cell? ⟨bp, 0, none⟩ = some (.int .i64 a0) ∧ w3.drew.cell? ⟨bp, 1, none⟩ = some (.string a1) ∧ w3.drew.cell? ⟨bp, 2, none⟩ = some (.int .i64 a2) ∧ w3.drew.cell? ⟨bp, 3, none⟩ = some (.int .i64 a3) ∧ w3.drew.cell? ⟨bp, 4, none⟩ = some (.int .i64 a4) ∧ w3.drew.cell? ⟨bp, 5, none⟩ = some (.bool a5) ∧ w3.drew.cell? ⟨bq, 0, none⟩ = some (.int .i64 a0) ∧ w3.drew.cell? ⟨bq, 1, none⟩ = some (.string a1) ∧ w3.drew.cell? ⟨bq, 2, none⟩ = some (.int .i64 a2) ∧ w3.drew.cell? ⟨bq, 3, none⟩ = some (.int .i64 a3) ∧ w3.drew.cell? ⟨bq, 4, none⟩ = some (.int .i64 a4) ∧ w3.drew.cell? ⟨bq, 5, none⟩ = some (.bool a5) ∧ w3.drew.cell? ⟨g, k, none⟩ = some (.int .i64 o) := by
            obtain ⟨h0, h1, h2, h3, h4, h5⟩ := rx_cell r1
            obtain ⟨h6, h7, h8, h9, h10, h11⟩ := rx_cell r2
            exact ⟨h0, h1, h2, h3, h4, h5, h6, h7, h8, h9, h10, h11, c3⟩
          clear c2 b12 b23 c3
          go_wp2_with fail
          try rw [hw3]
          try rw [hbq]
          clear hw3 hbq
          go_region_held (fun w' => w'.cell? ⟨bp, 0, none⟩ = some (.int .i64 a0) ∧ w'.cell? ⟨bp, 1, none⟩ = some (.string a1) ∧ w'.cell? ⟨bp, 2, none⟩ = some (.int .i64 a2) ∧ w'.cell? ⟨bp, 3, none⟩ = some (.int .i64 a3) ∧ w'.cell? ⟨bp, 4, none⟩ = some (.int .i64 a4) ∧ w'.cell? ⟨bp, 5, none⟩ = some (.bool a5) ∧ w'.cell? ⟨bq, 0, none⟩ = some (.int .i64 a0) ∧ w'.cell? ⟨bq, 1, none⟩ = some (.string a1) ∧ w'.cell? ⟨bq, 2, none⟩ = some (.int .i64 a2) ∧ w'.cell? ⟨bq, 3, none⟩ = some (.int .i64 a3) ∧ w'.cell? ⟨bq, 4, none⟩ = some (.int .i64 a4) ∧ w'.cell? ⟨bq, 5, none⟩ = some (.bool a5) ∧ w'.cell? ⟨g, k, none⟩ = some (.int .i64 o))
            (with_reducible exact s0)
            (first
              | (go_at_call 25; refine (hsame _).mono ?_; rintro e w6 ⟨rfl, b⟩; have s0 := sx_keep s0 b; have B3 := bb B3 b)
              | (go_at_call 27; refine (hPl _).mono ?_; rintro e w6 ⟨rfl, b⟩; have s0 := sx_keep s0 b; have B3 := bb B3 b)
              | (go_at_call 28; refine (hRl _).mono ?_; rintro e w6 ⟨rfl, b⟩; have s0 := sx_keep s0 b; have B3 := bb B3 b))
          all_goals
            rcases hN with ⟨hne, hN⟩ | ⟨ha, hN⟩
            · have hem := emp_of hne
              go_wp2_with fail
              refine (hN _).mono ?_
              rintro e w7 ⟨rfl, b7⟩
              obtain ⟨w8, hw8⟩ : ∃ w8, w7.alloc (.cells #[.int .i64 a0, .string a1, .int .i64 a2, .int .i64 a3, .int .i64 a4, .bool a5] 59) = w8 := ⟨_, rfl⟩
              obtain ⟨bs, hbs⟩ : ∃ bs, w7.heap.size = bs := ⟨_, rfl⟩
              have r3 : RX w8 bs a0 a1 a2 a3 a4 a5 := by rw [← hw8, ← hbs]; exact heap_alloc_new w7 _
              have b78 : Below w7.heap.size w7 w8 := by rw [← hw8]; exact bel_alloc w7 _
              have s8 := sx_keep s0 (bb b7 b78)
              have s9 := rx_cell r3
              have B8 := S.hid (bb B3 (bb b7 b78))
              clear s0 r1 r2 r3 b7 b78 B3
              go_wp2_with fail
              refine (hsame _).mono ?_
              rintro e w9 ⟨rfl, b9⟩
              have B9 := S.hid (bb B8.out b9)
              clear B8 b9 s8 s9
              go_wp2
              go_roundw
              case rel =>
                first
                  | exact ⟨k + 1, by omega, by go_num, B9.out⟩
                  | ((repeat apply Exists.intro); refine ⟨⟨k + 1, by omega, ?_, B9.out⟩, rfl⟩; go_num)
              case measure => simp [intOf]; omega
            · have hem : a1.toList.isEmpty = true := by rw [ha]; exact emp_nil
              clear ha
              go_wp2_with fail
              refine (hN _).mono ?_
              rintro e w7 ⟨rfl, b7⟩
              have b78 := bel_alloc w7 (.cells #[.int .i64 0, .string ⟨#[]⟩, .int .i64 0, .int .i64 0, .int .i64 0, .bool false] 59)
              have s8 := sx_keep s0 (bb b7 b78)
              have B8 := S.hid (bb B3 (bb b7 b78))
              clear s0 r1 r2 b7 b78 B3
              go_wp2
              go_roundw
              case rel =>
                first
                  | exact ⟨k + 1, by omega, by go_num, B8.out⟩
                  | ((repeat apply Exists.intro); refine ⟨⟨k + 1, by omega, ?_, B8.out⟩, rfl⟩; go_num)
              case measure => simp [intOf]; omega
        · obtain rfl : k = 68 := by omega
          obtain ⟨a0, a1, a2, a3, a4, a5, b, hA, hR⟩ := named_both name
          have hsame := same_row a0 a1 a2 a3 a4 a5
          unfold rowV at hA hR hsame
          have HS := S.hid (bb HB.out hS)
          clear hS HB HC
          go_wp2_with fail
          refine (hA _).mono ?_
          rintro e w1 ⟨rfl, b1⟩
          go_wp2_with fail
          refine (hR _).mono ?_
          rintro e w2 ⟨rfl, b2⟩
          obtain ⟨bp, hbp⟩ : ∃ bp, w1.heap.size = bp := ⟨_, rfl⟩
          have r1 : RX w2 bp a0 a1 a2 a3 a4 a5 := by rw [← hbp]; exact (b2.block _ (by simp)).trans (heap_alloc_new w1 _)
          have b12 := bb HS.out (bb b1 (bb (bel_alloc w1 _) b2))
          rw [hbp]
          clear b1 b2 hA hR hbp
          obtain ⟨w3, hw3⟩ : ∃ w3, w2.alloc (.cells #[.int .i64 a0, .string a1, .int .i64 a2, .int .i64 a3, .int .i64 a4, .bool a5] 59) = w3 := ⟨_, rfl⟩
          obtain ⟨bq, hbq⟩ : ∃ bq, w2.heap.size = bq := ⟨_, rfl⟩
          have r2 : RX w3 bq a0 a1 a2 a3 a4 a5 := by rw [← hw3, ← hbq]; exact heap_alloc_new w2 _
          have b23 : Below w2.heap.size w2 w3 := by rw [← hw3]; exact bel_alloc w2 _
          have r1 := r1.below b23 (S.lt_of r1)
          have B3 := S.hid (bb b12 b23)
          have s1 := rx_cell r1
          have s2 := rx_cell r2
          clear b12 b23
          go_wp2_with fail
          refine (hsame _).mono ?_
          rintro e w4 ⟨rfl, b4⟩
          have B4 := S.hid (bb B3.out b4)
          clear B3 b4 s1 s2 r1 r2
          go_wp2
          go_ret
          exact ⟨rfl, B4.out⟩
end Go.Proofs.YtgponcjjnjpfkaaGreat.L
/-! PrimAll's boxes. -/
namespace Go.Proofs.YtgponcjjnjpfkaaGreat.L
open Go.RowKit Go.Shelf
open Go.Proofs
open P
set_option linter.unusedVariables false
set_option linter.unusedSimpArgs false
set_option maxHeartbeats 4000000
set_option maxRecDepth 100000
attribute [local go_sem] Oper.semAt_some
theorem eqAll (W : World) (f : Fn) (a b : Array Value) : (binOp .eql 56 (.func f a b) .nilFunc).run Tryz.prog W = .ok (.bool false) W := by
  have h : ∀ d : Nat, (Op.equalIn (d + 1) 56 (.func f a b) .nilFunc).run Tryz.prog W = .ok false W := fun d => by
    simp [Op.equalIn, run_underlying Tryz.underlying56]
  have h2 : (Op.equal 56 (.func f a b) .nilFunc).run Tryz.prog W = .ok false W := h 9999
  simp [binOp, h2]
theorem zr (a : Int) : 0 ≤ (wrap64 (a.tmod 64 + 64)).tmod 64 ∧ (wrap64 (a.tmod 64 + 64)).tmod 64 < 64 := by
  have h1 : a.tmod 64 < 64 := Int.tmod_lt_of_pos a (by decide)
  have h2 : -64 < a.tmod 64 := by
    have := Int.tmod_lt_of_pos (-a) (b := 64) (by decide)
    rw [Int.neg_tmod] at this; omega
  have h3 : wrap64 (a.tmod 64 + 64) = a.tmod 64 + 64 := by unfold wrap64; omega
  rw [h3]
  exact ⟨Int.tmod_nonneg _ (by omega), Int.tmod_lt_of_pos _ (by decide)⟩
/-- PrimAll's boxes. -/
def AB (W : World) (B bn : Nat) (z n : Int) (r : Bool) : Prop := W.heap[B]? = some (.cells #[.int .i64 z] 3 (0, 0)) ∧ W.heap[B + 1]? = some (.cells #[.bool r] 4 (0, 0)) ∧ W.heap[B + 1 + 1]? = some (.cells #[.func (.func 54) #[] #[]] 56 (0, 0)) ∧ W.heap[bn]? = some (.cells #[.int .i64 n] 3 (0, 0))
section
variable {W W' : World} {B bn : Nat} {z n : Int} {r : Bool}
theorem AB.kept {row : Option Nat} (h : AB W B bn z n r) (hg : W.grownBy W' row) (hr : ∀ r, row = some r → ∃ o : Obj, W.heap[r]? = some o ∧ o.isCells = false) : AB W' B bn z n r :=
  ⟨blk_kept h.1 hg hr, blk_kept h.2.1 hg hr, blk_kept h.2.2.1 hg hr, blk_kept h.2.2.2 hg hr⟩
theorem AB.below (h : AB W B bn z n r) (b : Below W.heap.size W W') : AB W' B bn z n r :=
  ⟨(b.block _ (S.lt_of h.1)).trans h.1, (b.block _ (S.lt_of h.2.1)).trans h.2.1, (b.block _ (S.lt_of h.2.2.1)).trans h.2.2.1, (b.block _ (S.lt_of h.2.2.2)).trans h.2.2.2⟩
theorem AB.c0 (h : AB W B bn z n r) : W.cell? ⟨B, 0, none⟩ = some (.int .i64 z) := S.cell_of W B 0 [.int .i64 z] 3 _ h.1 rfl
theorem AB.c2 (h : AB W B bn z n r) : W.cell? ⟨B + 1 + 1, 0, none⟩ = some (.func (.func 54) #[] #[]) := S.cell_of W (B + 1 + 1) 0 [.func (.func 54) #[] #[]] 56 _ h.2.2.1 rfl
theorem AB.c3 (h : AB W B bn z n r) : W.cell? ⟨bn, 0, none⟩ = some (.int .i64 n) := S.cell_of W bn 0 [.int .i64 n] 3 _ h.2.2.2 rfl
theorem AB.f3 (h : AB W B bn z n r) : W.frozen? ⟨bn, 0, none⟩ = false := S.frozen_of W bn 0 [.int .i64 n] 3 h.2.2.2
theorem AB.f1 (h : AB W B bn z n r) : W.frozen? ⟨B + 1, 0, none⟩ = false := S.frozen_of W (B + 1) 0 [.bool r] 4 h.2.1
theorem AB.c1 (h : AB W B bn z n r) : W.cell? ⟨B + 1, 0, none⟩ = some (.bool r) := S.cell_of W (B + 1) 0 [.bool r] 4 _ h.2.1 rfl
theorem AB.set (h : AB W B bn z n r) (hb : B + 1 + 1 < bn) (m : Int) : AB (W.setCell ⟨bn, 0, none⟩ (.int .i64 m)) B bn z m r :=
  ⟨(S.setCell_other _ _ _ _ _ (by omega)).trans h.1, (S.setCell_other _ _ _ _ _ (by omega)).trans h.2.1, (S.setCell_other _ _ _ _ _ (by omega)).trans h.2.2.1, S.setCell_heap W bn 0 [.int .i64 n] 3 (.int .i64 m) h.2.2.2⟩
end
theorem same_ne (a0 b0 : Int) (h : a0 ≠ b0) (a1 b1 : ByteArray) (a2 a3 a4 b2 b3 b4 : Int) (a5 b5 : Bool) (w : World) : Calls Tryz.prog 25 #[rowV a0 a1 a2 a3 a4 a5, rowV b0 b1 b2 b3 b4 b5] w fun e w' => e = .returned (.bool false) ∧ Below w.heap.size w w' := by
  have hb : (a0 == b0) = false := beq_eq_false_iff_ne.2 h
  unfold rowV
  go_enter Tryz.func25, Tryz.ntmps25
  go_wp2
  go_ret
  first
    | exact ⟨rfl, ((Below.refl _ w).alloc (Nat.le_refl _) _).alloc (by simp) _⟩
    | exact ⟨by simp [h], ((Below.refl _ w).alloc (Nat.le_refl _) _).alloc (by simp) _⟩
theorem not_pre (k x : Nat) (hx : x ≠ 1 + k) : ¬ (List.range' 1 k ++ [x] <+: allN) := by
  rintro ⟨t, ht⟩
  have h : (List.range' 1 k ++ [x] ++ t)[k]? = allN[k]? := by rw [ht]
  rw [List.getElem?_append_left (by simp), List.getElem?_append_right (by simp)] at h
  rw [List.length_range', Nat.sub_self] at h
  by_cases hk : k < 63
  · have e : allN[k]? = some (1 + k) := by unfold allN; rw [List.getElem?_eq_getElem (by simpa using hk)]; simp
    rw [e] at h
    simp at h
    exact hx h
  · have e : allN[k]? = none := by unfold allN; rw [List.getElem?_eq_none_iff]; simp; omega
    rw [e] at h
    simp at h
theorem own_blk {β : Type} (B D : Nat) (o : Obj) (h : D < B) : OwnFrom B (fun (_ : β) W => W.heap[D]? = some o) := fun _ X Y row hs hg hr =>
  (hg.block D (Array.getElem?_eq_some_iff.1 hs).1 (fun e => by have := (hr D e.symm).1; omega)).trans hs
theorem keeps_of {B : Nat} {W W' : World} (b : Below W.heap.size W W') : KeepsFrom B W W' := ⟨b.size, fun k o _ h0 _ => (b.block k (Array.getElem?_eq_some_iff.1 h0).1).trans h0⟩
end Go.Proofs.YtgponcjjnjpfkaaGreat.L
