import Derived.Test.YtlilefhmohkfkaaGreatDoorPAll
namespace Go.Proofs.YtlilefhmohkfkaaGreatDoor.Q
open Go.RowKit
open Go.Proofs
open P
set_option linter.unusedVariables false
set_option linter.unusedSimpArgs false
set_option maxHeartbeats 2000000
set_option maxRecDepth 100000
theorem rl_42 (w : World) : Calls Tryz.prog 91 #[.int .i64 42] w fun e w' => e = .returned (rowV 42 ⟨#[61]⟩ 2 1 1 false) /\ Below w.heap.size w w' := by
 go_enter Tryz.func91, Tryz.ntmps91
 go_wp2
 exact bodyPost_ret (v := rowV 42 ⟨#[61]⟩ 2 1 1 false) (by simp [results, Tryz.results91, go_sem, rowV]) rfl ⟨rfl, bel_alloc w _⟩
theorem rl_43 (w : World) : Calls Tryz.prog 91 #[.int .i64 43] w fun e w' => e = .returned (rowV 43 ⟨#[60, 62]⟩ 2 1 1 false) /\ Below w.heap.size w w' := by
 go_enter Tryz.func91, Tryz.ntmps91
 go_wp2
 exact bodyPost_ret (v := rowV 43 ⟨#[60, 62]⟩ 2 1 1 false) (by simp [results, Tryz.results91, go_sem, rowV]) rfl ⟨rfl, bel_alloc w _⟩
theorem rl_44 (w : World) : Calls Tryz.prog 91 #[.int .i64 44] w fun e w' => e = .returned (rowV 44 ⟨#[60]⟩ 2 1 1 false) /\ Below w.heap.size w w' := by
 go_enter Tryz.func91, Tryz.ntmps91
 go_wp2
 exact bodyPost_ret (v := rowV 44 ⟨#[60]⟩ 2 1 1 false) (by simp [results, Tryz.results91, go_sem, rowV]) rfl ⟨rfl, bel_alloc w _⟩
theorem rl_45 (w : World) : Calls Tryz.prog 91 #[.int .i64 45] w fun e w' => e = .returned (rowV 45 ⟨#[62]⟩ 2 1 1 false) /\ Below w.heap.size w w' := by
 go_enter Tryz.func91, Tryz.ntmps91
 go_wp2
 exact bodyPost_ret (v := rowV 45 ⟨#[62]⟩ 2 1 1 false) (by simp [results, Tryz.results91, go_sem, rowV]) rfl ⟨rfl, bel_alloc w _⟩
theorem rl_46 (w : World) : Calls Tryz.prog 91 #[.int .i64 46] w fun e w' => e = .returned (rowV 46 ⟨#[117, 60]⟩ 2 1 1 false) /\ Below w.heap.size w w' := by
 go_enter Tryz.func91, Tryz.ntmps91
 go_wp2
 exact bodyPost_ret (v := rowV 46 ⟨#[117, 60]⟩ 2 1 1 false) (by simp [results, Tryz.results91, go_sem, rowV]) rfl ⟨rfl, bel_alloc w _⟩
theorem rl_47 (w : World) : Calls Tryz.prog 91 #[.int .i64 47] w fun e w' => e = .returned (rowV 47 ⟨#[117, 62]⟩ 2 1 1 false) /\ Below w.heap.size w w' := by
 go_enter Tryz.func91, Tryz.ntmps91
 go_wp2
 exact bodyPost_ret (v := rowV 47 ⟨#[117, 62]⟩ 2 1 1 false) (by simp [results, Tryz.results91, go_sem, rowV]) rfl ⟨rfl, bel_alloc w _⟩
theorem rl_48 (w : World) : Calls Tryz.prog 91 #[.int .i64 48] w fun e w' => e = .returned (rowV 48 ⟨#[48, 61]⟩ 1 1 1 false) /\ Below w.heap.size w w' := by
 go_enter Tryz.func91, Tryz.ntmps91
 go_wp2
 exact bodyPost_ret (v := rowV 48 ⟨#[48, 61]⟩ 1 1 1 false) (by simp [results, Tryz.results91, go_sem, rowV]) rfl ⟨rfl, bel_alloc w _⟩
theorem rl_49 (w : World) : Calls Tryz.prog 91 #[.int .i64 49] w fun e w' => e = .returned (rowV 49 ⟨#[48, 60]⟩ 1 1 1 false) /\ Below w.heap.size w w' := by
 go_enter Tryz.func91, Tryz.ntmps91
 go_wp2
 exact bodyPost_ret (v := rowV 49 ⟨#[48, 60]⟩ 1 1 1 false) (by simp [results, Tryz.results91, go_sem, rowV]) rfl ⟨rfl, bel_alloc w _⟩
theorem rl_50 (w : World) : Calls Tryz.prog 91 #[.int .i64 50] w fun e w' => e = .returned (rowV 50 ⟨#[64]⟩ 1 1 2 false) /\ Below w.heap.size w w' := by
 go_enter Tryz.func91, Tryz.ntmps91
 go_wp2
 exact bodyPost_ret (v := rowV 50 ⟨#[64]⟩ 1 1 2 false) (by simp [results, Tryz.results91, go_sem, rowV]) rfl ⟨rfl, bel_alloc w _⟩
theorem rl_51 (w : World) : Calls Tryz.prog 91 #[.int .i64 51] w fun e w' => e = .returned (rowV 51 ⟨#[33]⟩ 2 0 2 false) /\ Below w.heap.size w w' := by
 go_enter Tryz.func91, Tryz.ntmps91
 go_wp2
 exact bodyPost_ret (v := rowV 51 ⟨#[33]⟩ 2 0 2 false) (by simp [results, Tryz.results91, go_sem, rowV]) rfl ⟨rfl, bel_alloc w _⟩
theorem rl_52 (w : World) : Calls Tryz.prog 91 #[.int .i64 52] w fun e w' => e = .returned (rowV 52 ⟨#[99, 64]⟩ 1 1 2 false) /\ Below w.heap.size w w' := by
 go_enter Tryz.func91, Tryz.ntmps91
 go_wp2
 exact bodyPost_ret (v := rowV 52 ⟨#[99, 64]⟩ 1 1 2 false) (by simp [results, Tryz.results91, go_sem, rowV]) rfl ⟨rfl, bel_alloc w _⟩
theorem rl_53 (w : World) : Calls Tryz.prog 91 #[.int .i64 53] w fun e w' => e = .returned (rowV 53 ⟨#[99, 33]⟩ 2 0 2 false) /\ Below w.heap.size w w' := by
 go_enter Tryz.func91, Tryz.ntmps91
 go_wp2
 exact bodyPost_ret (v := rowV 53 ⟨#[99, 33]⟩ 2 0 2 false) (by simp [results, Tryz.results91, go_sem, rowV]) rfl ⟨rfl, bel_alloc w _⟩
theorem rl_54 (w : World) : Calls Tryz.prog 91 #[.int .i64 54] w fun e w' => e = .returned (rowV 54 ⟨#[43, 33]⟩ 2 0 3 false) /\ Below w.heap.size w w' := by
 go_enter Tryz.func91, Tryz.ntmps91
 go_wp2
 exact bodyPost_ret (v := rowV 54 ⟨#[43, 33]⟩ 2 0 3 false) (by simp [results, Tryz.results91, go_sem, rowV]) rfl ⟨rfl, bel_alloc w _⟩
theorem rl_55 (w : World) : Calls Tryz.prog 91 #[.int .i64 55] w fun e w' => e = .returned (rowV 55 ⟨#[62, 114]⟩ 1 0 1 false) /\ Below w.heap.size w w' := by
 go_enter Tryz.func91, Tryz.ntmps91
 go_wp2
 exact bodyPost_ret (v := rowV 55 ⟨#[62, 114]⟩ 1 0 1 false) (by simp [results, Tryz.results91, go_sem, rowV]) rfl ⟨rfl, bel_alloc w _⟩
theorem rl_56 (w : World) : Calls Tryz.prog 91 #[.int .i64 56] w fun e w' => e = .returned (rowV 56 ⟨#[114, 62]⟩ 0 1 1 false) /\ Below w.heap.size w w' := by
 go_enter Tryz.func91, Tryz.ntmps91
 go_wp2
 exact bodyPost_ret (v := rowV 56 ⟨#[114, 62]⟩ 0 1 1 false) (by simp [results, Tryz.results91, go_sem, rowV]) rfl ⟨rfl, bel_alloc w _⟩
theorem rl_57 (w : World) : Calls Tryz.prog 91 #[.int .i64 57] w fun e w' => e = .returned (rowV 57 ⟨#[114, 64]⟩ 0 1 1 false) /\ Below w.heap.size w w' := by
 go_enter Tryz.func91, Tryz.ntmps91
 go_wp2
 exact bodyPost_ret (v := rowV 57 ⟨#[114, 64]⟩ 0 1 1 false) (by simp [results, Tryz.results91, go_sem, rowV]) rfl ⟨rfl, bel_alloc w _⟩
theorem rl_58 (w : World) : Calls Tryz.prog 91 #[.int .i64 58] w fun e w' => e = .returned (rowV 58 ⟨#[105]⟩ 0 1 1 false) /\ Below w.heap.size w w' := by
 go_enter Tryz.func91, Tryz.ntmps91
 go_wp2
 exact bodyPost_ret (v := rowV 58 ⟨#[105]⟩ 0 1 1 false) (by simp [results, Tryz.results91, go_sem, rowV]) rfl ⟨rfl, bel_alloc w _⟩
theorem rl_59 (w : World) : Calls Tryz.prog 91 #[.int .i64 59] w fun e w' => e = .returned (rowV 59 ⟨#[106]⟩ 0 1 1 false) /\ Below w.heap.size w w' := by
 go_enter Tryz.func91, Tryz.ntmps91
 go_wp2
 exact bodyPost_ret (v := rowV 59 ⟨#[106]⟩ 0 1 1 false) (by simp [results, Tryz.results91, go_sem, rowV]) rfl ⟨rfl, bel_alloc w _⟩
theorem rl_60 (w : World) : Calls Tryz.prog 91 #[.int .i64 60] w fun e w' => e = .returned (rowV 60 ⟨#[112, 108, 111, 116]⟩ 3 0 3 false) /\ Below w.heap.size w w' := by
 go_enter Tryz.func91, Tryz.ntmps91
 go_wp2
 exact bodyPost_ret (v := rowV 60 ⟨#[112, 108, 111, 116]⟩ 3 0 3 false) (by simp [results, Tryz.results91, go_sem, rowV]) rfl ⟨rfl, bel_alloc w _⟩
theorem rl_61 (w : World) : Calls Tryz.prog 91 #[.int .i64 61] w fun e w' => e = .returned (rowV 61 ⟨#[112, 97, 100]⟩ 0 1 1 false) /\ Below w.heap.size w w' := by
 go_enter Tryz.func91, Tryz.ntmps91
 go_wp2
 exact bodyPost_ret (v := rowV 61 ⟨#[112, 97, 100]⟩ 0 1 1 false) (by simp [results, Tryz.results91, go_sem, rowV]) rfl ⟨rfl, bel_alloc w _⟩
theorem rl_62 (w : World) : Calls Tryz.prog 91 #[.int .i64 62] w fun e w' => e = .returned (rowV 62 ⟨#[116, 111, 110, 101]⟩ 2 0 2 false) /\ Below w.heap.size w w' := by
 go_enter Tryz.func91, Tryz.ntmps91
 go_wp2
 exact bodyPost_ret (v := rowV 62 ⟨#[116, 111, 110, 101]⟩ 2 0 2 false) (by simp [results, Tryz.results91, go_sem, rowV]) rfl ⟨rfl, bel_alloc w _⟩
theorem rl_63 (w : World) : Calls Tryz.prog 91 #[.int .i64 63] w fun e w' => e = .returned (rowV 63 ⟨#[98, 97, 110, 107]⟩ 1 0 1 false) /\ Below w.heap.size w w' := by
 go_enter Tryz.func91, Tryz.ntmps91
 go_wp2
 exact bodyPost_ret (v := rowV 63 ⟨#[98, 97, 110, 107]⟩ 1 0 1 false) (by simp [results, Tryz.results91, go_sem, rowV]) rfl ⟨rfl, bel_alloc w _⟩
set_option maxHeartbeats 2000000
set_option maxRecDepth 100000
theorem rl_at (x : Nat) (h1 : 1 <= x) (h2 : x < 64) : (x < 21 -> ∀ w, Calls Tryz.prog 89 #[.int .i64 (x : Int)] w fun e w' => e = .returned (rowN x) /\ Below w.heap.size w w') /\ (21 <= x -> x < 42 -> ∀ w, Calls Tryz.prog 90 #[.int .i64 (x : Int)] w fun e w' => e = .returned (rowN x) /\ Below w.heap.size w w') /\ (42 <= x -> ∀ w, Calls Tryz.prog 91 #[.int .i64 (x : Int)] w fun e w' => e = .returned (rowN x) /\ Below w.heap.size w w') := by
 rcases num_cases x h1 h2 with rfl | rfl | rfl | rfl | rfl | rfl | rfl | rfl | rfl | rfl | rfl | rfl | rfl | rfl | rfl | rfl | rfl | rfl | rfl | rfl | rfl | rfl | rfl | rfl | rfl | rfl | rfl | rfl | rfl | rfl | rfl | rfl | rfl | rfl | rfl | rfl | rfl | rfl | rfl | rfl | rfl | rfl | rfl | rfl | rfl | rfl | rfl | rfl | rfl | rfl | rfl | rfl | rfl | rfl | rfl | rfl | rfl | rfl | rfl | rfl | rfl | rfl | rfl
 ·exact ⟨fun _ => rl_1, fun h => absurd h (by decide), fun h => absurd h (by decide)⟩
 ·exact ⟨fun _ => rl_2, fun h => absurd h (by decide), fun h => absurd h (by decide)⟩
 ·exact ⟨fun _ => rl_3, fun h => absurd h (by decide), fun h => absurd h (by decide)⟩
 ·exact ⟨fun _ => rl_4, fun h => absurd h (by decide), fun h => absurd h (by decide)⟩
 ·exact ⟨fun _ => rl_5, fun h => absurd h (by decide), fun h => absurd h (by decide)⟩
 ·exact ⟨fun _ => rl_6, fun h => absurd h (by decide), fun h => absurd h (by decide)⟩
 ·exact ⟨fun _ => rl_7, fun h => absurd h (by decide), fun h => absurd h (by decide)⟩
 ·exact ⟨fun _ => rl_8, fun h => absurd h (by decide), fun h => absurd h (by decide)⟩
 ·exact ⟨fun _ => rl_9, fun h => absurd h (by decide), fun h => absurd h (by decide)⟩
 ·exact ⟨fun _ => rl_10, fun h => absurd h (by decide), fun h => absurd h (by decide)⟩
 ·exact ⟨fun _ => rl_11, fun h => absurd h (by decide), fun h => absurd h (by decide)⟩
 ·exact ⟨fun _ => rl_12, fun h => absurd h (by decide), fun h => absurd h (by decide)⟩
 ·exact ⟨fun _ => rl_13, fun h => absurd h (by decide), fun h => absurd h (by decide)⟩
 ·exact ⟨fun _ => rl_14, fun h => absurd h (by decide), fun h => absurd h (by decide)⟩
 ·exact ⟨fun _ => rl_15, fun h => absurd h (by decide), fun h => absurd h (by decide)⟩
 ·exact ⟨fun _ => rl_16, fun h => absurd h (by decide), fun h => absurd h (by decide)⟩
 ·exact ⟨fun _ => rl_17, fun h => absurd h (by decide), fun h => absurd h (by decide)⟩
 ·exact ⟨fun _ => rl_18, fun h => absurd h (by decide), fun h => absurd h (by decide)⟩
 ·exact ⟨fun _ => rl_19, fun h => absurd h (by decide), fun h => absurd h (by decide)⟩
 ·exact ⟨fun _ => rl_20, fun h => absurd h (by decide), fun h => absurd h (by decide)⟩
 ·exact ⟨fun h => absurd h (by decide), fun _ _ => rl_21, fun h => absurd h (by decide)⟩
 ·exact ⟨fun h => absurd h (by decide), fun _ _ => rl_22, fun h => absurd h (by decide)⟩
 ·exact ⟨fun h => absurd h (by decide), fun _ _ => rl_23, fun h => absurd h (by decide)⟩
 ·exact ⟨fun h => absurd h (by decide), fun _ _ => rl_24, fun h => absurd h (by decide)⟩
 ·exact ⟨fun h => absurd h (by decide), fun _ _ => rl_25, fun h => absurd h (by decide)⟩
 ·exact ⟨fun h => absurd h (by decide), fun _ _ => rl_26, fun h => absurd h (by decide)⟩
 ·exact ⟨fun h => absurd h (by decide), fun _ _ => rl_27, fun h => absurd h (by decide)⟩
 ·exact ⟨fun h => absurd h (by decide), fun _ _ => rl_28, fun h => absurd h (by decide)⟩
 ·exact ⟨fun h => absurd h (by decide), fun _ _ => rl_29, fun h => absurd h (by decide)⟩
 ·exact ⟨fun h => absurd h (by decide), fun _ _ => rl_30, fun h => absurd h (by decide)⟩
 ·exact ⟨fun h => absurd h (by decide), fun _ _ => rl_31, fun h => absurd h (by decide)⟩
 ·exact ⟨fun h => absurd h (by decide), fun _ _ => rl_32, fun h => absurd h (by decide)⟩
 ·exact ⟨fun h => absurd h (by decide), fun _ _ => rl_33, fun h => absurd h (by decide)⟩
 ·exact ⟨fun h => absurd h (by decide), fun _ _ => rl_34, fun h => absurd h (by decide)⟩
 ·exact ⟨fun h => absurd h (by decide), fun _ _ => rl_35, fun h => absurd h (by decide)⟩
 ·exact ⟨fun h => absurd h (by decide), fun _ _ => rl_36, fun h => absurd h (by decide)⟩
 ·exact ⟨fun h => absurd h (by decide), fun _ _ => rl_37, fun h => absurd h (by decide)⟩
 ·exact ⟨fun h => absurd h (by decide), fun _ _ => rl_38, fun h => absurd h (by decide)⟩
 ·exact ⟨fun h => absurd h (by decide), fun _ _ => rl_39, fun h => absurd h (by decide)⟩
 ·exact ⟨fun h => absurd h (by decide), fun _ _ => rl_40, fun h => absurd h (by decide)⟩
 ·exact ⟨fun h => absurd h (by decide), fun _ _ => rl_41, fun h => absurd h (by decide)⟩
 ·exact ⟨fun h => absurd h (by decide), fun _ h => absurd h (by decide), fun _ => rl_42⟩
 ·exact ⟨fun h => absurd h (by decide), fun _ h => absurd h (by decide), fun _ => rl_43⟩
 ·exact ⟨fun h => absurd h (by decide), fun _ h => absurd h (by decide), fun _ => rl_44⟩
 ·exact ⟨fun h => absurd h (by decide), fun _ h => absurd h (by decide), fun _ => rl_45⟩
 ·exact ⟨fun h => absurd h (by decide), fun _ h => absurd h (by decide), fun _ => rl_46⟩
 ·exact ⟨fun h => absurd h (by decide), fun _ h => absurd h (by decide), fun _ => rl_47⟩
 ·exact ⟨fun h => absurd h (by decide), fun _ h => absurd h (by decide), fun _ => rl_48⟩
 ·exact ⟨fun h => absurd h (by decide), fun _ h => absurd h (by decide), fun _ => rl_49⟩
 ·exact ⟨fun h => absurd h (by decide), fun _ h => absurd h (by decide), fun _ => rl_50⟩
 ·exact ⟨fun h => absurd h (by decide), fun _ h => absurd h (by decide), fun _ => rl_51⟩
 ·exact ⟨fun h => absurd h (by decide), fun _ h => absurd h (by decide), fun _ => rl_52⟩
 ·exact ⟨fun h => absurd h (by decide), fun _ h => absurd h (by decide), fun _ => rl_53⟩
 ·exact ⟨fun h => absurd h (by decide), fun _ h => absurd h (by decide), fun _ => rl_54⟩
 ·exact ⟨fun h => absurd h (by decide), fun _ h => absurd h (by decide), fun _ => rl_55⟩
 ·exact ⟨fun h => absurd h (by decide), fun _ h => absurd h (by decide), fun _ => rl_56⟩
 ·exact ⟨fun h => absurd h (by decide), fun _ h => absurd h (by decide), fun _ => rl_57⟩
 ·exact ⟨fun h => absurd h (by decide), fun _ h => absurd h (by decide), fun _ => rl_58⟩
 ·exact ⟨fun h => absurd h (by decide), fun _ h => absurd h (by decide), fun _ => rl_59⟩
 ·exact ⟨fun h => absurd h (by decide), fun _ h => absurd h (by decide), fun _ => rl_60⟩
 ·exact ⟨fun h => absurd h (by decide), fun _ h => absurd h (by decide), fun _ => rl_61⟩
 ·exact ⟨fun h => absurd h (by decide), fun _ h => absurd h (by decide), fun _ => rl_62⟩
 ·exact ⟨fun h => absurd h (by decide), fun _ h => absurd h (by decide), fun _ => rl_63⟩
theorem rrow_at (x : Nat) (h1 : 1 <= x) (h2 : x < 64) (w : World) : Calls Tryz.prog 77 #[.int .i64 (x : Int)] w fun e w' => e = .returned (rowN x) /\ Below w.heap.size w w' := by
 have hl := rl_at x h1 h2
 have k1 : (x : Int) < 21 \/ ¬ (x : Int) < 21 := by omega
 have k2 : (x : Int) < 42 \/ ¬ (x : Int) < 42 := by omega
 have i1 : (x : Int) < 21 -> x < 21 := by omega
 have i2 : ¬ (x : Int) < 21 -> 21 <= x := by omega
 have i3 : (x : Int) < 42 -> x < 42 := by omega
 have i4 : ¬ (x : Int) < 42 -> 42 <= x := by omega
 unfold rowN rowV at *
 obtain ⟨wA, hA⟩ : ∃ wA, w.alloc (.cells #[.int .i64 0, .string { data := #[] }, .int .i64 0, .int .i64 0, .int .i64 0, .bool false] 119) = wA := ⟨_, rfl⟩
 have hb : Below w.heap.size w wA := by rw [<- hA]; exact (Below.refl _ w).alloc (Nat.le_refl _) _
 have hz : wA.heap[w.heap.size]? = some (.cells zR 119 (0, 0)) := by rw [<- hA]; exact heap_alloc_new w _
 generalize nm x = a1 at *
 generalize ri x = a2 at *
 generalize ro x = a3 at *
 generalize rc x = a4 at *
 generalize rb x = a5 at *
 generalize (x : Int) = a0 at *
 rcases k1 with k | k
 ·have d1 : decide (a0 < 21) = true := decide_eq_true k
  have hc := hl.1 (i1 k)
  clear hl k2 i1 i2 i3 i4
  go_enter Tryz.func77, Tryz.ntmps77
  go_wp2_with fail
  refine (hc wA).mono ?_
  rintro e w1 ⟨rfl, h1⟩
  have hz1 : w1.heap[w.heap.size]? = some (.cells zR 119 (0, 0)) := (h1.block _ (S.lt_of hz)).trans hz
  have hb1 : Below w.heap.size w w1 := hb.trans ⟨h1.os, h1.tape, h1.output, h1.size, fun k hk => h1.block k (Nat.lt_of_lt_of_le hk hb.size)⟩
  have hfin := setRow_heap w1 w.heap.size _ #[.int .i64 a0, .string a1, .int .i64 a2, .int .i64 a3, .int .i64 a4, .bool a5] _ _ hz1
  have hbf := Below.setRow hb1 w.heap.size (Nat.le_refl _) #[.int .i64 a0, .string a1, .int .i64 a2, .int .i64 a3, .int .i64 a4, .bool a5]
  go_wp2_with (refine wpList_store_row rfl 119 _ _ rfl w.heap.size _ rfl rfl 119 zR hz1 (by exact sizeR) (by rfl) (by simp [Value.oneCell']) ?_)
  exact bodyPost_ret (results_cell_row rfl _ _ w.heap.size 119 _ (0, 0) _ rfl hfin Tryz.underlying119 rfl (by exact sizeR)) rfl ⟨rfl, hbf⟩
 have d1 : decide (a0 < 21) = false := decide_eq_false k
 rcases k2 with k' | k'
 ·have d2 : decide (a0 < 42) = true := decide_eq_true k'
  have hc := hl.2.1 (i2 k) (i3 k')
  clear hl i1 i2 i3 i4
  go_enter Tryz.func77, Tryz.ntmps77
  go_wp2_with fail
  refine (hc wA).mono ?_
  rintro e w1 ⟨rfl, h1⟩
  have hz1 : w1.heap[w.heap.size]? = some (.cells zR 119 (0, 0)) := (h1.block _ (S.lt_of hz)).trans hz
  have hb1 : Below w.heap.size w w1 := hb.trans ⟨h1.os, h1.tape, h1.output, h1.size, fun k hk => h1.block k (Nat.lt_of_lt_of_le hk hb.size)⟩
  have hfin := setRow_heap w1 w.heap.size _ #[.int .i64 a0, .string a1, .int .i64 a2, .int .i64 a3, .int .i64 a4, .bool a5] _ _ hz1
  have hbf := Below.setRow hb1 w.heap.size (Nat.le_refl _) #[.int .i64 a0, .string a1, .int .i64 a2, .int .i64 a3, .int .i64 a4, .bool a5]
  go_wp2_with (refine wpList_store_row rfl 119 _ _ rfl w.heap.size _ rfl rfl 119 zR hz1 (by exact sizeR) (by rfl) (by simp [Value.oneCell']) ?_)
  exact bodyPost_ret (results_cell_row rfl _ _ w.heap.size 119 _ (0, 0) _ rfl hfin Tryz.underlying119 rfl (by exact sizeR)) rfl ⟨rfl, hbf⟩
 ·have d2 : decide (a0 < 42) = false := decide_eq_false k'
  have hc := hl.2.2 (i4 k')
  clear hl i1 i2 i3 i4
  go_enter Tryz.func77, Tryz.ntmps77
  go_wp2_with fail
  refine (hc wA).mono ?_
  rintro e w1 ⟨rfl, h1⟩
  have hz1 : w1.heap[w.heap.size]? = some (.cells zR 119 (0, 0)) := (h1.block _ (S.lt_of hz)).trans hz
  have hb1 : Below w.heap.size w w1 := hb.trans ⟨h1.os, h1.tape, h1.output, h1.size, fun k hk => h1.block k (Nat.lt_of_lt_of_le hk hb.size)⟩
  have hfin := setRow_heap w1 w.heap.size _ #[.int .i64 a0, .string a1, .int .i64 a2, .int .i64 a3, .int .i64 a4, .bool a5] _ _ hz1
  have hbf := Below.setRow hb1 w.heap.size (Nat.le_refl _) #[.int .i64 a0, .string a1, .int .i64 a2, .int .i64 a3, .int .i64 a4, .bool a5]
  go_wp2_with (refine wpList_store_row rfl 119 _ _ rfl w.heap.size _ rfl rfl 119 zR hz1 (by exact sizeR) (by rfl) (by simp [Value.oneCell']) ?_)
  exact bodyPost_ret (results_cell_row rfl _ _ w.heap.size 119 _ (0, 0) _ rfl hfin Tryz.underlying119 rfl (by exact sizeR)) rfl ⟨rfl, hbf⟩
theorem rof_at (x : Nat) (h1 : 1 <= x) (h2 : x < 64) (w : World) : Calls Tryz.prog 63 #[.int .i64 (x : Int)] w fun e w' => e = .returned (.tuple #[rowN x, .int .i64 0]) /\ Below w.heap.size w w' := by
 have hc := fun w => rrow_at x h1 h2 w
 have d1 : decide ((x : Int) < 1) = false := decide_eq_false (by omega)
 have d2 : decide (63 < (x : Int)) = false := decide_eq_false (by omega)
 unfold rowN rowV at *
 obtain ⟨wA, hA⟩ : ∃ wA, w.alloc (.cells #[.int .i64 0, .string { data := #[] }, .int .i64 0, .int .i64 0, .int .i64 0, .bool false] 119) = wA := ⟨_, rfl⟩
 have hb : Below w.heap.size w wA := by rw [<- hA]; exact (Below.refl _ w).alloc (Nat.le_refl _) _
 have hz : wA.heap[w.heap.size]? = some (.cells zR 119 (0, 0)) := by rw [<- hA]; exact heap_alloc_new w _
 generalize nm x = a1 at *
 generalize ri x = a2 at *
 generalize ro x = a3 at *
 generalize rc x = a4 at *
 generalize rb x = a5 at *
 generalize (x : Int) = a0 at *
 go_enter Tryz.func63, Tryz.ntmps63
 go_wp2_with fail
 refine (hc wA).mono ?_
 rintro e w1 ⟨rfl, h1⟩
 have hz1 : w1.heap[w.heap.size]? = some (.cells zR 119 (0, 0)) := (h1.block _ (S.lt_of hz)).trans hz
 have hb1 : Below w.heap.size w w1 := hb.trans ⟨h1.os, h1.tape, h1.output, h1.size, fun k hk => h1.block k (Nat.lt_of_lt_of_le hk hb.size)⟩
 have hfin := setRow_heap w1 w.heap.size _ #[.int .i64 a0, .string a1, .int .i64 a2, .int .i64 a3, .int .i64 a4, .bool a5] _ _ hz1
 have hbf := Below.setRow hb1 w.heap.size (Nat.le_refl _) #[.int .i64 a0, .string a1, .int .i64 a2, .int .i64 a3, .int .i64 a4, .bool a5]
 go_wp2_with (refine wpList_store_row rfl 119 _ _ rfl w.heap.size _ rfl rfl 119 zR hz1 (by exact sizeR) (by rfl) (by simp [Value.oneCell']) ?_)
 refine bodyPost_ret (v := .tuple #[.agg #[.int .i64 a0, .string a1, .int .i64 a2, .int .i64 a3, .int .i64 a4, .bool a5], .int .i64 0]) ?_ rfl ⟨rfl, hbf⟩
 rw [results_cell_tmp rfl]
 simp [asAddr, run_loadVar_row _ w.heap.size _ 119 _ _ _ hfin Tryz.underlying119 rfl sizeR]
theorem rof_no (op : Int) (h : op < 1 \/ 64 <= op) (w : World) : Calls Tryz.prog 63 #[.int .i64 op] w fun e w' => e = .returned (.tuple #[rowV 0 ⟨#[]⟩ 0 0 0 false, .int .i64 60]) /\ Below w.heap.size w w' := by
 by_cases a : op < 1
 ·have e1 : decide (op < 1) = true := decide_eq_true a
  go_enter Tryz.func63, Tryz.ntmps63
  go_wp2
  exact bodyPost_ret (v := .tuple #[rowV 0 ⟨#[]⟩ 0 0 0 false, .int .i64 60]) (by simp [results, Tryz.results63, go_sem, rowV]) rfl ⟨rfl, bel_alloc w _⟩
 ·have e1 : decide (op < 1) = false := decide_eq_false a
  have e2 : decide (63 < op) = true := decide_eq_true (by omega)
  go_enter Tryz.func63, Tryz.ntmps63
  go_wp2
  exact bodyPost_ret (v := .tuple #[rowV 0 ⟨#[]⟩ 0 0 0 false, .int .i64 60]) (by simp [results, Tryz.results63, go_sem, rowV]) rfl ⟨rfl, bel_alloc w _⟩
end Go.Proofs.YtlilefhmohkfkaaGreatDoor.Q
