import Derived.Test.YtcnhfgoflfnocaaFixed
import Derived.Deep.OwnRows
/-! StackNames, walked. -/
namespace Go.Proofs.Ytcnhfgoflfnocaa
open Go.RowKit
open Go.Proofs
set_option linter.unusedVariables false
set_option linter.unusedSimpArgs false
def zs (n : Nat) : List Int := List.replicate n 0
theorem zs_len (n : Nat) : (zs n).length = n := List.length_replicate
theorem made_zs (n : Nat) : madeCells #[Value.int .u16 0] n = (en eU (zs n)).toArray := by
  apply Array.ext'
  rw [toList_madeCells_one]
  simp only [zs, en]
  induction n with
  | zero => rfl
  | succ n ih => rw [List.replicate_succ, List.replicate_succ, List.flatMap_cons, ← ih]; rfl
theorem make_zs (n : Nat) (hn : n ≤ 100000) (W : World) : (Instr.makeSlice 22 (.int .i64 (n : Int)) (.int .i64 (n : Int))).run Try.prog W = .ok (.slice (some ⟨W.heap.size, 0, none⟩) n n) (W.alloc (.cells (en eU (zs n)).toArray 32)) := by
  rw [← made_zs]; exact run_make_row' (P := Try.prog) 22 32 (.int .u16 0) 2 Try.underlying22 info32 rfl .i64 .i64 n (by omega) (by omega) W
set_option maxHeartbeats 1000000
set_option maxRecDepth 100000
theorem names_walk (w : World) : Calls Try.prog 4 #[] w fun e w' => e = .returned (.bool true) ∧ Below w.heap.size w w' := by
  have hmk : ∀ W : World, (Instr.makeSlice 22 (.int .i64 257) (.int .i64 257)).run Try.prog W = .ok (.slice (some ⟨W.heap.size, 0, none⟩) 257 257) (W.alloc (.cells (en eU (zs 257)).toArray 32)) := fun W => make_zs 257 (by omega) W
  go_enter Try.func4, Try.ntmps4
  go_wp2_with fail
  refine (rset_nil 3 w).mono ?_
  rintro e w1 ⟨rfl, hw1⟩
  obtain rfl := hw1.symm
  go_wp2_with fail
  refine (rpop_nil 1 w).mono ?_
  rintro e w1 ⟨rfl, hw1⟩
  obtain rfl := hw1.symm
  go_wp2_with fail
  refine (rat_nil 0 1 (by decide) w).mono ?_
  rintro e w1 ⟨rfl, hw1⟩
  obtain rfl := hw1.symm
  go_wp2_with fail
  refine (dneed_nil 0 0 0 (by decide) w).mono ?_
  rintro e w1 ⟨rfl, hw1⟩
  obtain rfl := hw1.symm
  go_wp2_with fail
  refine (dneed_nil 1 0 1 (by decide) w).mono ?_
  rintro e w1 ⟨rfl, hw1⟩
  obtain rfl := hw1.symm
  go_wp2_with fail
  refine (dneed_nil 0 257 2 (by decide) w).mono ?_
  rintro e w1 ⟨rfl, hw1⟩
  obtain rfl := hw1.symm
  go_wp2_with fail
  refine (dpush0 _ none 0 w).mono ?_
  rintro e w1 ⟨rfl, hw1⟩
  obtain rfl := hw1.symm
  obtain ⟨wA, hwA⟩ : ∃ wA, w.alloc (.cells #[.int .u16 1] 32) = wA := ⟨_, rfl⟩
  have BA := hid (show Below w.heap.size w wA by rw [← hwA]; exact (Below.refl _ _).alloc (Nat.le_refl _) _)
  go_wp2_with fail
  refine (dpush_nil _ 1 _ (by decide) wA).mono ?_
  rintro e w1 ⟨rfl, hw1⟩
  obtain rfl := hw1.symm
  go_wp2_with fail
  refine (dpop_nil wA).mono ?_
  rintro e w1 ⟨rfl, hw1⟩
  obtain rfl := hw1.symm
  go_wp2_with fail
  refine (dlen_nil wA).mono ?_
  rintro e w1 ⟨rfl, hw1⟩
  obtain rfl := hw1.symm
  go_wp2_with fail
  refine (dcells_nil wA).mono ?_
  rintro e w1 ⟨rfl, hw1⟩
  obtain rfl := hw1.symm
  go_wp2_with fail
  refine (rpush0 _ none 0 wA).mono ?_
  rintro e w1 ⟨rfl, hw1⟩
  obtain rfl := hw1.symm
  clear hwA
  obtain ⟨wB, hwB⟩ : ∃ wB, wA.alloc (.cells #[.int .i64 1, .int .u16 0] 43) = wB := ⟨_, rfl⟩
  have BB := hid (show Below w.heap.size w wB by rw [← hwB]; exact BA.out.alloc BA.out.size _)
  go_wp2_with fail
  refine (rpush_nil _ 1 _ (by decide) wB).mono ?_
  rintro e w1 ⟨rfl, hw1⟩
  obtain rfl := hw1.symm
  go_wp2_with fail
  refine (rlen_nil wB).mono ?_
  rintro e w1 ⟨rfl, hw1⟩
  obtain rfl := hw1.symm
  go_wp2_with fail
  refine (rcells_nil wB).mono ?_
  rintro e w1 ⟨rfl, hw1⟩
  obtain rfl := hw1.symm
  clear hwB
  obtain ⟨wC, hwC⟩ : ∃ wC, wB.alloc (.cells (en eU (zs 257)).toArray 32) = wC := ⟨_, rfl⟩
  have BC := hid (show Below w.heap.size w wC by rw [← hwC]; exact BB.out.alloc BB.out.size _)
  have sC := hid (show Sl eU 1 wC (some ⟨wB.heap.size, 0, none⟩) (zs 257) from sl_block hU wC _ 32 _ (by rw [← hwC]; exact heap_alloc_new wB _))
  have hst := stacks_any (some ⟨wB.heap.size, 0, none⟩) none 257 0 (zs 257) [] (by rw [zs_len]; decide) (by decide) wC sC.out (fun i a h => by simp at h)
  rw [zs_len] at hst
  go_wp2_with fail
  refine hst.mono ?_
  rintro e w1 ⟨bel, ⟨c, _⟩ | ⟨_, rfl⟩⟩
  · exfalso; rw [mayS, zs_len] at c; exact absurd c (by decide)
  have BD := hid (BC.out.trans (bel.mono BC.out.size))
  clear hst sC bel hwC hmk
  obtain ⟨wE, hwE⟩ : ∃ wE, w1.alloc (.cells #[.int .i64 0, .int .u16 0] 43) = wE := ⟨_, rfl⟩
  have BE := hid (show Below w.heap.size w wE by rw [← hwE]; exact BD.out.alloc BD.out.size _)
  have hst := stacks_any none (some ⟨w1.heap.size, 0, none⟩) 0 1 [] [(0, 0)] (by decide) (by decide) wE (fun i a h => by simp at h) (sl_block hK wE _ 43 _ (by rw [← hwE]; exact heap_alloc_new w1 _))
  go_wp2_with fail
  refine hst.mono ?_
  rintro e w2 ⟨bel, ⟨c, _⟩ | ⟨_, rfl⟩⟩
  · exact absurd c (by decide)
  have BF := hid (BE.out.trans (bel.mono BE.out.size))
  clear hst bel hwE
  go_wp2_with fail
  refine (fixed_any w2).mono ?_
  rintro e w3 ⟨rfl, bel⟩
  have BG := hid (BF.out.trans (bel.mono BF.out.size))
  clear bel
  go_wp2
  go_ret
  exact ⟨rfl, BG.out⟩
end Go.Proofs.Ytcnhfgoflfnocaa
