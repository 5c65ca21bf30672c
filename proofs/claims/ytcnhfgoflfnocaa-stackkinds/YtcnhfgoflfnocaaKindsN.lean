import Derived.Test.YtcnhfgoflfnocaaFixed
import Derived.Deep.DeepCutAuto
/-! StackKinds of an empty list. -/
namespace Go.Proofs.Ytcnhfgoflfnocaa
open Go.RowKit
open Go.Proofs
set_option linter.unusedVariables false
set_option linter.unusedSimpArgs false
set_option maxHeartbeats 4000000
set_option maxRecDepth 100000
theorem kinds_nil0 (p : Option Addr) (c : Nat) (kind n x : Int) (w : World) :
    Calls Try.prog 5 #[.slice p 0 c, .int .i64 kind, .int .i64 n, .int .u16 x] w fun e w' => e = .returned (.bool true) ∧ Below w.heap.size w w' := by
  obtain ⟨wA, hwA⟩ : ∃ wA, w.alloc (.cells z50.toArray 50) = wA := ⟨_, rfl⟩
  have a1 := hasR0 w
  rw [hwA] at a1
  have bA : Below w.heap.size w wA := by rw [← hwA]; exact (Below.refl _ _).alloc (Nat.le_refl _) _
  have A1 := hid a1
  have BA := hid bA
  clear a1 bA
  go_enter Try.func5, Try.ntmps5
  go_wp2_with (first | (refine wpList_build50 rfl rfl ?_))
  refine (rpush0 _ p c wA).mono ?_
  rintro e w1 ⟨rfl, hw1⟩
  obtain rfl := hw1.symm
  clear hwA
  go_wp2_with fail
  refine (fixed_any wA).mono ?_
  rintro e w2 ⟨rfl, bel⟩
  have A2 := hid (A1.out.below bel)
  have B2 := hid (BA.out.trans (bel.mono BA.out.size))
  clear bel A1 BA
  generalize hb : w.heap.size = b at *
  go_wp2
  go_loopw [10] (fun j wr => j = .int .i64 0 ∧ wr = w2) (fun j _ => 0)
  case atStart => exact ⟨rfl, rfl⟩
  case round =>
    obtain ⟨rfl, hwr⟩ := hrel
    obtain rfl := hwr.symm
    by_cases a1 : n < 0
    · have d1 : decide (n < 0) = true := decide_eq_true a1
      go_wp2_with fail
      refine (rat_under b [] n kind (.inl a1) w2 A2.out).mono ?_
      rintro e w4 ⟨rfl, hw4⟩
      obtain rfl := hw4.symm
      go_wp2_with fail
      refine (rset_none b x w2 A2.out).mono ?_
      rintro e w4 ⟨rfl, hw4⟩
      obtain rfl := hw4.symm
      go_wp2_with fail
      refine (rpop_empty b kind w2 A2.out).mono ?_
      rintro e w4 ⟨rfl, hw4⟩
      obtain rfl := hw4.symm
      go_wp2_with fail
      refine (rlen b [] w2 A2.out).mono ?_
      rintro e w4 ⟨rfl, hw4⟩
      obtain rfl := hw4.symm
      go_wp2
      go_ret
      exact ⟨rfl, hb ▸ B2.out⟩
    · have d1 : decide (n < 0) = false := decide_eq_false a1
      have d2 : decide (0 ≤ n) = true := decide_eq_true (by omega)
      go_wp2_with fail
      refine (rat_under b [] n kind (.inr (by simp; omega)) w2 A2.out).mono ?_
      rintro e w4 ⟨rfl, hw4⟩
      obtain rfl := hw4.symm
      go_wp2_with fail
      refine (rset_none b x w2 A2.out).mono ?_
      rintro e w4 ⟨rfl, hw4⟩
      obtain rfl := hw4.symm
      go_wp2_with fail
      refine (rpop_empty b kind w2 A2.out).mono ?_
      rintro e w4 ⟨rfl, hw4⟩
      obtain rfl := hw4.symm
      go_wp2_with fail
      refine (rlen b [] w2 A2.out).mono ?_
      rintro e w4 ⟨rfl, hw4⟩
      obtain rfl := hw4.symm
      go_wp2
      go_ret
      exact ⟨rfl, hb ▸ B2.out⟩
theorem kinds_nil (p : Option Addr) (c : Nat) (ret : List (Int × Int)) (h0 : ret.length = 0) (kind n x : Int) (w : World) :
    Calls Try.prog 5 #[.slice p ret.length c, .int .i64 kind, .int .i64 n, .int .u16 x] w fun e w' => e = .returned (.bool true) ∧ Below w.heap.size w w' := by
  rw [h0]; exact kinds_nil0 p c kind n x w
end Go.Proofs.Ytcnhfgoflfnocaa
