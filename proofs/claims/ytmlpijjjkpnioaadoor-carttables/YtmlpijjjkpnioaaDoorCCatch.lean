import Derived.Test.YtmlpijjjkpnioaaDoorCTable
import Derived.Defers
import Derived.Recover
/-! readSections' deferred function literal. -/
namespace Go.Proofs.YtmlpijjjkpnioaaDoor.C
open Go.RowKit
open Go.Proofs
open Go.Proofs.YtmlpijjjkpnioaaDoor.K
set_option linter.unusedVariables false
set_option linter.unusedSimpArgs false
set_option maxHeartbeats 1000000
set_option maxRecDepth 100000
theorem run_assert (W : World) (v : Value) : (Instr.typeAssert (.iface 28 v) 20 28 false).run Tryd.prog W = .ok v W := by
  simp [Instr.typeAssert, run_underlying Tryd.underlying28]
theorem catch_idle (p q : Addr) (w : World) :
    CallsD Tryd.prog 57 #[.pointer (some p), .pointer (some q)] .returning w fun e u' w' => e = .returned (.tuple #[]) ∧ u' = .returning ∧ w' = w := by
  refine callsD_of_wpS Tryd.func57 rfl fun c₀ cs hu => ?_
  apply wpS_seq
  apply wpS_region
  simp [wpOpsS, go_sem, recoverD, hu, Tryd.ntmps57, Exit.thenS]
  have ht : (#[Value.pointer (some p), Value.pointer (some q)] ++ ((Array.replicate 7 undef).setIfInBounds 1 Value.nilIface).setIfInBounds 0 Value.nilIface) = #[Value.pointer (some p), Value.pointer (some q), Value.nilIface, Value.nilIface, undef, undef, undef, undef, undef] := rfl
  rw [ht]
  refine wpS_of_wp ?_
  go_wp2
  clear ht
  cases c₀
  simp_all [bodyPostS, results, Tryd.results57]
theorem catch_panicking (b b' : Nat) (v0 v1 v2 v3 v4 : Value) (w : World) (h : w.heap[b]? = some (.cells #[v0, v1, v2, v3] 27 (0, 0))) (h' : w.heap[b']? = some (.cells #[v4] 28 (0, 0))) :
    CallsD Tryd.prog 57 #[.pointer (some ⟨b, 0, none⟩), .pointer (some ⟨b', 0, none⟩)] (.panicking refused) w fun e u' w' =>
      e = .returned (.tuple #[]) ∧ u' = .panicking [{ v := .iface 28 (.int .i64 73), recovered := true }] ∧ w'.heap[b]? = some (.cells #[.slice none 0 0, .int .u16 0, .slice none 0 0, .slice none 0 0] 27 (0, 0)) ∧ w'.heap[b']? = some (.cells #[.int .i64 73] 28 (0, 0)) ∧ w'.heap.size = w.heap.size ∧ (∀ k, k ≠ b → k ≠ b' → w'.heap[k]? = w.heap[k]?) ∧ w'.os = w.os ∧ w'.tape = w.tape ∧ w'.output = w.output := by
  unfold refused
  refine callsD_of_wpS Tryd.func57 rfl fun c₀ cs hu => ?_
  apply wpS_seq
  apply wpS_region
  simp [wpOpsS, go_sem, recoverD, hu, Tryd.ntmps57, Exit.thenS]
  have ht : (#[Value.pointer (some ⟨b, 0, none⟩), Value.pointer (some ⟨b', 0, none⟩)] ++ ((Array.replicate 7 undef).setIfInBounds 1 (Value.iface 28 (.int .i64 73))).setIfInBounds 0 (Value.iface 28 (.int .i64 73))) = #[Value.pointer (some ⟨b, 0, none⟩), Value.pointer (some ⟨b', 0, none⟩), Value.iface 28 (.int .i64 73), Value.iface 28 (.int .i64 73), undef, undef, undef, undef, undef] := rfl
  rw [ht]
  refine wpS_of_wp ?_
  go_wp2
  clear ht
  have hne : b' ≠ b := by rintro rfl; rw [h] at h'; simp at h'
  have hne2 : b ≠ b' := Ne.symm hne
  have c0 := cell_of w b 0 [v0, v1, v2, v3] _ _ h rfl
  have c1 := cell_of w b 1 [v0, v1, v2, v3] _ _ h rfl
  have c2 := cell_of w b 2 [v0, v1, v2, v3] _ _ h rfl
  have c3 := cell_of w b 3 [v0, v1, v2, v3] _ _ h rfl
  have c4 := cell_of w b' 0 [v4] _ _ h' rfl
  have f0 := frozen_of w b 0 [v0, v1, v2, v3] _ h
  have f1 := frozen_of w b 1 [v0, v1, v2, v3] _ h
  have f2 := frozen_of w b 2 [v0, v1, v2, v3] _ h
  have f3 := frozen_of w b 3 [v0, v1, v2, v3] _ h
  have f4 := frozen_of w b' 0 [v4] _ h'
  obtain ⟨w1, hw1⟩ : ∃ w1, w1 = ((((w.setCell ⟨b, 0, none⟩ (.slice none 0 0)).setCell ⟨b, 1, none⟩ (.int .u16 0)).setCell ⟨b, 2, none⟩ (.slice none 0 0)).setCell ⟨b, 3, none⟩ (.slice none 0 0)) := ⟨_, rfl⟩
  have g1 : w1.heap[b]? = some (.cells [.slice none 0 0, .int .u16 0, .slice none 0 0, .slice none 0 0].toArray 27 (0, 0)) := by
    rw [hw1]; exact setCell_heap _ _ _ _ _ _ (setCell_heap _ _ _ _ _ _ (setCell_heap _ _ _ _ _ _ (setCell_heap _ _ _ [v0, v1, v2, v3] _ _ h)))
  have g2 : ∀ k, k ≠ b → w1.heap[k]? = w.heap[k]? := by
    intro k hk; rw [hw1, setCell_other _ _ _ _ _ hk, setCell_other _ _ _ _ _ hk, setCell_other _ _ _ _ _ hk, setCell_other _ _ _ _ _ hk]
  have g3 : (w1.setCell ⟨b', 0, none⟩ (.int .i64 73)).heap[b']? = some (.cells [.int .i64 73].toArray 28 (0, 0)) := setCell_heap _ _ _ [v4] _ _ ((g2 b' hne).trans h')
  have g4 : (w1.setCell ⟨b', 0, none⟩ (.int .i64 73)).heap[b]? = some (.cells [.slice none 0 0, .int .u16 0, .slice none 0 0, .slice none 0 0].toArray 27 (0, 0)) := by rw [setCell_other _ _ _ _ _ hne2]; exact g1
  have g5 : ∀ k, k ≠ b → k ≠ b' → (w1.setCell ⟨b', 0, none⟩ (.int .i64 73)).heap[k]? = w.heap[k]? := fun k h1 h2 => by rw [setCell_other _ _ _ _ _ h2]; exact g2 k h1
  have g6 : (w1.setCell ⟨b', 0, none⟩ (.int .i64 73)).heap.size = w.heap.size := by rw [hw1]; simp only [setCell_size]
  have g7 : (w1.setCell ⟨b', 0, none⟩ (.int .i64 73)).os = w.os ∧ (w1.setCell ⟨b', 0, none⟩ (.int .i64 73)).tape = w.tape ∧ (w1.setCell ⟨b', 0, none⟩ (.int .i64 73)).output = w.output := by rw [hw1]; exact ⟨rfl, rfl, rfl⟩
  rw [hw1] at g3 g4 g5 g6 g7
  have G := hid (And.intro g4 (And.intro g3 (And.intro g6 (And.intro g5 g7))))
  clear g1 g2 g3 g4 g5 g6 g7 hw1 h h'
  have ta := fun W => run_assert W (.int .i64 73)
  go_region
  obtain ⟨g4, g3, g6, g5, g7, g8, g9⟩ := G.out
  clear G c0 c1 c2 c3 c4 f0 f1 f2 f3 f4 ta hne hne2
  generalize (((((w.setCell ⟨b, 0, none⟩ (.slice none 0 0)).setCell ⟨b, 1, none⟩ (.int .u16 0)).setCell ⟨b, 2, none⟩ (.slice none 0 0)).setCell ⟨b, 3, none⟩ (.slice none 0 0)).setCell ⟨b', 0, none⟩ (.int .i64 73)) = W at *
  refine (?_ : bodyPostS Tryd.prog Tryd.f57 c₀ cs _ _ _ _ _)
  exact ⟨rfl, _, rfl, _, results_none rfl _ _ _, rfl, rfl, g4, g3, g6, fun k h1 h2 => g5 k h1 h2, g7, g8, g9⟩
end Go.Proofs.YtmlpijjjkpnioaaDoor.C
