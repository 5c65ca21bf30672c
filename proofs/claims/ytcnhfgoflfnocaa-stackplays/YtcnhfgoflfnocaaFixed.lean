import Derived.Test.YtcnhfgoflfnocaaStacks
/-! The law's fixed. -/
namespace Go.Proofs.Ytcnhfgoflfnocaa
open Go.RowKit
open Go.Proofs
set_option linter.unusedVariables false
set_option linter.unusedSimpArgs false
/-- A slice that lies whole in a block. -/
theorem sl_block {α : Type} {e : α → List Value} {s : Nat} (hs : ∀ a, (e a).length = s) (W : World) (b : Nat) (t : TypeId) (l : List α) (h : W.heap[b]? = some (.cells (en e l).toArray t (0, 0))) : Sl e s W (some ⟨b, 0, none⟩) l := by
  intro i a hi
  refine ⟨b, 0, rfl, fun j u hj => cell_of W b _ _ t _ h ?_⟩
  have hj' : j < s := by rw [← hs a]; exact (List.getElem?_eq_some_iff.1 hj).1
  rw [Nat.zero_add, en_get hs l i j a hi hj']; exact hj
set_option maxHeartbeats 1000000
set_option maxRecDepth 100000
theorem fixed_any (w : World) : Calls Try.prog 8 #[] w fun e w' => e = .returned (.bool true) ∧ Below w.heap.size w w' := by
  obtain ⟨wA, hwA⟩ : ∃ wA, (w.alloc (.cells #[.int .u16 1, .int .u16 2, .int .u16 3] 32)).alloc (.cells #[.int .i64 2, .int .u16 9, .int .i64 3, .int .u16 4] 43) = wA := ⟨_, rfl⟩
  have b0 : Below w.heap.size w wA := by rw [← hwA]; exact ((Below.refl _ _).alloc (Nat.le_refl _) _).alloc (by simp) _
  have p0 : wA.heap[w.heap.size]? = some (.cells (en eU [1, 2, 3]).toArray 32 (0, 0)) := by
    rw [← hwA]; exact (Below.heap_alloc _ _ _ (by simp)).trans (heap_alloc_new w _)
  have p1 : wA.heap[w.heap.size + 1]? = some (.cells (en eK [(2, 9), (3, 4)]).toArray 43 (0, 0)) := by
    rw [← hwA]; have := heap_alloc_new (w.alloc (.cells #[.int .u16 1, .int .u16 2, .int .u16 3] 32)) (.cells #[.int .i64 2, .int .u16 9, .int .i64 3, .int .u16 4] 43); simpa [en, eK] using this
  have hst := stacks_any (some ⟨w.heap.size, 0, none⟩) (some ⟨w.heap.size + 1, 0, none⟩) 3 2 [1, 2, 3] [(2, 9), (3, 4)] (by decide) (by decide) wA (sl_block hU wA _ 32 _ p0) (sl_block hK wA _ 43 _ p1)
  have B0 := hid b0
  clear p0 p1 b0
  go_enter Try.func8, Try.ntmps8
  go_wp2_with fail
  refine hst.mono ?_
  rintro e w1 ⟨bel, ⟨_, b1, b2, rfl, h1, h2, l1, l2, hne⟩ | ⟨c, _⟩⟩
  · have B1 := hid (B0.out.trans (bel.mono B0.out.size))
    have hs := B0.out.size
    have L1 : w.heap.size ≤ b1 := by omega
    have L2 : w.heap.size ≤ b2 := by omega
    have H1 := hid h1
    have H2 := hid h2
    clear hst bel h1 h2 l1 l2 hs hwA
    go_wp2_with fail
    refine (rat_ok b2 _ 0 1 rfl 2 9 rfl w1 H2.out).mono ?_
    rintro e w2 ⟨rfl, q, hq⟩
    have H2' := hid (show HasR w2 b2 [(2, 9), (3, 4)] by rw [hq]; exact H2.out)
    have H1' := hid (show HasD w2 b1 [1, 2, 3] by rw [hq]; exact H1.out)
    have B2 := hid (show Below w.heap.size w w2 by rw [hq]; exact ⟨B1.out.os, B1.out.tape, B1.out.output, B1.out.size, B1.out.block⟩)
    clear hq H1 H2 B1
    go_wp2_with fail
    refine (rat_kind b2 _ 1 0 rfl 3 4 rfl 2 (by decide) w2 H2'.out).mono ?_
    rintro e w3 ⟨rfl, q, hq⟩
    have H2 := hid (show HasR w3 b2 [(2, 9), (3, 4)] by rw [hq]; exact H2'.out)
    have H1 := hid (show HasD w3 b1 [1, 2, 3] by rw [hq]; exact H1'.out)
    have B3 := hid (show Below w.heap.size w w3 by rw [hq]; exact ⟨B2.out.os, B2.out.tape, B2.out.output, B2.out.size, B2.out.block⟩)
    clear hq H1' H2' B2
    go_wp2_with fail
    refine (rat_under b2 _ 2 2 (.inr (by decide)) w3 H2.out).mono ?_
    rintro e w4 ⟨rfl, hw4⟩
    obtain rfl := hw4.symm
    go_wp2_with fail
    refine (dpop b1 [1, 2] 3 w3 H1.out).mono ?_
    rintro e w4 ⟨rfl, h1, t1⟩
    have H2' := hid (H2.out.kept (t1.block _ (lt_of H2.out.1) hne.symm))
    have B4 := hid (B3.out.trans (t1.below L1 B3.out.size))
    have H1' := hid h1
    clear h1 t1 H1 H2 B3
    go_wp2_with fail
    refine (dlen b1 _ w4 H1'.out).mono ?_
    rintro e w5 ⟨rfl, hw5⟩
    obtain rfl := hw5.symm
    go_wp2_with fail
    refine (rlen b2 _ w4 H2'.out).mono ?_
    rintro e w5 ⟨rfl, hw5⟩
    obtain rfl := hw5.symm
    go_wp2
    go_ret
    exact ⟨rfl, B4.out⟩
  · exact absurd c (by decide)
end Go.Proofs.Ytcnhfgoflfnocaa
