import Derived.Test.YtcmaccefjlgbfaaSame
/-! A memory that is none. -/
namespace Go.Proofs.Ytcmaccefjlgbfaa
open Go.RowKit
open Go.Proofs
set_option linter.unusedVariables false
set_option linter.unusedSimpArgs false
set_option maxHeartbeats 2000000
set_option maxRecDepth 100000
theorem cell_nil (z : Int) (w : World) : Calls Try.prog 22 #[.pointer none, .int .u16 z] w fun e w' => e = .returned (.int .u16 0) ∧ w' = w := by
  go_enter Try.func22, Try.ntmps22
  go_wp2_with fail
  refine (load_nil _ w).mono ?_
  rintro e w1 ⟨rfl, h⟩
  obtain rfl := h.symm
  go_wp2_with fail
  refine (load_nil _ w).mono ?_
  rintro e w1 ⟨rfl, h⟩
  obtain rfl := h.symm
  go_wp2
  go_ret
  exact ⟨rfl, rfl⟩
theorem pad_nil (w : World) : Calls Try.prog 16 #[.pointer none] w fun e w' => e = .returned (.int .u8 0) ∧ w' = w := by
  go_enter Try.func16, Try.ntmps16
  go_wp2_with fail
  refine (load_nil _ w).mono ?_
  rintro e w1 ⟨rfl, h⟩
  obtain rfl := h.symm
  go_wp2
  go_ret
  exact ⟨rfl, rfl⟩
theorem copy_nil (w : World) : Calls Try.prog 25 #[.pointer none] w fun e w' => e = .returned (.pointer none) ∧ w' = w := by
  go_enter Try.func25, Try.ntmps25
  go_wp2
  go_ret
  exact ⟨rfl, rfl⟩
def mz : MS := { ram := [], scr := [], ch := 0, pad := 0, pitch := 0, vol := 0, time := 0, cyc := 0, tones := [], banks := fun _ => none }
theorem image_nil (w : World) : Calls Try.prog 21 #[.pointer none] w fun e w' => e = .returned (img none 0 0 (.slice none 0 0) (.slice none 0 0) mz) ∧ Below w.heap.size w w' := by
  go_enter Try.func21, Try.ntmps21
  go_wp2
  exact bodyPost_ret (v := .agg #[.slice none 0 0, .slice none 0 0, .slice none 0 0, .int .u8 0, .int .u8 0, .int .u16 0, .int .u8 0, .int .u16 0]) (by simp [results, Try.results21, go_sem]) rfl ⟨rfl, (Below.refl _ w).alloc (Nat.le_refl _) _⟩
theorem memNone_any (at_ x : Int) (x0 : 0 ≤ x) (x1 : x < 65536) (w : World) : Calls Try.prog 4 #[.int .u16 at_, .int .u16 x] w fun e w' => e = .returned (.bool true) ∧ Below w.heap.size w w' := by
  go_enter Try.func4, Try.ntmps4
  go_wp2_with fail
  refine (store_nil _ _ w).mono ?_
  rintro e w1 ⟨rfl, h⟩
  obtain rfl := h.symm
  go_wp2_with fail
  refine (setCell_nil _ _ w).mono ?_
  rintro e w1 ⟨rfl, h⟩
  obtain rfl := h.symm
  go_wp2_with fail
  refine (begin_nil _ w).mono ?_
  rintro e w1 ⟨rfl, h⟩
  obtain rfl := h.symm
  go_wp2_with fail
  refine (at_nil _ w).mono ?_
  rintro e w1 ⟨rfl, h⟩
  obtain rfl := h.symm
  go_wp2_with fail
  refine (plot_nil x x x w x0 x1 x0 x1).mono ?_
  rintro e w1 ⟨rfl, h⟩
  obtain rfl := h.symm
  go_wp2_with fail
  refine (play_nil _ _ w).mono ?_
  rintro e w1 ⟨rfl, h⟩
  obtain rfl := h.symm
  go_wp2_with fail
  refine (choose_nil _ w).mono ?_
  rintro e w1 ⟨rfl, h⟩
  obtain rfl := h.symm
  go_wp2_with fail
  refine (image_nil w).mono ?_
  rintro e w1 ⟨rfl, hB⟩
  unfold img
  obtain ⟨w2, hw2⟩ : ∃ w2, w2 = w1.alloc (.cells #[.slice none 0 0, .slice none 0 0, .slice none 0 0, .int .u8 mz.ch, .int .u8 mz.pad, .int .u16 mz.pitch, .int .u8 mz.vol, .int .u16 mz.time] 48) := ⟨_, rfl⟩
  have hB2 : Below w.heap.size w w2 := by rw [hw2]; exact hB.alloc hB.size _
  have hl := fun z => load_nil z w2
  have hh : w2.heap[w1.heap.size]? = some (.cells [.slice none 0 0, .slice none 0 0, .slice none 0 0, .int .u8 mz.ch, .int .u8 mz.pad, .int .u16 mz.pitch, .int .u8 mz.vol, .int .u16 mz.time].toArray 48 (0, 0)) := by rw [hw2]; exact heap_alloc_new w1 _
  have k0 := cell_of w2 w1.heap.size 0 _ 48 _ hh rfl
  have k1 := cell_of w2 w1.heap.size 1 _ 48 _ hh rfl
  have k2 := cell_of w2 w1.heap.size 2 _ 48 _ hh rfl
  have k3 := cell_of w2 w1.heap.size 3 _ 48 _ hh rfl
  have k4 := cell_of w2 w1.heap.size 4 _ 48 _ hh rfl
  have k5 := cell_of w2 w1.heap.size 5 _ 48 _ hh rfl
  have k6 := cell_of w2 w1.heap.size 6 _ 48 _ hh rfl
  have k7 := cell_of w2 w1.heap.size 7 _ 48 _ hh rfl
  go_wp2_with fail
  rw [← hw2]
  clear hw2 hB hh
  refine (hl _).mono ?_
  rintro e w3 ⟨rfl, h⟩
  obtain rfl := h.symm
  go_wp2_with fail
  refine (cell_nil _ w2).mono ?_
  rintro e w4 ⟨rfl, h⟩
  obtain rfl := h.symm
  go_wp2_with fail
  refine (pad_nil w2).mono ?_
  rintro e w4 ⟨rfl, h⟩
  obtain rfl := h.symm
  go_wp2_with fail
  refine (screen_nil w2).mono ?_
  rintro e w4 ⟨rfl, h⟩
  obtain rfl := h.symm
  go_wp2_with fail
  refine (tones_nil w2).mono ?_
  rintro e w4 ⟨rfl, h⟩
  obtain rfl := h.symm
  go_wp2_with fail
  refine (copy_nil w2).mono ?_
  rintro e w4 ⟨rfl, h⟩
  obtain rfl := h.symm
  have hi := image_any none 0 0 none none 0 0 0 0 mz w2
  unfold img at hi
  go_wp2_with fail
  refine hi.mono ?_
  rintro e w4 ⟨rfl, h⟩
  have hB4 := hB2.trans (h.mono hB2.size)
  have hsm := sameImage_any none none 0 0 [] (by decide) (.slice none 0 0) (.slice none 0 0) (.slice none 0 0) (.slice none 0 0) [] [] mz w4 (fun i t ht => by simp at ht) (fun i t ht => by simp at ht) (.inl ⟨rfl, rfl⟩) (.inl ⟨rfl, rfl⟩) (.inl ⟨rfl, rfl⟩) (.inl ⟨rfl, rfl⟩)
  have z0 : mz.ch = 0 ∧ mz.pad = 0 ∧ mz.pitch = 0 ∧ mz.vol = 0 ∧ mz.time = 0 := ⟨rfl, rfl, rfl, rfl, rfl⟩
  unfold img at hsm
  simp only [z0.1, z0.2.1, z0.2.2.1, z0.2.2.2.1, z0.2.2.2.2, List.length_nil] at hsm ⊢
  clear hi h k0 k1 k2 k3 k4 k5 k6 k7 z0
  go_wp2_with fail
  refine hsm.mono ?_
  rintro e w5 ⟨rfl, h⟩
  have hB5 := hB4.trans (h.mono hB4.size)
  have ha := awake_any w5
  go_wp2_with fail
  refine ha.mono ?_
  rintro e w6 ⟨rfl, h⟩
  have hB6 := hB5.trans (h.mono hB5.size)
  go_wp2
  go_ret
  exact ⟨rfl, hB6⟩
end Go.Proofs.Ytcmaccefjlgbfaa
