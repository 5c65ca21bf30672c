import Derived.Test.YtcmaccefjlgbfaaTones
/-! awake. -/
namespace Go.Proofs.Ytcmaccefjlgbfaa
open Go.RowKit
open Go.Proofs
set_option linter.unusedVariables false
set_option linter.unusedSimpArgs false
def aw : MS := st (sc (plt (st (st { m0 with banks := nbk [(1, [9])] } 65280 (b8 1)) 32768 7) 2 1 5) 65284 440) 65286 3
theorem aw_a : ld aw 32768 = 7 := by kernel_rfl
theorem aw_b : ld aw 49218 = 5 := by kernel_rfl
theorem aw_c : ld aw 16384 = 9 := by kernel_rfl
theorem aw_t : aw.tones = [(0, 440, 3)] := by kernel_rfl
theorem Done.below {w w' : World} {B : Nat} {b : Nat} {m : MS} (h : Done w w' (fun k => B ≤ k) b m) (hB : B ≤ w.heap.size) : HasM w' (fun k => B ≤ k) b m ∧ Below B w w' :=
  ⟨h.1.mono fun i hi g => by rcases g with g | ⟨g, _⟩ <;> omega, h.2.below hB fun i f => f⟩
set_option maxHeartbeats 2000000
set_option maxRecDepth 100000
theorem awake_any (w : World) : Calls Try.prog 9 #[] w fun e w' => e = .returned (.bool true) ∧ Below w.heap.size w w' := by
  obtain ⟨W1, hW1⟩ : ∃ W1, W1 = (w.alloc (.cells #[.int .u8 9] 5)).alloc (.cells #[.int .i64 1, .slice (some ⟨w.heap.size, 0, none⟩) 1 1] 37) := ⟨_, rfl⟩
  have hB1 : Below w.heap.size w W1 := by rw [hW1]; exact ((Below.refl _ w).alloc (Nat.le_refl _) _).alloc (by simp) _
  have hbn : BnS W1 (some ⟨w.heap.size + 1, 0, none⟩) [(1, [9])] := by
    intro i t ht
    match i, ht with
    | 0, ht =>
      simp at ht; subst ht
      have hh : W1.heap[w.heap.size + 1]? = some (.cells [.int .i64 1, .slice (some ⟨w.heap.size, 0, none⟩) 1 1].toArray 37 (0, 0)) := by
        rw [hW1]; have := heap_alloc_new (w.alloc (.cells #[.int .u8 9] 5)) (.cells #[.int .i64 1, .slice (some ⟨w.heap.size, 0, none⟩) 1 1] 37); simpa using this
      have hd : W1.heap[w.heap.size]? = some (.cells (bv [9]).toArray 5 (0, 0)) := by
        rw [hW1]; exact (Below.heap_alloc _ _ _ (by simp)).trans (heap_alloc_new w _)
      refine ⟨_, 0, _, rfl, cell_of W1 _ _ _ 37 _ hh rfl, cell_of W1 _ _ _ 37 _ hh rfl, .inr ⟨_, 1, rfl, Nat.le_refl _, fun j b hj => ?_⟩, by decide⟩
      have e : (⟨w.heap.size, 0, none⟩ : Addr).add j = ⟨w.heap.size, j, none⟩ := by rw [Addr.add_lit]; simp
      rw [e]
      exact cell_of W1 _ _ _ 5 _ hd ((bv_get _ _ _).2 ⟨b, hj, rfl⟩)
    | n + 1, ht => simp at ht
  have hnew := new_yes (some ⟨w.heap.size + 1, 0, none⟩) 1 [(1, [9])] (by decide) W1 hbn (by decide)
  rw [hW1] at hnew
  have hsz := hB1.size
  rw [hW1] at hB1 hsz
  clear hbn hW1
  go_enter Try.func9, Try.ntmps9
  go_wp2_with fail
  refine hnew.mono ?_
  rintro e w2 ⟨b, rfl, hM, hB2⟩
  have hB3 : Below w.heap.size w w2 := hB1.trans (hB2.mono hsz)
  replace hM : HasM w2 (fun k => w.heap.size ≤ k) b { m0 with banks := nbk [(1, [9])] } := hM.mono fun i _ hi => Nat.le_trans hsz hi
  clear hnew hB2 hB1 hsz
  obtain ⟨mA, hmA⟩ : ∃ m : MS, m = st { m0 with banks := nbk [(1, [9])] } 65280 (b8 1) := ⟨_, rfl⟩
  have tA : mA.tones = [] := by rw [hmA]; kernel_rfl
  have c1 := choose_any b 1 w2 hM (by decide)
  rw [← hmA] at c1
  go_wp2_with fail
  refine c1.mono ?_
  rintro e w3 ⟨rfl, hD⟩
  obtain ⟨hM, hb⟩ := hD.below hB3.size
  replace hB3 := hB3.trans hb
  clear hb hD c1
  obtain ⟨mB, hmB⟩ : ∃ m : MS, m = st mA 32768 7 := ⟨_, rfl⟩
  have c1 := store_any b 32768 (by omega) (by omega) 7 w3 hM (by rw [tA]; decide)
  have tB : mB.tones = [] := by rw [hmB, hmA]; kernel_rfl
  rw [← hmB] at c1
  rw [show bt 7 = 7 from rfl] at c1
  go_wp2_with fail
  refine c1.mono ?_
  rintro e w4 ⟨rfl, hD⟩
  obtain ⟨hM, hb⟩ := hD.below hB3.size
  replace hB3 := hB3.trans hb
  clear hb hD c1
  obtain ⟨mC, hmC⟩ : ∃ m : MS, m = plt mB 2 1 5 := ⟨_, rfl⟩
  have c1 := plot_any b 2 1 5 (by omega) (by omega) (by omega) (by omega) w4 hM (by rw [tB]; decide)
  have tC : mC.tones = [] := by rw [hmC, hmB, hmA]; kernel_rfl
  rw [← hmC] at c1
  go_wp2_with fail
  refine c1.mono ?_
  rintro e w5 ⟨rfl, hD⟩
  obtain ⟨hM, hb⟩ := hD.below hB3.size
  replace hB3 := hB3.trans hb
  clear hb hD c1
  have c1 := play_any b 440 (by omega) (by omega) 3 w5 hM (by rw [tC]; decide)
  have eaw : st (sc mC 65284 440) 65286 3 = aw := by rw [hmC, hmB, hmA]; rfl
  rw [eaw, show bt 3 = 3 from rfl] at c1
  clear hmA hmB hmC tA tB tC eaw
  go_wp2_with fail
  refine c1.mono ?_
  rintro e w6 ⟨rfl, hD⟩
  obtain ⟨hM, hb⟩ := hD.below hB3.size
  replace hB3 := hB3.trans hb
  clear hb hD c1
  have c1 := tones_any b w6 hM (by rw [aw_t]; decide)
  rw [aw_t] at c1
  go_wp2_with fail
  refine c1.mono ?_
  rintro e w7 ⟨u, rfl, hT, hb⟩
  replace hM := hM.below hb
  replace hB3 := hB3.trans (hb.mono hB3.size)
  obtain ⟨g, cap, rfl⟩ := own_pos hT (by decide)
  have ct := World.ownsRow.cells hT (g := g) rfl 1 (.int .u16 440) rfl
  have e1 : (⟨g, 0, none⟩ : Addr).add 1 = ⟨g, 1, none⟩ := rfl
  rw [e1] at ct
  clear hb c1
  have l1 := load_any b 32768 (by omega) (by omega) w7 hM
  rw [aw_a] at l1
  go_wp2_with fail
  refine l1.mono ?_
  rintro e w8 ⟨rfl, q1, rfl⟩
  clear l1
  have l1 := load_any b 49218 (by omega) (by omega) (w7.drewN q1) (hM.drew q1)
  rw [aw_b] at l1
  go_wp2_with fail
  refine l1.mono ?_
  rintro e w8 ⟨rfl, q2, rfl⟩
  clear l1
  have l1 := fun q => load_any b 16384 (by omega) (by omega) (w7.drewN q) (hM.drew q)
  rw [aw_c] at l1
  go_wp2_with fail
  refine (l1 _).mono ?_
  rintro e w8 ⟨rfl, q3, rfl⟩
  clear l1
  have ct2 : ∀ q, (w7.drewN q).cell? ⟨g, 1, none⟩ = some (.int .u16 440) := fun q => ct
  go_wp2
  go_ret
  exact ⟨rfl, hB3.os, hB3.tape, hB3.output, hB3.size, hB3.block⟩
end Go.Proofs.Ytcmaccefjlgbfaa
