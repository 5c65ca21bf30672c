import Derived.Test.YtokhlcioekbjdaaKScanX
/-! The worked examples: the law's fixed, TokenNames. -/
namespace Go.Proofs.Ytokhlcioekbjdaa.K
open Go.RowKit
open Go.Proofs
open Go.Proofs.Ytokhlcioekbjdaa
set_option linter.unusedVariables false
set_option linter.unusedSimpArgs false
set_option maxRecDepth 20000

theorem below_cell {W W' : World} (h : Below W.heap.size W W') (a : Addr) (v : Value) (e : W.cell? a = some v) : W'.cell? a = some v := by
  rw [h.cell (World.block_lt_of_cell? W _ e)]; exact e
/-- A place in a block of its own. -/
theorem pos_row (w : World) (p : Int × Int) : ∃ U V, w.alloc (.cells #[.int .i64 0, .int .i64 0] 24) = U ∧ U.heap[w.heap.size]? = some (.cells #[.int .i64 0, .int .i64 0] 24 (0, 0)) ∧ U.setRow w.heap.size (pc p) = V ∧
    Below w.heap.size w V ∧ V.cell? ⟨w.heap.size, 0, none⟩ = some (.int .i64 p.1) ∧ V.cell? ⟨w.heap.size, 1, none⟩ = some (.int .i64 p.2) := by
  have h1 : (w.alloc (.cells #[.int .i64 0, .int .i64 0] 24)).heap[w.heap.size]? = some (.cells #[.int .i64 0, .int .i64 0] 24 (0, 0)) := heap_alloc_new w _
  have h2 := setRow_heap _ w.heap.size _ (pc p) _ _ h1
  exact ⟨_, _, rfl, h1, rfl, Below.setRow (bel_alloc w _) w.heap.size (Nat.le_refl _) _, cell_of_row _ _ 0 _ _ _ h2, cell_of_row _ _ 1 _ _ _ h2⟩
/-- The cells of one token of a row. -/
theorem tok_cells {W : World} {B : Nat} {v : Value} {ts : List Tk} (h : W.ownsRow B 30 5 v ts.length (S.en eT ts)) (hn : 0 < ts.length) : ∃ g c, v = .slice (some ⟨g, 0, none⟩) ts.length c ∧ g < W.heap.size ∧ B ≤ g ∧ ∀ i t, ts[i]? = some t →
    W.cell? ⟨g, i * 5, none⟩ = some (.int .i64 t.k) ∧ W.cell? ⟨g, i * 5 + 1, none⟩ = some (.string t.t) ∧ W.cell? ⟨g, i * 5 + 2, none⟩ = some (.int .u16 t.v) ∧ W.cell? ⟨g, i * 5 + 3, none⟩ = some (.int .i64 t.p.1) ∧ W.cell? ⟨g, i * 5 + 4, none⟩ = some (.int .i64 t.p.2) := by
  obtain ⟨g, c, rfl⟩ := S.own_pos h hn
  refine ⟨g, c, rfl, (h.lt g rfl).2, (h.lt g rfl).1, fun i t ht => ?_⟩
  have hi : i < ts.length := (List.getElem?_eq_some_iff.1 ht).1
  have e : ∀ j, j < 5 → W.cell? ⟨g, i * 5 + j, none⟩ = (eT t)[j]? := fun j hj => by
    rw [h.cellAt (i * 5 + j) (by omega), S.en_get hT ts i j t ht hj]
  exact ⟨e 0 (by omega), e 1 (by omega), e 2 (by omega), e 3 (by omega), e 4 (by omega)⟩
theorem a0_is : ans ⟨#[58, 32, 97, 32, 49, 32, 43, 32, 59]⟩ = ([⟨1, ⟨#[58]⟩, 0, (1, 1)⟩, ⟨1, ⟨#[97]⟩, 0, (1, 3)⟩, ⟨2, ⟨#[49]⟩, 1, (1, 5)⟩, ⟨1, ⟨#[43]⟩, 0, (1, 7)⟩, ⟨1, ⟨#[59]⟩, 0, (1, 9)⟩], (0, 0), 0) := by kernel_rfl
theorem a0_scan (w : World) : Calls Try.prog 8 #[.string ⟨#[58, 32, 97, 32, 49, 32, 43, 32, 59]⟩] w fun e w' => Sc w [⟨1, ⟨#[58]⟩, 0, (1, 1)⟩, ⟨1, ⟨#[97]⟩, 0, (1, 3)⟩, ⟨2, ⟨#[49]⟩, 1, (1, 5)⟩, ⟨1, ⟨#[43]⟩, 0, (1, 7)⟩, ⟨1, ⟨#[59]⟩, 0, (1, 9)⟩] (0, 0) 0 e w' := by
  have h := scanw_any ⟨#[58, 32, 97, 32, 49, 32, 43, 32, 59]⟩ (by decide) w
  rw [a0_is] at h
  exact h
theorem a1_is : ans ⟨#[40, 32, 97]⟩ = ([], (1, 1), 92) := by kernel_rfl
theorem a1_scan (w : World) : Calls Try.prog 8 #[.string ⟨#[40, 32, 97]⟩] w fun e w' => Sc w [] (1, 1) 92 e w' := by
  have h := scanw_any ⟨#[40, 32, 97]⟩ (by decide) w
  rw [a1_is] at h
  exact h
theorem a2_is : ans ⟨#[97, 0, 98]⟩ = ([], (1, 2), 91) := by kernel_rfl
theorem a2_scan (w : World) : Calls Try.prog 8 #[.string ⟨#[97, 0, 98]⟩] w fun e w' => Sc w [] (1, 2) 91 e w' := by
  have h := scanw_any ⟨#[97, 0, 98]⟩ (by decide) w
  rw [a2_is] at h
  exact h
theorem a3_is : ans ⟨#[55, 48, 48, 48, 48]⟩ = ([], (1, 1), 21) := by kernel_rfl
theorem a3_scan (w : World) : Calls Try.prog 8 #[.string ⟨#[55, 48, 48, 48, 48]⟩] w fun e w' => Sc w [] (1, 1) 21 e w' := by
  have h := scanw_any ⟨#[55, 48, 48, 48, 48]⟩ (by decide) w
  rw [a3_is] at h
  exact h
theorem a4_is : ans ⟨#[120, 32, 49, 50, 51, 52, 53, 54, 55, 56, 57, 48, 49, 50, 51, 52, 53, 54, 55, 56, 57, 48, 49, 50, 51, 52, 53, 54, 55, 56, 57, 48, 49, 50]⟩ = ([], (1, 3), 93) := by kernel_rfl
theorem a4_scan (w : World) : Calls Try.prog 8 #[.string ⟨#[120, 32, 49, 50, 51, 52, 53, 54, 55, 56, 57, 48, 49, 50, 51, 52, 53, 54, 55, 56, 57, 48, 49, 50, 51, 52, 53, 54, 55, 56, 57, 48, 49, 50]⟩] w fun e w' => Sc w [] (1, 3) 93 e w' := by
  have h := scanw_any ⟨#[120, 32, 49, 50, 51, 52, 53, 54, 55, 56, 57, 48, 49, 50, 51, 52, 53, 54, 55, 56, 57, 48, 49, 50, 51, 52, 53, 54, 55, 56, 57, 48, 49, 50]⟩ (by decide) w
  rw [a4_is] at h
  exact h
theorem a5_is : ans ⟨#[92, 32, 104, 105, 10, 40, 32, 120, 10, 121, 41, 100, 117, 112]⟩ = ([⟨1, ⟨#[100, 117, 112]⟩, 0, (3, 3)⟩], (0, 0), 0) := by kernel_rfl
theorem a5_scan (w : World) : Calls Try.prog 8 #[.string ⟨#[92, 32, 104, 105, 10, 40, 32, 120, 10, 121, 41, 100, 117, 112]⟩] w fun e w' => Sc w [⟨1, ⟨#[100, 117, 112]⟩, 0, (3, 3)⟩] (0, 0) 0 e w' := by
  have h := scanw_any ⟨#[92, 32, 104, 105, 10, 40, 32, 120, 10, 121, 41, 100, 117, 112]⟩ (by decide) w
  rw [a5_is] at h
  exact h
theorem a0_end : T.place (⟨#[58, 32, 97, 32, 49, 32, 43, 32, 59]⟩ : ByteArray).data.toList (⟨#[58, 32, 97, 32, 49, 32, 43, 32, 59]⟩ : ByteArray).size = (1, 10) := by kernel_rfl
theorem e0_end (w : World) : Calls Try.prog 11 #[.string ⟨#[58, 32, 97, 32, 49, 32, 43, 32, 59]⟩] w fun e w' => e = .returned (pv (1, 10)) ∧ Below w.heap.size w w' := by
  have h := end_any ⟨#[58, 32, 97, 32, 49, 32, 43, 32, 59]⟩ (by decide) w
  rw [a0_end] at h
  exact h
theorem fixed_any (w : World) : Calls Try.prog 9 #[] w fun e w' => e = .returned (.bool true) ∧ Below w.heap.size w w' := by
  go_enter Try.func9, Try.ntmps9
  go_wp2_with fail
  refine (a0_scan _).mono ?_
  rintro e w1 ⟨⟨v1, rfl, ho1⟩, h1⟩
  have HB := hid h1
  obtain ⟨g, c, rfl, hg, _, hcs⟩ := tok_cells ho1 (by decide)
  obtain ⟨a0, a1, a2, a3, a4⟩ := hcs 0 _ rfl
  obtain ⟨b0, b1, b2, b3, b4⟩ := hcs 2 _ rfl
  clear hcs ho1 h1
  simp only [Nat.zero_mul, Nat.zero_add] at a0 a1 a2 a3 a4
  simp only [Nat.reduceMul, Nat.reduceAdd] at b0 b1 b2 b3 b4
  obtain ⟨U1, V1, hU1, hz1, hV1, hb1, p1, q1⟩ := pos_row w1 (0, 0)
  have a0 := below_cell hb1 _ _ a0
  have a1 := below_cell hb1 _ _ a1
  have a2 := below_cell hb1 _ _ a2
  have a3 := below_cell hb1 _ _ a3
  have a4 := below_cell hb1 _ _ a4
  have b0 := below_cell hb1 _ _ b0
  have b1 := below_cell hb1 _ _ b1
  have b2 := below_cell hb1 _ _ b2
  have b3 := below_cell hb1 _ _ b3
  have b4 := below_cell hb1 _ _ b4
  have HB := hid (trB HB.out hb1 HB.out.size)
  go_wp2_with (refine wpList_store_row rfl 24 _ _ rfl w1.heap.size _ rfl rfl 24 #[.int .i64 0, .int .i64 0] hz1 (by exact sizeP) (by rfl) (by simp [Value.oneCell', pc]) ?_)
  refine (e0_end _).mono ?_
  rintro e w2 ⟨rfl, h2⟩
  have a0 := below_cell h2 _ _ a0
  have a1 := below_cell h2 _ _ a1
  have a2 := below_cell h2 _ _ a2
  have a3 := below_cell h2 _ _ a3
  have a4 := below_cell h2 _ _ a4
  have b0 := below_cell h2 _ _ b0
  have b1 := below_cell h2 _ _ b1
  have b2 := below_cell h2 _ _ b2
  have b3 := below_cell h2 _ _ b3
  have b4 := below_cell h2 _ _ b4
  have p1 := below_cell h2 _ _ p1
  have q1 := below_cell h2 _ _ q1
  have HB := hid (trB HB.out h2 HB.out.size)
  obtain ⟨U2, V2, hU2, hz2, hV2, hb2, p2, q2⟩ := pos_row w2 (1, 10)
  have a0 := below_cell hb2 _ _ a0
  have a1 := below_cell hb2 _ _ a1
  have a2 := below_cell hb2 _ _ a2
  have a3 := below_cell hb2 _ _ a3
  have a4 := below_cell hb2 _ _ a4
  have b0 := below_cell hb2 _ _ b0
  have b1 := below_cell hb2 _ _ b1
  have b2 := below_cell hb2 _ _ b2
  have b3 := below_cell hb2 _ _ b3
  have b4 := below_cell hb2 _ _ b4
  have p1 := below_cell hb2 _ _ p1
  have q1 := below_cell hb2 _ _ q1
  have HB := hid (trB HB.out hb2 HB.out.size)
  go_upto_region 3 with (refine wpList_store_row rfl 24 _ _ rfl w2.heap.size _ rfl rfl 24 #[.int .i64 0, .int .i64 0] hz2 (by exact sizeP) (by rfl) (by simp [Value.oneCell', pc]) ?_)
  go_wp2_with fail
  go_ret
  exact ⟨rfl, HB.out⟩
theorem names_walk (w : World) : Calls Try.prog 3 #[] w fun e w' => e = .returned (.bool true) ∧ Below w.heap.size w w' := by
  go_enter Try.func3, Try.ntmps3
  go_wp2_with fail
  refine (a1_scan _).mono ?_
  rintro e w1 ⟨⟨v1, rfl, ho1⟩, h1⟩
  have HB := hid h1
  clear ho1 h1
  obtain ⟨U1, V1, hU1, hz1, hV1, hb1, p1, q1⟩ := pos_row w1 (1, 1)
  have HB := hid (trB HB.out hb1 HB.out.size)
  clear hb1
  go_wp2_with (refine wpList_store_row rfl 24 _ _ rfl w1.heap.size _ rfl rfl 24 #[.int .i64 0, .int .i64 0] hz1 (by exact sizeP) (by rfl) (by simp [Value.oneCell', pc]) ?_)
  refine (a2_scan _).mono ?_
  rintro e w2 ⟨⟨v2, rfl, ho2⟩, h2⟩
  have p1 := below_cell h2 _ _ p1
  have q1 := below_cell h2 _ _ q1
  have HB := hid (trB HB.out h2 HB.out.size)
  clear ho2 h2
  obtain ⟨U2, V2, hU2, hz2, hV2, hb2, p2, q2⟩ := pos_row w2 (1, 2)
  have p1 := below_cell hb2 _ _ p1
  have q1 := below_cell hb2 _ _ q1
  have HB := hid (trB HB.out hb2 HB.out.size)
  clear hb2
  go_wp2_with (refine wpList_store_row rfl 24 _ _ rfl w2.heap.size _ rfl rfl 24 #[.int .i64 0, .int .i64 0] hz2 (by exact sizeP) (by rfl) (by simp [Value.oneCell', pc]) ?_)
  refine (a3_scan _).mono ?_
  rintro e w3 ⟨⟨v3, rfl, ho3⟩, h3⟩
  have p1 := below_cell h3 _ _ p1
  have q1 := below_cell h3 _ _ q1
  have p2 := below_cell h3 _ _ p2
  have q2 := below_cell h3 _ _ q2
  have HB := hid (trB HB.out h3 HB.out.size)
  clear ho3 h3
  obtain ⟨U3, V3, hU3, hz3, hV3, hb3, p3, q3⟩ := pos_row w3 (1, 1)
  have p1 := below_cell hb3 _ _ p1
  have q1 := below_cell hb3 _ _ q1
  have p2 := below_cell hb3 _ _ p2
  have q2 := below_cell hb3 _ _ q2
  have HB := hid (trB HB.out hb3 HB.out.size)
  clear hb3
  go_wp2_with (refine wpList_store_row rfl 24 _ _ rfl w3.heap.size _ rfl rfl 24 #[.int .i64 0, .int .i64 0] hz3 (by exact sizeP) (by rfl) (by simp [Value.oneCell', pc]) ?_)
  refine (a4_scan _).mono ?_
  rintro e w4 ⟨⟨v4, rfl, ho4⟩, h4⟩
  have p1 := below_cell h4 _ _ p1
  have q1 := below_cell h4 _ _ q1
  have p2 := below_cell h4 _ _ p2
  have q2 := below_cell h4 _ _ q2
  have p3 := below_cell h4 _ _ p3
  have q3 := below_cell h4 _ _ q3
  have HB := hid (trB HB.out h4 HB.out.size)
  clear ho4 h4
  obtain ⟨U4, V4, hU4, hz4, hV4, hb4, p4, q4⟩ := pos_row w4 (1, 3)
  have p1 := below_cell hb4 _ _ p1
  have q1 := below_cell hb4 _ _ q1
  have p2 := below_cell hb4 _ _ p2
  have q2 := below_cell hb4 _ _ q2
  have p3 := below_cell hb4 _ _ p3
  have q3 := below_cell hb4 _ _ q3
  have HB := hid (trB HB.out hb4 HB.out.size)
  clear hb4
  go_wp2_with (refine wpList_store_row rfl 24 _ _ rfl w4.heap.size _ rfl rfl 24 #[.int .i64 0, .int .i64 0] hz4 (by exact sizeP) (by rfl) (by simp [Value.oneCell', pc]) ?_)
  refine (a5_scan _).mono ?_
  rintro e w5 ⟨⟨v5, rfl, ho5⟩, h5⟩
  have p1 := below_cell h5 _ _ p1
  have q1 := below_cell h5 _ _ q1
  have p2 := below_cell h5 _ _ p2
  have q2 := below_cell h5 _ _ q2
  have p3 := below_cell h5 _ _ p3
  have q3 := below_cell h5 _ _ q3
  have p4 := below_cell h5 _ _ p4
  have q4 := below_cell h5 _ _ q4
  have HB := hid (trB HB.out h5 HB.out.size)
  obtain ⟨g, c, rfl, hg, _, hcs⟩ := tok_cells ho5 (by decide)
  obtain ⟨a0, a1, a2, a3, a4⟩ := hcs 0 _ rfl
  clear hcs
  simp only [Nat.zero_mul, Nat.zero_add] at a0 a1 a2 a3 a4
  clear ho5 h5
  obtain ⟨U5, V5, hU5, hz5, hV5, hb5, p5, q5⟩ := pos_row w5 (0, 0)
  have p1 := below_cell hb5 _ _ p1
  have q1 := below_cell hb5 _ _ q1
  have p2 := below_cell hb5 _ _ p2
  have q2 := below_cell hb5 _ _ q2
  have p3 := below_cell hb5 _ _ p3
  have q3 := below_cell hb5 _ _ q3
  have p4 := below_cell hb5 _ _ p4
  have q4 := below_cell hb5 _ _ q4
  have a0 := below_cell hb5 _ _ a0
  have a1 := below_cell hb5 _ _ a1
  have a2 := below_cell hb5 _ _ a2
  have a3 := below_cell hb5 _ _ a3
  have a4 := below_cell hb5 _ _ a4
  have HB := hid (trB HB.out hb5 HB.out.size)
  clear hb5
  go_upto_region 6 with (refine wpList_store_row rfl 24 _ _ rfl w5.heap.size _ rfl rfl 24 #[.int .i64 0, .int .i64 0] hz5 (by exact sizeP) (by rfl) (by simp [Value.oneCell', pc]) ?_)
  go_wp2_with fail
  refine (fixed_any _).mono ?_
  rintro e w6 ⟨rfl, h6⟩
  have HB := hid (trB HB.out h6 HB.out.size)
  go_wp2_with fail
  go_ret
  exact ⟨rfl, HB.out⟩
end Go.Proofs.Ytokhlcioekbjdaa.K
