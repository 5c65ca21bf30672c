import Derived.Test.YtokhlcioekbjdaaKApart
import Derived.Test.YtokhlcioekbjdaaKRScan
import Derived.Test.YtokhlcioekbjdaaKNames
/-! TokenScans. -/
namespace Go.Proofs.Ytokhlcioekbjdaa.K
open Go.RowKit
open Go.Proofs
open Go.Proofs.Ytokhlcioekbjdaa
set_option linter.unusedVariables false
set_option linter.unusedSimpArgs false
set_option maxHeartbeats 4000000
set_option maxRecDepth 20000

theorem rscan_any (s : ByteArray) (hs : s.size ≤ 140737488355328) (w : World) : Calls Try.prog 15 #[.string s] w fun e w' => Sc w (ans s).1 (ans s).2.1 (ans s).2.2 e w' := by
  by_cases h : 65536 < s.size
  · unfold ans; rw [if_pos h]; exact rscan_long s h (by unfold maxLen; omega) w
  · exact rscan_ok s (by omega) w
theorem ans_len (s : ByteArray) : (ans s).1.length ≤ 65536 := by
  unfold ans
  by_cases h : 65536 < s.size
  · rw [if_pos h]; simp
  · rw [if_neg h]
    split
    · have := (sc_in s.data.toList).1
      rw [T.size_list] at this
      rw [List.length_map]; omega
    · simp
/-- Three lists of one law, each in a row of its own. -/
theorem three_apart {B : Nat} {W : World} {v0 v1 v2 : Value} {l0 l1 l2 : List Tk} {b1 b2 : Nat} (hB : B ≤ W.heap.size)
    (o0 : W.ownsRow B 30 5 v0 l0.length (S.en eT l0)) (o1 : W.ownsRow b1 30 5 v1 l1.length (S.en eT l1)) (o2 : W.ownsRow b2 30 5 v2 l2.length (S.en eT l2))
    (h1 : B ≤ b1) (h2 : b1 ≤ b2) (g0 : ∀ g, v0.ownBlock = some g → g < b1) (g1 : ∀ g, v1.ownBlock = some g → g < b2) :
    P1 B W.heap.size 3 (fun i => if i = 0 then v0 else if i = 1 then v1 else v2) (fun i => if i = 0 then l0.length else if i = 1 then l1.length else l2.length) (W.alloc (.cells #[v0, v1, v2] 22)) (W.alloc (.cells #[v0, v1, v2] 22)) (fun i => if i = 0 then l0 else if i = 1 then l1 else l2) := by
  have hn := heap_alloc_new W (.cells #[v0, v1, v2] 22)
  have b0 := bel_alloc W (.cells #[v0, v1, v2] 22)
  have e0 := (own_below o0 b0)
  have e1 := S.own_mono (own_below o1 b0) h1
  have e2 := S.own_mono (own_below o2 b0) (Nat.le_trans h1 h2)
  refine ⟨Below.refl _ _, Nat.le_trans hB b0.size, fun i hi => ?_, ⟨_, hn⟩, fun i hi => ?_, fun i hi => ?_, fun i j hi hj hij x hx => ?_⟩
  · have : i = 0 ∨ i = 1 ∨ i = 2 := by omega
    rcases this with rfl | rfl | rfl <;> exact cell_of_row _ _ _ _ _ _ hn
  · have : i = 0 ∨ i = 1 ∨ i = 2 := by omega
    rcases this with rfl | rfl | rfl
    · exact e0
    · exact e1
    · exact e2
  · have : i = 0 ∨ i = 1 ∨ i = 2 := by omega
    rcases this with rfl | rfl | rfl <;> rfl
  · have hi' : i = 0 ∨ i = 1 ∨ i = 2 := by omega
    have hj' : j = 0 ∨ j = 1 ∨ j = 2 := by omega
    have a1 := fun g e => (o1.lt g e).1
    have a2 := fun g e => (o2.lt g e).1
    rcases hi' with rfl | rfl | rfl <;> rcases hj' with rfl | rfl | rfl <;> simp at hij hx ⊢ <;> intro e2
    · have := g0 x hx; have := a1 x e2; omega
    · have := g0 x hx; have := a2 x e2; omega
    · have := g0 x e2; have := a1 x hx; omega
    · have := g1 x hx; have := a2 x e2; omega
    · have := g0 x e2; have := a2 x hx; omega
    · have := g1 x e2; have := a2 x hx; omega
theorem scans_walk (s o : ByteArray) (hs : s.size ≤ 140737488355328) (ho : o.size ≤ 140737488355328) (w : World) : Calls Try.prog 7 #[.string s, .string o] w fun e w' => e = .returned (.bool true) ∧ Below w.heap.size w w' := by
  have hS := fun W => scanw_any s hs W
  have hR := fun W => rscan_any s hs W
  have hSo := fun W => scanw_any o ho W
  have hRo := fun W => rscan_any o ho W
  have hE := fun W => end_any s hs W
  have hRE := fun W => rend_any s hs W
  have hl1 := ans_len s
  have hl2 := ans_len o
  generalize ans s = A at *
  generalize ans o = A2 at *
  obtain ⟨ts, p, er⟩ := A
  obtain ⟨tq, po, eo⟩ := A2
  simp only at hS hR hSo hRo hl1 hl2
  generalize T.place s.data.toList s.size = pe at *
  have hnp := fun W => neq_pos W p.1 p.2
  have hne := fun W => neq_pos W pe.1 pe.2
  simp only [pv, pc] at hE hRE
  go_enter Try.func7, Try.ntmps7
  go_wp2_with fail
  refine (fixed_any _).mono ?_
  rintro e w0 ⟨rfl, h0⟩
  have z1 := h0.size
  have HB := hid h0
  go_wp2_with fail
  refine (hS _).mono ?_
  rintro e w1 ⟨⟨v1, rfl, o1⟩, h1⟩
  obtain ⟨pa1, ca1, rfl⟩ := own_val o1
  have z2 := h1.size
  have HB := hid (trB HB.out h1 HB.out.size)
  have g1 : ∀ g, (Value.slice pa1 ts.length ca1).ownBlock = some g → g < w1.heap.size := fun g e => (o1.lt g e).2
  obtain ⟨U1, V1, hU1, hz1, hV1, hb1, p1, q1⟩ := pos_row w1 p
  have z3 := hb1.size
  have o1 := own_below o1 hb1
  have HB := hid (trB HB.out hb1 HB.out.size)
  clear h1 hb1
  go_wp2_with (refine wpList_store_row rfl 24 _ _ rfl w1.heap.size _ rfl rfl 24 #[.int .i64 0, .int .i64 0] hz1 (by exact sizeP) (by rfl) (by simp [Value.oneCell', pc]) ?_)
  refine (hR _).mono ?_
  rintro e w2 ⟨⟨v2, rfl, o2⟩, h2⟩
  obtain ⟨pa2, ca2, rfl⟩ := own_val o2
  have z4 := h2.size
  have p1 := below_cell h2 _ _ p1
  have q1 := below_cell h2 _ _ q1
  have o1 := own_below o1 h2
  have HB := hid (trB HB.out h2 HB.out.size)
  have g2 : ∀ g, (Value.slice pa2 ts.length ca2).ownBlock = some g → g < w2.heap.size := fun g e => (o2.lt g e).2
  obtain ⟨U2, V2, hU2, hz2, hV2, hb2, p2, q2⟩ := pos_row w2 p
  have z5 := hb2.size
  have p1 := below_cell hb2 _ _ p1
  have q1 := below_cell hb2 _ _ q1
  have o1 := own_below o1 hb2
  have o2 := own_below o2 hb2
  have HB := hid (trB HB.out hb2 HB.out.size)
  clear h2 hb2
  go_upto_region 5 with (refine wpList_store_row rfl 24 _ _ rfl w2.heap.size _ rfl rfl 24 #[.int .i64 0, .int .i64 0] hz2 (by exact sizeP) (by rfl) (by simp [Value.oneCell', pc]) ?_)
  go_wp2_with fail
  refine (same_any ts hl1 _ _ _ (S.own_sl hT o1) (S.own_sl hT o2)).mono ?_
  rintro e w3 ⟨rfl, h3⟩
  have z6 := h3.size
  have p1 := below_cell h3 _ _ p1
  have q1 := below_cell h3 _ _ q1
  have p2 := below_cell h3 _ _ p2
  have q2 := below_cell h3 _ _ q2
  have o1 := own_below o1 h3
  have o2 := own_below o2 h3
  have HB := hid (trB HB.out h3 HB.out.size)
  clear h3
  go_wp2_with fail
  refine (hE _).mono ?_
  rintro e w4 ⟨rfl, h4⟩
  have z7 := h4.size
  have p1 := below_cell h4 _ _ p1
  have q1 := below_cell h4 _ _ q1
  have p2 := below_cell h4 _ _ p2
  have q2 := below_cell h4 _ _ q2
  have o1 := own_below o1 h4
  have o2 := own_below o2 h4
  have HB := hid (trB HB.out h4 HB.out.size)
  clear h4
  go_wp2_with fail
  refine (hRE _).mono ?_
  rintro e w5 ⟨rfl, h5⟩
  have z8 := h5.size
  have o1 := own_below o1 h5
  have o2 := own_below o2 h5
  have HB := hid (trB HB.out h5 HB.out.size)
  clear h5 p1 q1 p2 q2
  go_wp2_with fail
  refine (hSo _).mono ?_
  rintro e w6 ⟨⟨v6, rfl, o6⟩, h6⟩
  obtain ⟨pa6, ca6, rfl⟩ := own_val o6
  have z9 := h6.size
  have o1 := own_below o1 h6
  have o2 := own_below o2 h6
  have HB := hid (trB HB.out h6 HB.out.size)
  have g6 : ∀ g, (Value.slice pa6 tq.length ca6).ownBlock = some g → g < w6.heap.size := fun g e => (o6.lt g e).2
  obtain ⟨U6, V6, hU6, hz6, hV6, hb6, p6, q6⟩ := pos_row w6 po
  have z10 := hb6.size
  have o1 := own_below o1 hb6
  have o2 := own_below o2 hb6
  have o6 := own_below o6 hb6
  have HB := hid (trB HB.out hb6 HB.out.size)
  clear h6 hb6
  clear p6 q6
  go_wp2_with (refine wpList_store_row rfl 24 _ _ rfl w6.heap.size _ rfl rfl 24 #[.int .i64 0, .int .i64 0] hz6 (by exact sizeP) (by rfl) (by simp [Value.oneCell', pc]) ?_)
  refine (hRo _).mono ?_
  rintro e w7 ⟨⟨v7, rfl, o7⟩, h7⟩
  obtain ⟨pa7, ca7, rfl⟩ := own_val o7
  have z11 := h7.size
  have o1 := own_below o1 h7
  have o2 := own_below o2 h7
  have o6 := own_below o6 h7
  have HB := hid (trB HB.out h7 HB.out.size)
  have g7 : ∀ g, (Value.slice pa7 tq.length ca7).ownBlock = some g → g < w7.heap.size := fun g e => (o7.lt g e).2
  obtain ⟨U7, V7, hU7, hz7, hV7, hb7, p7, q7⟩ := pos_row w7 po
  have z12 := hb7.size
  have o1 := own_below o1 hb7
  have o2 := own_below o2 hb7
  have o6 := own_below o6 hb7
  have o7 := own_below o7 hb7
  have HB := hid (trB HB.out hb7 HB.out.size)
  clear h7 hb7
  clear p7 q7
  go_wp2_with (refine wpList_store_row rfl 24 _ _ rfl w7.heap.size _ rfl rfl 24 #[.int .i64 0, .int .i64 0] hz7 (by exact sizeP) (by rfl) (by simp [Value.oneCell', pc]) ?_)
  refine (hS _).mono ?_
  rintro e w8 ⟨⟨v8, rfl, o8⟩, h8⟩
  obtain ⟨pa8, ca8, rfl⟩ := own_val o8
  have z13 := h8.size
  have o1 := own_below o1 h8
  have o2 := own_below o2 h8
  have o6 := own_below o6 h8
  have o7 := own_below o7 h8
  have HB := hid (trB HB.out h8 HB.out.size)
  have g8 : ∀ g, (Value.slice pa8 ts.length ca8).ownBlock = some g → g < w8.heap.size := fun g e => (o8.lt g e).2
  obtain ⟨U8, V8, hU8, hz8, hV8, hb8, p8, q8⟩ := pos_row w8 p
  have z14 := hb8.size
  have o1 := own_below o1 hb8
  have o2 := own_below o2 hb8
  have o6 := own_below o6 hb8
  have o7 := own_below o7 hb8
  have o8 := own_below o8 hb8
  have HB := hid (trB HB.out hb8 HB.out.size)
  clear h8 hb8
  clear p8 q8
  go_upto_region 10 with (refine wpList_store_row rfl 24 _ _ rfl w8.heap.size _ rfl rfl 24 #[.int .i64 0, .int .i64 0] hz8 (by exact sizeP) (by rfl) (by simp [Value.oneCell', pc]) ?_)
  go_wp2_with fail
  refine (same_any ts hl1 _ _ _ (S.own_sl hT o8) (S.own_sl hT o2)).mono ?_
  rintro e w9 ⟨rfl, h9⟩
  have z15 := h9.size
  have o1 := own_below o1 h9
  have o2 := own_below o2 h9
  have o6 := own_below o6 h9
  have o7 := own_below o7 h9
  have o8 := own_below o8 h9
  have HB := hid (trB HB.out h9 HB.out.size)
  clear h9
  go_wp2_with fail
  refine (same_any ts hl1 _ _ _ (S.own_sl hT o1) (S.own_sl hT o2)).mono ?_
  rintro e w10 ⟨rfl, h10⟩
  have z16 := h10.size
  have o1 := own_below o1 h10
  have o2 := own_below o2 h10
  have o6 := own_below o6 h10
  have o7 := own_below o7 h10
  have o8 := own_below o8 h10
  have HB := hid (trB HB.out h10 HB.out.size)
  clear h10
  go_wp2_with fail
  refine (same_any tq hl2 _ _ _ (S.own_sl hT o6) (S.own_sl hT o7)).mono ?_
  rintro e w11 ⟨rfl, h11⟩
  have z17 := h11.size
  have o1 := own_below o1 h11
  have o2 := own_below o2 h11
  have o6 := own_below o6 h11
  have o7 := own_below o7 h11
  have o8 := own_below o8 h11
  have HB := hid (trB HB.out h11 HB.out.size)
  clear h11
  have hP := three_apart (B := w0.heap.size) (b1 := w5.heap.size) (b2 := V7.heap.size) (W := w11) (by omega) o1 o6 o8 (by omega) (by omega) (fun g e => by have := g1 g e; omega) (fun g e => by have := g6 g e; omega)
  have hA := apart_any w0.heap.size w11.heap.size 3 3 (by omega) _ _ _ _ hP (fun i hi => by
    have : i = 0 ∨ i = 1 ∨ i = 2 := by omega
    rcases this with rfl | rfl | rfl
    · exact hl1
    · exact hl2
    · exact hl1)
  have HF := hid (show ∀ w12, Below w0.heap.size (w11.alloc (.cells #[.slice pa1 ts.length ca1, .slice pa6 tq.length ca6, .slice pa8 ts.length ca8] 22)) w12 → Below w.heap.size w w12 from fun w12 k => (HB.out.alloc HB.out.size _).trans (k.mono z1))
  clear hP o1 o2 o6 o7 o8 g1 g2 g6 g7 g8
  go_wp2_with fail
  refine hA.mono ?_
  rintro e w12 ⟨rfl, h12⟩
  have HB := hid (HF.out w12 h12)
  clear h12 hA
  go_wp2_with fail
  go_ret
  exact ⟨rfl, HB.out⟩
end Go.Proofs.Ytokhlcioekbjdaa.K
