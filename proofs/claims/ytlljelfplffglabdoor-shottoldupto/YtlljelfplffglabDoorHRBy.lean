import Derived.Test.YtlljelfplffglabDoorHRDg
import Derived.Deep.RegionHeldLaw
/-! The reference's Bytes and Digest. -/
namespace Go.Proofs.YtlljelfplffglabDoor.H
open Go.RowKit
open Go.Proofs
open Go.Proofs.YtlljelfplffglabDoor.K
set_option linter.unusedVariables false
set_option linter.unusedSimpArgs false
set_option maxHeartbeats 4000000
set_option maxRecDepth 100000
/-- The boxed out at B; a row of bytes behind it. -/
structure BX (B : Nat) (cs : Array Value) (w W : World) (v : Value) (l : List UInt8) : Prop where
  below : Below B w W
  box : W.heap[B]? = some (.cells cs 50 (0, 0))
  row : Row W (B + 1) v l
theorem BX.size {B : Nat} {cs : Array Value} {w W : World} {v : Value} {l : List UInt8} (h : BX B cs w W v l) : B + 1 ≤ W.heap.size := (Array.getElem?_eq_some_iff.1 h.box).1
theorem BX.next {B : Nat} {cs : Array Value} {w W W' : World} {v : Value} {l : List UInt8} (h : BX B cs w W v l) (b : Below W.heap.size W W') : BX B cs w W' v l :=
  ⟨h.below.trans (b.mono (by have := h.size; omega)), (b.block _ (by have := h.size; omega)).trans h.box, h.row.below b⟩
theorem BX.grow {B : Nat} {cs : Array Value} {w W W' : World} {v v' : Value} {l l' : List UInt8} (h : BX B cs w W v l) (hr : Row W' (B + 1) v' l') (g : Grew W W' v v') : BX B cs w W' v' l' :=
  have b : Below (B + 1) W W' := below_append h.row g h.size
  ⟨h.below.trans (b.mono (by omega)), (b.block _ (by omega)).trans h.box, hr⟩
theorem BX.new {B : Nat} {cs : Array Value} {w W : World} {v v' : Value} {l l' : List UInt8} {n : Nat} (h : BX B cs w W v l) (hr : Row W n v' l') (hn : B + 1 ≤ n) : BX B cs w W v' l' := ⟨h.below, h.box, hr.mono hn⟩
/-- A byte in a block of its own, that is not the row's. -/
structure TX (G : Nat) (b : UInt8) (W : World) (v : Value) : Prop where
  blk : W.heap[G]? = some (.cells (bv [b]).toArray 5 (0, 0))
  sep : v.ownBlock ≠ some G
theorem TX.next {G : Nat} {b : UInt8} {W W' : World} {v : Value} (h : TX G b W v) (k : Below W.heap.size W W') : TX G b W' v := ⟨(k.block _ (Array.getElem?_eq_some_iff.1 h.blk).1).trans h.blk, h.sep⟩
theorem TX.grow {G : Nat} {b : UInt8} {W W' : World} {v v' : Value} (h : TX G b W v) (g : Grew W W' v v') : TX G b W' v' := by
  have hl := (Array.getElem?_eq_some_iff.1 h.blk).1
  refine ⟨(g.block _ hl (fun e => h.sep e.symm)).trans h.blk, fun e => ?_⟩
  rcases g.own with k | k
  · rw [k] at e; exact h.sep e
  · have := k _ e; omega
theorem TX.make {b : UInt8} {W : World} {v : Value} {B : Nat} {l : List UInt8} (h : Row W B v l) : TX W.heap.size b (W.alloc (.cells (bv [b]).toArray 5)) v := ⟨heap_alloc_new W _, fun e => by have := (h.lt _ e).2; omega⟩
theorem TX.sl {G : Nat} {b : UInt8} {W : World} {v : Value} (h : TX G b W v) : Sl W (.slice (some ⟨G, 0, none⟩) 1 1) [b] := by
  have hr : Row W 0 (.slice (some ⟨G, 0, none⟩) 1 1) [b] := ⟨by simp [bv], .inr ⟨G, 1, (bv [b]).toArray, rfl, Nat.zero_le _, h.blk, Nat.le_refl _, by unfold maxLen; omega, by simp [bv], by simp [bv]⟩⟩
  exact hr.sl
theorem low2_len (x : Nat) : (low 2 x).length = 2 := by rw [low2]; rfl
theorem bytes_any (z0 z1 z2 z3 z4 : Int) (vs vt : Value) (sc : List UInt8) (ts : List Tn) (hl : sc.length + 7 * ts.length + 4096 ≤ room) (w : World) (hs : Sl w vs sc) (ht : S.Ls eT 3 w vt ts) :
    Calls Tryd.prog 35 #[.agg #[.int .i64 z0, .int .i64 z1, .int .i64 z2, .int .i64 z3, .int .i64 z4, vs, vt]] w fun e w' => ∃ v, e = .returned v ∧ Row w' w.heap.size v (dgB z0 z1 z2 z3 z4 sc ts) ∧ Below w.heap.size w w' := by
  obtain ⟨ps, cs, rfl, _⟩ := hs.ex
  obtain ⟨pt, ct, rfl, _, _⟩ := ht.ex
  unfold room at hl
  have HT := hid ht
  have HSC := hid hs
  clear ht hs
  have hX : BX w.heap.size #[.int .i64 z0, .int .i64 z1, .int .i64 z2, .int .i64 z3, .int .i64 z4, .slice ps sc.length cs, .slice pt ts.length ct] w (w.alloc (.cells #[.int .i64 z0, .int .i64 z1, .int .i64 z2, .int .i64 z3, .int .i64 z4, .slice ps sc.length cs, .slice pt ts.length ct] 50)) (.slice none 0 0) [] := ⟨(Below.refl _ _).alloc (Nat.le_refl _) _, heap_alloc_new w _, row_nil _ _⟩
  obtain ⟨w0, hw0⟩ : ∃ w0, w.alloc (.cells #[.int .i64 z0, .int .i64 z1, .int .i64 z2, .int .i64 z3, .int .i64 z4, .slice ps sc.length cs, .slice pt ts.length ct] 50) = w0 := ⟨_, rfl⟩
  rw [hw0] at hX
  obtain ⟨Bw, hBw⟩ : ∃ Bw, Bw = w.heap.size := ⟨_, rfl⟩
  have HBW := hid hBw
  rw [← hBw] at hX
  have HC := hid (fun (W : World) (h : W.heap[Bw]? = some (.cells #[.int .i64 z0, .int .i64 z1, .int .i64 z2, .int .i64 z3, .int .i64 z4, .slice ps sc.length cs, .slice pt ts.length ct] 50 (0, 0))) => show (W.cell? ⟨Bw, 0, none⟩ = some (.int .i64 z0) ∧ W.cell? ⟨Bw, 1, none⟩ = some (.int .i64 z1) ∧ W.cell? ⟨Bw, 2, none⟩ = some (.int .i64 z2) ∧ W.cell? ⟨Bw, 3, none⟩ = some (.int .i64 z3) ∧ W.cell? ⟨Bw, 4, none⟩ = some (.int .i64 z4) ∧ W.cell? ⟨Bw, 5, none⟩ = some (.slice ps sc.length cs) ∧ W.cell? ⟨Bw, 6, none⟩ = some (.slice pt ts.length ct)) from ⟨cell_of_any _ _ 0 _ _ _ h, cell_of_any _ _ 1 _ _ _ h, cell_of_any _ _ 2 _ _ _ h, cell_of_any _ _ 3 _ _ _ h, cell_of_any _ _ 4 _ _ _ h, cell_of_any _ _ 5 _ _ _ h, cell_of_any _ _ 6 _ _ _ h⟩)
  obtain ⟨CS, hCS⟩ : ∃ CS : Array Value, CS = #[.int .i64 z0, .int .i64 z1, .int .i64 z2, .int .i64 z3, .int .i64 z4, .slice ps sc.length cs, .slice pt ts.length ct] := ⟨_, rfl⟩
  rw [← hCS] at hX HC
  clear hCS
  have HX := hid hX
  clear hX
  go_enter Tryd.func35, Tryd.ntmps35
  go_upto_region 1 with fail
  try rw [← hBw]
  try rw [hw0]
  clear hw0 hBw
  refine wp_region_held_drew (S := (fun wz : World => wz.cell? ⟨Bw, 0, none⟩ = some (.int .i64 z0) ∧ wz.cell? ⟨Bw, 1, none⟩ = some (.int .i64 z1) ∧ wz.cell? ⟨Bw, 2, none⟩ = some (.int .i64 z2) ∧ wz.cell? ⟨Bw, 3, none⟩ = some (.int .i64 z3) ∧ wz.cell? ⟨Bw, 4, none⟩ = some (.int .i64 z4) ∧ wz.cell? ⟨Bw, 5, none⟩ = some (.slice ps sc.length cs) ∧ wz.cell? ⟨Bw, 6, none⟩ = some (.slice pt ts.length ct))) (by kernel_rfl) (HC.out w0.drew HX.out.box) (fun hHeld => ?_)
  have x0 : BX Bw CS w w0.drew (.slice none 0 0) [] := HX.out.next ⟨rfl, rfl, rfl, Nat.le_refl _, fun _ _ => rfl⟩
  clear HX
  generalize w0.drew = y0 at *
  refine wpAnyH_take (i := 0) (v := ?_) rfl (by kernel_rfl) (by kernel_rfl) (by kernel_rfl) (fun c a w h => h) (Or.inl ⟨by rfl, ?_⟩) hHeld ?_
  rotate_left
  · (intro w hSw; (try dsimp only at hSw); go_simp; try with_reducible rfl)
  simp only [Act.put, List.getElem_toArray, List.getElem_cons_zero, List.getElem_cons_succ, List.setIfInBounds_toArray, List.set_cons_zero, List.set_cons_succ]
  refine wpAnyH_take (i := 1) (v := ?_) rfl (by kernel_rfl) (by kernel_rfl) (by kernel_rfl) (fun c a w h => h) (Or.inl ⟨by rfl, ?_⟩) hHeld ?_
  rotate_left
  · (intro w hSw; (try dsimp only at hSw); go_simp; try with_reducible rfl)
  simp only [Act.put, List.getElem_toArray, List.getElem_cons_zero, List.getElem_cons_succ, List.setIfInBounds_toArray, List.set_cons_zero, List.set_cons_succ]
  refine wpAnyH_take (i := 3) (v := ?_) rfl (by kernel_rfl) (by kernel_rfl) (by kernel_rfl) (fun c a w h => h) (Or.inl ⟨by rfl, ?_⟩) hHeld ?_
  rotate_left
  · (intro w hSw; (try dsimp only at hSw); go_simp; try with_reducible rfl)
  simp only [Act.put, List.getElem_toArray, List.getElem_cons_zero, List.getElem_cons_succ, List.setIfInBounds_toArray, List.set_cons_zero, List.set_cons_succ]
  refine wpAnyH_take (i := 4) (v := ?_) rfl (by kernel_rfl) (by kernel_rfl) (by kernel_rfl) (fun c a w h => h) (Or.inl ⟨by rfl, ?_⟩) hHeld ?_
  rotate_left
  · (intro w hSw; (try dsimp only at hSw); go_simp; try with_reducible rfl)
  simp only [Act.put, List.getElem_toArray, List.getElem_cons_zero, List.getElem_cons_succ, List.setIfInBounds_toArray, List.set_cons_zero, List.set_cons_succ]
  refine wpAnyH_ready (rs := [2]) (by kernel_rfl) (by simp) ?_
  refine AllReadyH.cons rfl (fun K hK => ?_) AllReadyH.nil
  rw [if_pos (by rfl)]
  go_simp
  refine (four_any z0 y0).mono ?_
  rintro e y1 ⟨p1, c1, rfl, q1, b1⟩
  have x1 := x0.next b1
  refine hK.out _ _ (HC.out _ x1.box) (fun hHeld => ?_)
  clear hK K
  try simp only [Act.put, List.getElem_toArray, List.getElem_cons_zero, List.getElem_cons_succ, List.setIfInBounds_toArray, List.set_cons_zero, List.set_cons_succ]
  refine wpAnyH_ready (rs := [5]) (by kernel_rfl) (by simp) ?_
  refine AllReadyH.cons rfl (fun K hK => ?_) AllReadyH.nil
  rw [if_pos (by rfl)]
  go_simp
  refine (four_any z1 y1).mono ?_
  rintro e y2 ⟨p2, c2, rfl, q2, b2⟩
  have x2 := x1.next b2
  refine hK.out _ _ (HC.out _ x2.box) (fun hHeld => ?_)
  clear hK K
  try simp only [Act.put, List.getElem_toArray, List.getElem_cons_zero, List.getElem_cons_succ, List.setIfInBounds_toArray, List.set_cons_zero, List.set_cons_succ]
  have x3 := x2.new (q1.below b2) x0.size
  refine wpAnyH_ready (rs := [6]) (by kernel_rfl) (by simp) ?_
  refine AllReadyH.cons rfl (fun K hK => ?_) AllReadyH.nil
  rw [if_pos (by rfl)]
  refine wp_append_bytes _ _ _ rfl (Bw + 1) _ (w4 z0) rfl x3.row _ (w4 z1) rfl q2.sl (by unfold room; simp only [w4_len]; omega) x3.size (fun v_y3 y3 r_y3 g_y3 => ?_)
  have x4 := x3.grow r_y3 g_y3
  obtain ⟨L1, HL1⟩ : ∃ L1, (w4 z0) ++ (w4 z1) = L1 := ⟨_, rfl⟩
  rw [HL1] at x4
  refine hK.out _ _ (HC.out _ x4.box) (fun hHeld => ?_)
  clear hK K
  try simp only [Act.put, List.getElem_toArray, List.getElem_cons_zero, List.getElem_cons_succ, List.setIfInBounds_toArray, List.set_cons_zero, List.set_cons_succ]
  refine wpAnyH_take (i := 7) (v := ?_) rfl (by kernel_rfl) (by kernel_rfl) (by kernel_rfl) (fun c a w h => h) (Or.inl ⟨by rfl, ?_⟩) hHeld ?_
  rotate_left
  · (intro w hSw; (try dsimp only at hSw); go_simp; try with_reducible rfl)
  simp only [Act.put, List.getElem_toArray, List.getElem_cons_zero, List.getElem_cons_succ, List.setIfInBounds_toArray, List.set_cons_zero, List.set_cons_succ]
  refine wpAnyH_done (by kernel_rfl) ?_ _
  have hL1 : L1.length = 8 := by rw [← HL1, List.length_append, w4_len, w4_len]
  have HX := hid x4
  have HLL1 := hid HL1
  clear hHeld x0 x1 x2 x3 x4 q1 q2 b1 b2 r_y3 g_y3 HL1
  try clear p1 p2 c1 c2
  go_upto_region 2 with fail
  refine wp_region_held_drew (S := (fun wz : World => wz.cell? ⟨Bw, 0, none⟩ = some (.int .i64 z0) ∧ wz.cell? ⟨Bw, 1, none⟩ = some (.int .i64 z1) ∧ wz.cell? ⟨Bw, 2, none⟩ = some (.int .i64 z2) ∧ wz.cell? ⟨Bw, 3, none⟩ = some (.int .i64 z3) ∧ wz.cell? ⟨Bw, 4, none⟩ = some (.int .i64 z4) ∧ wz.cell? ⟨Bw, 5, none⟩ = some (.slice ps sc.length cs) ∧ wz.cell? ⟨Bw, 6, none⟩ = some (.slice pt ts.length ct))) (by kernel_rfl) (HC.out y3.drew HX.out.box) (fun hHeld => ?_)
  have x0 : BX Bw CS w y3.drew v_y3 L1 := HX.out.next ⟨rfl, rfl, rfl, Nat.le_refl _, fun _ _ => rfl⟩
  clear HX
  generalize y3.drew = y0 at *
  refine wpAnyH_take (i := 0) (v := ?_) rfl (by kernel_rfl) (by kernel_rfl) (by kernel_rfl) (fun c a w h => h) (Or.inl ⟨by rfl, ?_⟩) hHeld ?_
  rotate_left
  · (intro w hSw; (try dsimp only at hSw); go_simp; try with_reducible rfl)
  simp only [Act.put, List.getElem_toArray, List.getElem_cons_zero, List.getElem_cons_succ, List.setIfInBounds_toArray, List.set_cons_zero, List.set_cons_succ]
  refine wpAnyH_take (i := 1) (v := ?_) rfl (by kernel_rfl) (by kernel_rfl) (by kernel_rfl) (fun c a w h => h) (Or.inl ⟨by rfl, ?_⟩) hHeld ?_
  rotate_left
  · (intro w hSw; (try dsimp only at hSw); go_simp; try with_reducible rfl)
  simp only [Act.put, List.getElem_toArray, List.getElem_cons_zero, List.getElem_cons_succ, List.setIfInBounds_toArray, List.set_cons_zero, List.set_cons_succ]
  refine wpAnyH_take (i := 2) (v := ?_) rfl (by kernel_rfl) (by kernel_rfl) (by kernel_rfl) (fun c a w h => h) (Or.inl ⟨by rfl, ?_⟩) hHeld ?_
  rotate_left
  · (intro w hSw; (try dsimp only at hSw); go_simp; try with_reducible rfl)
  simp only [Act.put, List.getElem_toArray, List.getElem_cons_zero, List.getElem_cons_succ, List.setIfInBounds_toArray, List.set_cons_zero, List.set_cons_succ]
  refine wpAnyH_take (i := 5) (v := ?_) rfl (by kernel_rfl) (by kernel_rfl) (by kernel_rfl) (fun c a w h => h) (Or.inl ⟨by rfl, ?_⟩) hHeld ?_
  rotate_left
  · (intro w hSw; (try dsimp only at hSw); go_simp; try with_reducible rfl)
  simp only [Act.put, List.getElem_toArray, List.getElem_cons_zero, List.getElem_cons_succ, List.setIfInBounds_toArray, List.set_cons_zero, List.set_cons_succ]
  refine wpAnyH_take (i := 6) (v := ?_) rfl (by kernel_rfl) (by kernel_rfl) (by kernel_rfl) (fun c a w h => h) (Or.inl ⟨by rfl, ?_⟩) hHeld ?_
  rotate_left
  · (intro w hSw; (try dsimp only at hSw); go_simp; try with_reducible rfl)
  simp only [Act.put, List.getElem_toArray, List.getElem_cons_zero, List.getElem_cons_succ, List.setIfInBounds_toArray, List.set_cons_zero, List.set_cons_succ]
  refine wpAnyH_take (i := 9) (v := ?_) rfl (by kernel_rfl) (by kernel_rfl) (by kernel_rfl) (fun c a w h => h) (Or.inl ⟨by rfl, ?_⟩) hHeld ?_
  rotate_left
  · (intro w hSw; (try dsimp only at hSw); go_simp; try with_reducible rfl)
  simp only [Act.put, List.getElem_toArray, List.getElem_cons_zero, List.getElem_cons_succ, List.setIfInBounds_toArray, List.set_cons_zero, List.set_cons_succ]
  refine wpAnyH_take (i := 10) (v := ?_) rfl (by kernel_rfl) (by kernel_rfl) (by kernel_rfl) (fun c a w h => h) (Or.inl ⟨by rfl, ?_⟩) hHeld ?_
  rotate_left
  · (intro w hSw; (try dsimp only at hSw); go_simp; try with_reducible rfl)
  simp only [Act.put, List.getElem_toArray, List.getElem_cons_zero, List.getElem_cons_succ, List.setIfInBounds_toArray, List.set_cons_zero, List.set_cons_succ]
  refine wpAnyH_ready (rs := [3]) (by kernel_rfl) (by simp) ?_
  refine AllReadyH.cons rfl (fun K hK => ?_) AllReadyH.nil
  rw [if_pos (by rfl)]
  go_simp
  refine (four_any z2 y0).mono ?_
  rintro e m0 ⟨p3, c3, rfl, q3, b3⟩
  have xa0 := x0.next b3
  refine hK.out _ _ (HC.out _ xa0.box) (fun hHeld => ?_)
  clear hK K
  try simp only [Act.put, List.getElem_toArray, List.getElem_cons_zero, List.getElem_cons_succ, List.setIfInBounds_toArray, List.set_cons_zero, List.set_cons_succ]
  refine wpAnyH_ready (rs := [4]) (by kernel_rfl) (by simp) ?_
  refine AllReadyH.cons rfl (fun K hK => ?_) AllReadyH.nil
  rw [if_pos (by rfl)]
  refine wp_append_bytes _ _ _ rfl (Bw + 1) _ L1 rfl xa0.row _ (w4 z2) rfl q3.sl (by unfold room; simp only [w4_len]; omega) xa0.size (fun v_n0 n0 r_n0 g_n0 => ?_)
  have xb0 := xa0.grow r_n0 g_n0
  obtain ⟨L2, HL2⟩ : ∃ L2, L1 ++ (w4 z2) = L2 := ⟨_, rfl⟩
  rw [HL2] at xb0
  refine hK.out _ _ (HC.out _ xb0.box) (fun hHeld => ?_)
  clear hK K
  try simp only [Act.put, List.getElem_toArray, List.getElem_cons_zero, List.getElem_cons_succ, List.setIfInBounds_toArray, List.set_cons_zero, List.set_cons_succ]
  have hL2 : L2.length = 12 := by rw [← HL2, List.length_append, w4_len]; omega
  have HLL2 := hid HL2
  clear HL2 q3 b3 x0 xa0 r_n0 g_n0
  refine wpAnyH_ready (rs := [7]) (by kernel_rfl) (by simp) ?_
  refine AllReadyH.cons rfl (fun K hK => ?_) AllReadyH.nil
  rw [if_pos (by rfl)]
  go_simp
  refine (four_any z3 n0).mono ?_
  rintro e m1 ⟨p4, c4, rfl, q4, b4⟩
  have xa1 := xb0.next b4
  refine hK.out _ _ (HC.out _ xa1.box) (fun hHeld => ?_)
  clear hK K
  try simp only [Act.put, List.getElem_toArray, List.getElem_cons_zero, List.getElem_cons_succ, List.setIfInBounds_toArray, List.set_cons_zero, List.set_cons_succ]
  refine wpAnyH_ready (rs := [8]) (by kernel_rfl) (by simp) ?_
  refine AllReadyH.cons rfl (fun K hK => ?_) AllReadyH.nil
  rw [if_pos (by rfl)]
  refine wp_append_bytes _ _ _ rfl (Bw + 1) _ L2 rfl xa1.row _ (w4 z3) rfl q4.sl (by unfold room; simp only [w4_len]; omega) xa1.size (fun v_n1 n1 r_n1 g_n1 => ?_)
  have xb1 := xa1.grow r_n1 g_n1
  obtain ⟨L3, HL3⟩ : ∃ L3, L2 ++ (w4 z3) = L3 := ⟨_, rfl⟩
  rw [HL3] at xb1
  refine hK.out _ _ (HC.out _ xb1.box) (fun hHeld => ?_)
  clear hK K
  try simp only [Act.put, List.getElem_toArray, List.getElem_cons_zero, List.getElem_cons_succ, List.setIfInBounds_toArray, List.set_cons_zero, List.set_cons_succ]
  have hL3 : L3.length = 16 := by rw [← HL3, List.length_append, w4_len]; omega
  have HLL3 := hid HL3
  clear HL3 q4 b4 xb0 xa1 r_n1 g_n1
  refine wpAnyH_ready (rs := [11]) (by kernel_rfl) (by simp) ?_
  refine AllReadyH.cons rfl (fun K hK => ?_) AllReadyH.nil
  rw [if_pos (by rfl)]
  go_simp
  refine (four_any z4 n1).mono ?_
  rintro e m2 ⟨p5, c5, rfl, q5, b5⟩
  have xa2 := xb1.next b5
  refine hK.out _ _ (HC.out _ xa2.box) (fun hHeld => ?_)
  clear hK K
  try simp only [Act.put, List.getElem_toArray, List.getElem_cons_zero, List.getElem_cons_succ, List.setIfInBounds_toArray, List.set_cons_zero, List.set_cons_succ]
  refine wpAnyH_ready (rs := [12]) (by kernel_rfl) (by simp) ?_
  refine AllReadyH.cons rfl (fun K hK => ?_) AllReadyH.nil
  rw [if_pos (by rfl)]
  refine wp_append_bytes _ _ _ rfl (Bw + 1) _ L3 rfl xa2.row _ (w4 z4) rfl q5.sl (by unfold room; simp only [w4_len]; omega) xa2.size (fun v_n2 n2 r_n2 g_n2 => ?_)
  have xb2 := xa2.grow r_n2 g_n2
  obtain ⟨L4, HL4⟩ : ∃ L4, L3 ++ (w4 z4) = L4 := ⟨_, rfl⟩
  rw [HL4] at xb2
  refine hK.out _ _ (HC.out _ xb2.box) (fun hHeld => ?_)
  clear hK K
  try simp only [Act.put, List.getElem_toArray, List.getElem_cons_zero, List.getElem_cons_succ, List.setIfInBounds_toArray, List.set_cons_zero, List.set_cons_succ]
  have hL4 : L4.length = 20 := by rw [← HL4, List.length_append, w4_len]; omega
  have HLL4 := hid HL4
  clear HL4 q5 b5 xb1 xa2 r_n2 g_n2
  refine wpAnyH_take (i := 13) (v := ?_) rfl (by kernel_rfl) (by kernel_rfl) (by kernel_rfl) (fun c a w h => h) (Or.inl ⟨by rfl, ?_⟩) hHeld ?_
  rotate_left
  · (intro w hSw; (try dsimp only at hSw); go_simp; try with_reducible rfl)
  simp only [Act.put, List.getElem_toArray, List.getElem_cons_zero, List.getElem_cons_succ, List.setIfInBounds_toArray, List.set_cons_zero, List.set_cons_succ]
  refine wpAnyH_done (by kernel_rfl) ?_ _
  have HX := hid xb2
  clear hHeld xb2
  go_upto_region 3 with fail
  refine wp_region_held_drew (S := (fun wz : World => wz.cell? ⟨Bw, 0, none⟩ = some (.int .i64 z0) ∧ wz.cell? ⟨Bw, 1, none⟩ = some (.int .i64 z1) ∧ wz.cell? ⟨Bw, 2, none⟩ = some (.int .i64 z2) ∧ wz.cell? ⟨Bw, 3, none⟩ = some (.int .i64 z3) ∧ wz.cell? ⟨Bw, 4, none⟩ = some (.int .i64 z4) ∧ wz.cell? ⟨Bw, 5, none⟩ = some (.slice ps sc.length cs) ∧ wz.cell? ⟨Bw, 6, none⟩ = some (.slice pt ts.length ct))) (by kernel_rfl) (HC.out n2.drew HX.out.box) (fun hHeld => ?_)
  have x0 : BX Bw CS w n2.drew v_n2 L4 := HX.out.next ⟨rfl, rfl, rfl, Nat.le_refl _, fun _ _ => rfl⟩
  clear HX
  generalize n2.drew = y9 at *
  have hlw : wrap64 (sc.length : Int) = (sc.length : Int) := by unfold wrap64; omega
  refine wpAnyH_take (i := 0) (v := ?_) rfl (by kernel_rfl) (by kernel_rfl) (by kernel_rfl) (fun c a w h => h) (Or.inl ⟨by rfl, ?_⟩) hHeld ?_
  rotate_left
  · (intro w hSw; (try dsimp only at hSw); go_simp; try with_reducible rfl)
  simp only [Act.put, List.getElem_toArray, List.getElem_cons_zero, List.getElem_cons_succ, List.setIfInBounds_toArray, List.set_cons_zero, List.set_cons_succ]
  refine wpAnyH_take (i := 1) (v := ?_) rfl (by kernel_rfl) (by kernel_rfl) (by kernel_rfl) (fun c a w h => h) (Or.inl ⟨by rfl, ?_⟩) hHeld ?_
  rotate_left
  · (intro w hSw; (try dsimp only at hSw); go_simp; try with_reducible rfl)
  simp only [Act.put, List.getElem_toArray, List.getElem_cons_zero, List.getElem_cons_succ, List.setIfInBounds_toArray, List.set_cons_zero, List.set_cons_succ]
  refine wpAnyH_take (i := 2) (v := ?_) rfl (by kernel_rfl) (by kernel_rfl) (by kernel_rfl) (fun c a w h => h) (Or.inl ⟨by rfl, ?_⟩) hHeld ?_
  rotate_left
  · (intro w hSw; (try dsimp only at hSw); go_simp; try with_reducible rfl)
  simp only [Act.put, List.getElem_toArray, List.getElem_cons_zero, List.getElem_cons_succ, List.setIfInBounds_toArray, List.set_cons_zero, List.set_cons_succ]
  refine wpAnyH_take (i := 3) (v := ?_) rfl (by kernel_rfl) (by kernel_rfl) (by kernel_rfl) (fun c a w h => h) (Or.inl ⟨by rfl, ?_⟩) hHeld ?_
  rotate_left
  · (intro w hSw; (try dsimp only at hSw); go_simp; try with_reducible rfl)
  simp only [Act.put, List.getElem_toArray, List.getElem_cons_zero, List.getElem_cons_succ, List.setIfInBounds_toArray, List.set_cons_zero, List.set_cons_succ]
  refine wpAnyH_take (i := 6) (v := ?_) rfl (by kernel_rfl) (by kernel_rfl) (by kernel_rfl) (fun c a w h => h) (Or.inl ⟨by rfl, ?_⟩) hHeld ?_
  rotate_left
  · (intro w hSw; (try dsimp only at hSw); go_simp; try with_reducible rfl)
  simp only [Act.put, List.getElem_toArray, List.getElem_cons_zero, List.getElem_cons_succ, List.setIfInBounds_toArray, List.set_cons_zero, List.set_cons_succ]
  refine wpAnyH_take (i := 7) (v := ?_) rfl (by kernel_rfl) (by kernel_rfl) (by kernel_rfl) (fun c a w h => h) (Or.inl ⟨by rfl, ?_⟩) hHeld ?_
  rotate_left
  · (intro w hSw; (try dsimp only at hSw); go_simp; try with_reducible rfl)
  simp only [Act.put, List.getElem_toArray, List.getElem_cons_zero, List.getElem_cons_succ, List.setIfInBounds_toArray, List.set_cons_zero, List.set_cons_succ]
  refine wpAnyH_ready (rs := [4]) (by kernel_rfl) (by simp) ?_
  refine AllReadyH.cons rfl (fun K hK => ?_) AllReadyH.nil
  rw [if_pos (by rfl)]
  go_simp
  refine (four_any (sc.length : Int) y9).mono ?_
  rintro e k1 ⟨p6, c6, rfl, q6, b6⟩
  have x1 := x0.next b6
  refine hK.out _ _ (HC.out _ x1.box) (fun hHeld => ?_)
  clear hK K
  try simp only [Act.put, List.getElem_toArray, List.getElem_cons_zero, List.getElem_cons_succ, List.setIfInBounds_toArray, List.set_cons_zero, List.set_cons_succ]
  refine wpAnyH_ready (rs := [5]) (by kernel_rfl) (by simp) ?_
  refine AllReadyH.cons rfl (fun K hK => ?_) AllReadyH.nil
  rw [if_pos (by rfl)]
  refine wp_append_bytes _ _ _ rfl (Bw + 1) _ L4 rfl x1.row _ (w4 (sc.length : Int)) rfl q6.sl (by unfold room; simp only [w4_len]; omega) x1.size (fun v_k2 k2 r_k2 g_k2 => ?_)
  have x2 := x1.grow r_k2 g_k2
  obtain ⟨L5, HL5⟩ : ∃ L5, L4 ++ (w4 (sc.length : Int)) = L5 := ⟨_, rfl⟩
  rw [HL5] at x2
  refine hK.out _ _ (HC.out _ x2.box) (fun hHeld => ?_)
  clear hK K
  try simp only [Act.put, List.getElem_toArray, List.getElem_cons_zero, List.getElem_cons_succ, List.setIfInBounds_toArray, List.set_cons_zero, List.set_cons_succ]
  have hL5 : L5.length = 24 := by rw [← HL5, List.length_append, w4_len]; omega
  have hbs := x2.below
  rw [HBW.out] at hbs
  have hsl := HSC.out.below hbs
  clear hbs
  refine wpAnyH_ready (rs := [8]) (by kernel_rfl) (by simp) ?_
  refine AllReadyH.cons rfl (fun K hK => ?_) AllReadyH.nil
  rw [if_pos (by rfl)]
  refine wp_append_bytes _ _ _ rfl (Bw + 1) _ L5 rfl x2.row _ sc rfl hsl (by unfold room; omega) x2.size (fun v_k3 k3 r_k3 g_k3 => ?_)
  have x3 := x2.grow r_k3 g_k3
  obtain ⟨L6, HL6⟩ : ∃ L6, L5 ++ sc = L6 := ⟨_, rfl⟩
  rw [HL6] at x3
  refine hK.out _ _ (HC.out _ x3.box) (fun hHeld => ?_)
  clear hK K
  try simp only [Act.put, List.getElem_toArray, List.getElem_cons_zero, List.getElem_cons_succ, List.setIfInBounds_toArray, List.set_cons_zero, List.set_cons_succ]
  refine wpAnyH_take (i := 9) (v := ?_) rfl (by kernel_rfl) (by kernel_rfl) (by kernel_rfl) (fun c a w h => h) (Or.inl ⟨by rfl, ?_⟩) hHeld ?_
  rotate_left
  · (intro w hSw; (try dsimp only at hSw); go_simp; try with_reducible rfl)
  simp only [Act.put, List.getElem_toArray, List.getElem_cons_zero, List.getElem_cons_succ, List.setIfInBounds_toArray, List.set_cons_zero, List.set_cons_succ]
  refine wpAnyH_done (by kernel_rfl) ?_ _
  have hL6 : L6.length = 24 + sc.length := by rw [← HL6, List.length_append]; omega
  have HLL5 := hid HL5
  have HLL6 := hid HL6
  have HX := hid x3
  obtain ⟨d0, d1, d2, d3, d4, d5, d6⟩ := HC.out _ x3.box
  clear hHeld x0 x1 x2 x3 q6 b6 hsl HL5 HL6 r_k2 g_k2 r_k3 g_k3 d0 d1 d2 d3 d4 d5 hlw
  have htw : wrap64 (ts.length : Int) = (ts.length : Int) := by unfold wrap64; omega
  go_wp2_with fail
  refine (four_any (ts.length : Int) k3).mono ?_
  rintro e k4 ⟨p7, c7, rfl, q7, b7⟩
  have HX4 := hid (And.intro (HX.out.next b7) q7)
  clear q7 b7 HX d6
  go_wp2_with (first | (at_builtin; refine wpList_append_bytes _ rfl _ _ rfl (Bw + 1) _ L6 rfl HX4.out.1.row _ (w4 (ts.length : Int)) rfl HX4.out.2.sl (by unfold room; simp only [w4_len]; omega) HX4.out.1.size ?_))
  intro v5 k5 r5 g5
  have x5 := HX4.out.1.grow r5 g5
  obtain ⟨L7, HL7⟩ : ∃ L7, L6 ++ w4 (ts.length : Int) = L7 := ⟨_, rfl⟩
  rw [HL7] at x5
  have hL7 : L7.length = 28 + sc.length := by rw [← HL7, List.length_append, w4_len]; omega
  have HLL7 := hid HL7
  have HX := hid x5
  clear x5 r5 g5 HL7 HX4 htw
  try clear p7 c7
  go_wp2
  go_loopw [3, 4] (fun b i wr => ∃ k : Nat, k ≤ ts.length ∧ i = .int .i64 (k : Int) ∧ BX Bw CS w wr b (L7 ++ (ts.take k).flatMap tb)) (fun _ i _ => ts.length - (intOf i).toNat)
  case atStart => exact ⟨0, by omega, rfl, by rw [List.take_zero, List.flatMap_nil, List.append_nil]; exact HX.out⟩
  case round =>
    clear HX
    obtain ⟨k, hk, rfl, hX⟩ := hrel
    obtain ⟨d0, d1, d2, d3, d4, d5, d6⟩ := HC.out _ hX.box
    clear d0 d1 d2 d3 d4 d5
    by_cases hlt : k < ts.length
    · have i1 : (k : Int) < ts.length := by omega
      obtain ⟨b, ob, cb, eb, a0, a1, a2⟩ := lt_at HT.out k hlt
      simp only [Value.slice.injEq] at eb
      obtain ⟨rfl, _, rfl⟩ := eb
      have hstep : (ts.take (k + 1)).flatMap tb = (ts.take k).flatMap tb ++ tb ts[k] := by
        rw [List.take_succ_eq_append_getElem hlt, List.flatMap_append, List.flatMap_cons, List.flatMap_nil, List.append_nil]
      have hbl := tbs_len (ts.take k)
      rw [List.length_take] at hbl
      generalize ts[k] = t at *
      obtain ⟨tc, tp, tv⟩ := t
      simp only at a0 a1 a2 hstep
      have hbw := hX.below
      rw [HBW.out] at hbw
      have c0 := (hbw.cell (World.block_lt_of_cell? w _ a0)).trans a0
      have c1 := (hbw.cell (World.block_lt_of_cell? w _ a1)).trans a1
      have c2 := (hbw.cell (World.block_lt_of_cell? w _ a2)).trans a2
      obtain ⟨L8, HL8⟩ : ∃ L8, L7 ++ (ts.take k).flatMap tb = L8 := ⟨_, rfl⟩
      rw [HL8] at hX
      have hL8 : L8.length = 28 + sc.length + 7 * min k ts.length := by rw [← HL8, List.length_append]; omega
      have hL8m : L8.length + 14 ≤ 140737488355328 := by omega
      have hLs : L7 ++ (ts.take (k + 1)).flatMap tb = L8 ++ (w4 tc ++ low 2 tp.toNat ++ [tv]) := by rw [hstep, ← List.append_assoc, HL8]; rfl
      have HLS := hid hLs
      have hp16 := tp.toNat_lt
      have hp64 : IntKind.u64.wrap (tp.toNat : Int) = (tp.toNat : Int) := by simp [IntKind.wrap, IntKind.bits, IntKind.signed]; omega
      obtain ⟨wa, hwa⟩ : ∃ wa, wa = wr.alloc (.cells #[.int .i64 tc, .int .u16 (tp.toNat : Int), .int .u8 (tv.toNat : Int)] 39) := ⟨_, rfl⟩
      have hba : Below wr.heap.size wr wa := by rw [hwa]; exact (Below.refl _ _).alloc (Nat.le_refl _) _
      have hna : wa.heap[wr.heap.size]? = some (.cells #[.int .i64 tc, .int .u16 (tp.toNat : Int), .int .u8 (tv.toNat : Int)] 39 (0, 0)) := by rw [hwa]; exact heap_alloc_new wr _
      have HX := hid (hX.next hba)
      obtain ⟨Bx, hBx⟩ : ∃ Bx, wr.heap.size = Bx := ⟨_, rfl⟩
      rw [hBx] at hna
      have HNA := hid hna
      have HCT := hid (fun (W : World) (h : W.heap[Bx]? = some (.cells #[.int .i64 tc, .int .u16 (tp.toNat : Int), .int .u8 (tv.toNat : Int)] 39 (0, 0))) => show (W.cell? ⟨Bx, 0, none⟩ = some (.int .i64 tc) ∧ W.cell? ⟨Bx, 1, none⟩ = some (.int .u16 (tp.toNat : Int)) ∧ W.cell? ⟨Bx, 2, none⟩ = some (.int .u8 (tv.toNat : Int))) from ⟨cell_of_any _ _ 0 _ _ _ h, cell_of_any _ _ 1 _ _ _ h, cell_of_any _ _ 2 _ _ _ h⟩)
      have hlo := low_any tp.toNat (by omega) 2 (by omega)
      rw [show ((2 : Nat) : Int) = 2 from rfl] at hlo
      have HLO := hid hlo
      have n5 : 39 ≠ 5 := by decide
      clear hX hba hbw hna hstep hbl hLs HL8 a0 a1 a2 hlo hL8 hL7
      go_upto_region 9 with fail
      try rw [hBx]
      rw [← hwa]
      clear hwa c0 c1 c2 hBx d6
      refine wp_region_held_drew (S := (fun wz : World => wz.cell? ⟨Bx, 0, none⟩ = some (.int .i64 tc) ∧ wz.cell? ⟨Bx, 1, none⟩ = some (.int .u16 (tp.toNat : Int)) ∧ wz.cell? ⟨Bx, 2, none⟩ = some (.int .u8 (tv.toNat : Int)))) (by kernel_rfl) (HCT.out wa.drew HNA.out) (fun hHeld => ?_)
      have x0 : BX Bw CS w wa.drew u3 L8 := HX.out.next ⟨rfl, rfl, rfl, Nat.le_refl _, fun _ _ => rfl⟩
      have t0 : wa.drew.heap[Bx]? = some (.cells #[.int .i64 tc, .int .u16 (tp.toNat : Int), .int .u8 (tv.toNat : Int)] 39 (0, 0)) := HNA.out
      clear HX HNA
      generalize wa.drew = y0 at *
      refine wpAnyH_take (i := 0) (v := ?_) rfl (by kernel_rfl) (by kernel_rfl) (by kernel_rfl) (fun c a w h => h) (Or.inl ⟨by rfl, ?_⟩) hHeld ?_
      rotate_left
      · (intro w hSw; (try dsimp only at hSw); go_simp; try with_reducible rfl)
      simp only [Act.put, List.getElem_toArray, List.getElem_cons_zero, List.getElem_cons_succ, List.setIfInBounds_toArray, List.set_cons_zero, List.set_cons_succ]
      refine wpAnyH_take (i := 1) (v := ?_) rfl (by kernel_rfl) (by kernel_rfl) (by kernel_rfl) (fun c a w h => h) (Or.inl ⟨by rfl, ?_⟩) hHeld ?_
      rotate_left
      · (intro w hSw; (try dsimp only at hSw); go_simp; try with_reducible rfl)
      simp only [Act.put, List.getElem_toArray, List.getElem_cons_zero, List.getElem_cons_succ, List.setIfInBounds_toArray, List.set_cons_zero, List.set_cons_succ]
      refine wpAnyH_take (i := 2) (v := ?_) rfl (by kernel_rfl) (by kernel_rfl) (by kernel_rfl) (fun c a w h => h) (Or.inl ⟨by rfl, ?_⟩) hHeld ?_
      rotate_left
      · (intro w hSw; (try dsimp only at hSw); go_simp; try with_reducible rfl)
      simp only [Act.put, List.getElem_toArray, List.getElem_cons_zero, List.getElem_cons_succ, List.setIfInBounds_toArray, List.set_cons_zero, List.set_cons_succ]
      refine wpAnyH_take (i := 5) (v := ?_) rfl (by kernel_rfl) (by kernel_rfl) (by kernel_rfl) (fun c a w h => h) (Or.inl ⟨by rfl, ?_⟩) hHeld ?_
      rotate_left
      · (intro w hSw; (try dsimp only at hSw); go_simp; try with_reducible rfl)
      simp only [Act.put, List.getElem_toArray, List.getElem_cons_zero, List.getElem_cons_succ, List.setIfInBounds_toArray, List.set_cons_zero, List.set_cons_succ]
      refine wpAnyH_take (i := 6) (v := ?_) rfl (by kernel_rfl) (by kernel_rfl) (by kernel_rfl) (fun c a w h => h) (Or.inl ⟨by rfl, ?_⟩) hHeld ?_
      rotate_left
      · (intro w hSw; (try dsimp only at hSw); go_simp; try with_reducible rfl)
      simp only [Act.put, List.getElem_toArray, List.getElem_cons_zero, List.getElem_cons_succ, List.setIfInBounds_toArray, List.set_cons_zero, List.set_cons_succ]
      refine wpAnyH_take (i := 7) (v := ?_) rfl (by kernel_rfl) (by kernel_rfl) (by kernel_rfl) (fun c a w h => h) (Or.inl ⟨by rfl, ?_⟩) hHeld ?_
      rotate_left
      · (intro w hSw; (try dsimp only at hSw); go_simp; try with_reducible rfl)
      simp only [Act.put, List.getElem_toArray, List.getElem_cons_zero, List.getElem_cons_succ, List.setIfInBounds_toArray, List.set_cons_zero, List.set_cons_succ]
      refine wpAnyH_take (i := 10) (v := ?_) rfl (by kernel_rfl) (by kernel_rfl) (by kernel_rfl) (fun c a w h => h) (Or.inl ⟨by rfl, ?_⟩) hHeld ?_
      rotate_left
      · (intro w hSw; (try dsimp only at hSw); go_simp; try with_reducible rfl)
      simp only [Act.put, List.getElem_toArray, List.getElem_cons_zero, List.getElem_cons_succ, List.setIfInBounds_toArray, List.set_cons_zero, List.set_cons_succ]
      refine wpAnyH_take (i := 11) (v := ?_) rfl (by kernel_rfl) (by kernel_rfl) (by kernel_rfl) (fun c a w h => h) (Or.inl ⟨by rfl, ?_⟩) hHeld ?_
      rotate_left
      · (intro w hSw; (try dsimp only at hSw); go_simp; try with_reducible rfl)
      simp only [Act.put, List.getElem_toArray, List.getElem_cons_zero, List.getElem_cons_succ, List.setIfInBounds_toArray, List.set_cons_zero, List.set_cons_succ]
      refine wpAnyH_ready (rs := [3, 12]) (by kernel_rfl) (by simp) ?_
      refine AllReadyH.cons rfl (fun K hK => ?_) (AllReadyH.cons rfl (fun K hK => ?_) AllReadyH.nil)
      · rw [if_pos (by rfl)]
        go_simp
        refine (four_any tc y0).mono ?_
        rintro e u1 ⟨p1, c1, rfl, q1, b1⟩
        have xu1 := x0.next b1
        have tu1 := (b1.block _ (Array.getElem?_eq_some_iff.1 t0).1).trans t0
        refine hK.out _ _ (HCT.out _ tu1) (fun hHeld => ?_)
        clear hK K
        try simp only [Act.put, List.getElem_toArray, List.getElem_cons_zero, List.getElem_cons_succ, List.setIfInBounds_toArray, List.set_cons_zero, List.set_cons_succ]
        refine wpAnyH_ready (rs := [4, 12]) (by kernel_rfl) (by simp) ?_
        refine AllReadyH.cons rfl (fun K hK => ?_) (AllReadyH.cons rfl (fun K hK => ?_) AllReadyH.nil)
        · rw [if_pos (by rfl)]
          refine wp_append_bytes _ _ _ rfl (Bw + 1) _ L8 rfl xu1.row _ (w4 tc) rfl q1.sl (by have := w4_len tc; have := low2_len tp.toNat; unfold room; (try simp only [List.length_append, List.length_cons, List.length_nil]); omega) xu1.size (fun v2 u2 r2 g2 => ?_)
          have xu2 := xu1.grow r2 g2
          have tu2 := ks_grew xu1.row g2 _ _ _ _ n5 tu1
          refine hK.out _ _ (HCT.out _ tu2) (fun hHeld => ?_)
          clear hK K
          try simp only [Act.put, List.getElem_toArray, List.getElem_cons_zero, List.getElem_cons_succ, List.setIfInBounds_toArray, List.set_cons_zero, List.set_cons_succ]
          refine wpAnyH_ready (rs := [8, 12]) (by kernel_rfl) (by simp) ?_
          refine AllReadyH.cons rfl (fun K hK => ?_) (AllReadyH.cons rfl (fun K hK => ?_) AllReadyH.nil)
          · rw [if_pos (by rfl)]
            go_simp
            refine (HLO.out u2).mono ?_
            rintro e u3 ⟨v3, rfl, q3, b3⟩
            have xu3 := xu2.next b3
            have tu3 := (b3.block _ (Array.getElem?_eq_some_iff.1 tu2).1).trans tu2
            refine hK.out _ _ (HCT.out _ tu3) (fun hHeld => ?_)
            clear hK K
            try simp only [Act.put, List.getElem_toArray, List.getElem_cons_zero, List.getElem_cons_succ, List.setIfInBounds_toArray, List.set_cons_zero, List.set_cons_succ]
            refine wpAnyH_ready (rs := [9, 12]) (by kernel_rfl) (by simp) ?_
            refine AllReadyH.cons rfl (fun K hK => ?_) (AllReadyH.cons rfl (fun K hK => ?_) AllReadyH.nil)
            · rw [if_pos (by rfl)]
              refine wp_append_bytes _ _ _ rfl (Bw + 1) _ (L8 ++ (w4 tc)) rfl xu3.row _ (low 2 tp.toNat) rfl q3.sl (by have := w4_len tc; have := low2_len tp.toNat; unfold room; (try simp only [List.length_append, List.length_cons, List.length_nil]); omega) xu3.size (fun v4 u4 r4 g4 => ?_)
              have xu4 := xu3.grow r4 g4
              have tu4 := ks_grew xu3.row g4 _ _ _ _ n5 tu3
              refine hK.out _ _ (HCT.out _ tu4) (fun hHeld => ?_)
              clear hK K
              try simp only [Act.put, List.getElem_toArray, List.getElem_cons_zero, List.getElem_cons_succ, List.setIfInBounds_toArray, List.set_cons_zero, List.set_cons_succ]
              refine wpAnyH_ready (rs := [12]) (by kernel_rfl) (by simp) ?_
              refine AllReadyH.cons rfl (fun K hK => ?_) AllReadyH.nil
              have bb5 : Below u4.heap.size u4 (u4.alloc (.cells (bv [tv]).toArray 5)) := (Below.refl _ _).alloc (Nat.le_refl _) _
              have xu5 := xu4.next bb5
              have tu5 := (bb5.block _ (Array.getElem?_eq_some_iff.1 tu4).1).trans tu4
              have gu5 : TX _ tv _ _ := TX.make xu4.row
              go_simp
              refine hK.out _ _ (HCT.out _ tu5) (fun hHeld => ?_)
              clear hK K
              try simp only [Act.put, List.getElem_toArray, List.getElem_cons_zero, List.getElem_cons_succ, List.setIfInBounds_toArray, List.set_cons_zero, List.set_cons_succ]
              refine wpAnyH_ready (rs := [13]) (by kernel_rfl) (by simp) ?_
              refine AllReadyH.cons rfl (fun K hK => ?_) AllReadyH.nil
              rw [if_pos (by rfl)]
              refine wp_append_bytes _ _ _ rfl (Bw + 1) _ ((L8 ++ (w4 tc)) ++ (low 2 tp.toNat)) rfl xu5.row _ [tv] rfl gu5.sl (by have := w4_len tc; have := low2_len tp.toNat; unfold room; (try simp only [List.length_append, List.length_cons, List.length_nil]); omega) xu5.size (fun v6 u6 r6 g6 => ?_)
              have xu6 := xu5.grow r6 g6
              have tu6 := ks_grew xu5.row g6 _ _ _ _ n5 tu5
              have gu6 := gu5.grow g6
              refine hK.out _ _ (HCT.out _ tu6) (fun hHeld => ?_)
              clear hK K
              try simp only [Act.put, List.getElem_toArray, List.getElem_cons_zero, List.getElem_cons_succ, List.setIfInBounds_toArray, List.set_cons_zero, List.set_cons_succ]
              refine wpAnyH_take (i := 14) (v := ?_) rfl (by kernel_rfl) (by kernel_rfl) (by kernel_rfl) (fun c a w h => h) (Or.inl ⟨by rfl, ?_⟩) hHeld ?_
              rotate_left
              · (intro w hSw; (try dsimp only at hSw); go_simp; try with_reducible rfl)
              simp only [Act.put, List.getElem_toArray, List.getElem_cons_zero, List.getElem_cons_succ, List.setIfInBounds_toArray, List.set_cons_zero, List.set_cons_succ]
              refine wpAnyH_done (by kernel_rfl) ?_ _
              have HE := hid xu6
              clear hHeld xu6 tu6
              go_wp2
              go_roundw
              case rel => exact ⟨k + 1, by omega, by go_num, by rw [HLS.out, ← List.append_assoc, ← List.append_assoc]; exact HE.out⟩
              case measure => simp [intOf]; omega
            · have bb7 : Below u3.heap.size u3 (u3.alloc (.cells (bv [tv]).toArray 5)) := (Below.refl _ _).alloc (Nat.le_refl _) _
              have xu7 := xu3.next bb7
              have tu7 := (bb7.block _ (Array.getElem?_eq_some_iff.1 tu3).1).trans tu3
              have gu7 : TX _ tv _ _ := TX.make xu3.row
              have pq7 := q3.below bb7
              go_simp
              refine hK.out _ _ (HCT.out _ tu7) (fun hHeld => ?_)
              clear hK K
              try simp only [Act.put, List.getElem_toArray, List.getElem_cons_zero, List.getElem_cons_succ, List.setIfInBounds_toArray, List.set_cons_zero, List.set_cons_succ]
              refine wpAnyH_ready (rs := [9]) (by kernel_rfl) (by simp) ?_
              refine AllReadyH.cons rfl (fun K hK => ?_) AllReadyH.nil
              rw [if_pos (by rfl)]
              refine wp_append_bytes _ _ _ rfl (Bw + 1) _ (L8 ++ (w4 tc)) rfl xu7.row _ (low 2 tp.toNat) rfl pq7.sl (by have := w4_len tc; have := low2_len tp.toNat; unfold room; (try simp only [List.length_append, List.length_cons, List.length_nil]); omega) xu7.size (fun v8 u8 r8 g8 => ?_)
              have xu8 := xu7.grow r8 g8
              have tu8 := ks_grew xu7.row g8 _ _ _ _ n5 tu7
              have gu8 := gu7.grow g8
              refine hK.out _ _ (HCT.out _ tu8) (fun hHeld => ?_)
              clear hK K
              try simp only [Act.put, List.getElem_toArray, List.getElem_cons_zero, List.getElem_cons_succ, List.setIfInBounds_toArray, List.set_cons_zero, List.set_cons_succ]
              refine wpAnyH_ready (rs := [13]) (by kernel_rfl) (by simp) ?_
              refine AllReadyH.cons rfl (fun K hK => ?_) AllReadyH.nil
              rw [if_pos (by rfl)]
              refine wp_append_bytes _ _ _ rfl (Bw + 1) _ ((L8 ++ (w4 tc)) ++ (low 2 tp.toNat)) rfl xu8.row _ [tv] rfl gu8.sl (by have := w4_len tc; have := low2_len tp.toNat; unfold room; (try simp only [List.length_append, List.length_cons, List.length_nil]); omega) xu8.size (fun v9 u9 r9 g9 => ?_)
              have xu9 := xu8.grow r9 g9
              have tu9 := ks_grew xu8.row g9 _ _ _ _ n5 tu8
              have gu9 := gu8.grow g9
              refine hK.out _ _ (HCT.out _ tu9) (fun hHeld => ?_)
              clear hK K
              try simp only [Act.put, List.getElem_toArray, List.getElem_cons_zero, List.getElem_cons_succ, List.setIfInBounds_toArray, List.set_cons_zero, List.set_cons_succ]
              refine wpAnyH_take (i := 14) (v := ?_) rfl (by kernel_rfl) (by kernel_rfl) (by kernel_rfl) (fun c a w h => h) (Or.inl ⟨by rfl, ?_⟩) hHeld ?_
              rotate_left
              · (intro w hSw; (try dsimp only at hSw); go_simp; try with_reducible rfl)
              simp only [Act.put, List.getElem_toArray, List.getElem_cons_zero, List.getElem_cons_succ, List.setIfInBounds_toArray, List.set_cons_zero, List.set_cons_succ]
              refine wpAnyH_done (by kernel_rfl) ?_ _
              have HE := hid xu9
              clear hHeld xu9 tu9
              go_wp2
              go_roundw
              case rel => exact ⟨k + 1, by omega, by go_num, by rw [HLS.out, ← List.append_assoc, ← List.append_assoc]; exact HE.out⟩
              case measure => simp [intOf]; omega
          · have bb10 : Below u2.heap.size u2 (u2.alloc (.cells (bv [tv]).toArray 5)) := (Below.refl _ _).alloc (Nat.le_refl _) _
            have xu10 := xu2.next bb10
            have tu10 := (bb10.block _ (Array.getElem?_eq_some_iff.1 tu2).1).trans tu2
            have gu10 : TX _ tv _ _ := TX.make xu2.row
            go_simp
            refine hK.out _ _ (HCT.out _ tu10) (fun hHeld => ?_)
            clear hK K
            try simp only [Act.put, List.getElem_toArray, List.getElem_cons_zero, List.getElem_cons_succ, List.setIfInBounds_toArray, List.set_cons_zero, List.set_cons_succ]
            refine wpAnyH_ready (rs := [8]) (by kernel_rfl) (by simp) ?_
            refine AllReadyH.cons rfl (fun K hK => ?_) AllReadyH.nil
            rw [if_pos (by rfl)]
            go_simp
            refine (HLO.out (u2.alloc (.cells (bv [tv]).toArray 5))).mono ?_
            rintro e u11 ⟨v11, rfl, q11, b11⟩
            have xu11 := xu10.next b11
            have tu11 := (b11.block _ (Array.getElem?_eq_some_iff.1 tu10).1).trans tu10
            have gu11 := gu10.next b11
            refine hK.out _ _ (HCT.out _ tu11) (fun hHeld => ?_)
            clear hK K
            try simp only [Act.put, List.getElem_toArray, List.getElem_cons_zero, List.getElem_cons_succ, List.setIfInBounds_toArray, List.set_cons_zero, List.set_cons_succ]
            refine wpAnyH_ready (rs := [9]) (by kernel_rfl) (by simp) ?_
            refine AllReadyH.cons rfl (fun K hK => ?_) AllReadyH.nil
            rw [if_pos (by rfl)]
            refine wp_append_bytes _ _ _ rfl (Bw + 1) _ (L8 ++ (w4 tc)) rfl xu11.row _ (low 2 tp.toNat) rfl q11.sl (by have := w4_len tc; have := low2_len tp.toNat; unfold room; (try simp only [List.length_append, List.length_cons, List.length_nil]); omega) xu11.size (fun v12 u12 r12 g12 => ?_)
            have xu12 := xu11.grow r12 g12
            have tu12 := ks_grew xu11.row g12 _ _ _ _ n5 tu11
            have gu12 := gu11.grow g12
            refine hK.out _ _ (HCT.out _ tu12) (fun hHeld => ?_)
            clear hK K
            try simp only [Act.put, List.getElem_toArray, List.getElem_cons_zero, List.getElem_cons_succ, List.setIfInBounds_toArray, List.set_cons_zero, List.set_cons_succ]
            refine wpAnyH_ready (rs := [13]) (by kernel_rfl) (by simp) ?_
            refine AllReadyH.cons rfl (fun K hK => ?_) AllReadyH.nil
            rw [if_pos (by rfl)]
            refine wp_append_bytes _ _ _ rfl (Bw + 1) _ ((L8 ++ (w4 tc)) ++ (low 2 tp.toNat)) rfl xu12.row _ [tv] rfl gu12.sl (by have := w4_len tc; have := low2_len tp.toNat; unfold room; (try simp only [List.length_append, List.length_cons, List.length_nil]); omega) xu12.size (fun v13 u13 r13 g13 => ?_)
            have xu13 := xu12.grow r13 g13
            have tu13 := ks_grew xu12.row g13 _ _ _ _ n5 tu12
            have gu13 := gu12.grow g13
            refine hK.out _ _ (HCT.out _ tu13) (fun hHeld => ?_)
            clear hK K
            try simp only [Act.put, List.getElem_toArray, List.getElem_cons_zero, List.getElem_cons_succ, List.setIfInBounds_toArray, List.set_cons_zero, List.set_cons_succ]
            refine wpAnyH_take (i := 14) (v := ?_) rfl (by kernel_rfl) (by kernel_rfl) (by kernel_rfl) (fun c a w h => h) (Or.inl ⟨by rfl, ?_⟩) hHeld ?_
            rotate_left
            · (intro w hSw; (try dsimp only at hSw); go_simp; try with_reducible rfl)
            simp only [Act.put, List.getElem_toArray, List.getElem_cons_zero, List.getElem_cons_succ, List.setIfInBounds_toArray, List.set_cons_zero, List.set_cons_succ]
            refine wpAnyH_done (by kernel_rfl) ?_ _
            have HE := hid xu13
            clear hHeld xu13 tu13
            go_wp2
            go_roundw
            case rel => exact ⟨k + 1, by omega, by go_num, by rw [HLS.out, ← List.append_assoc, ← List.append_assoc]; exact HE.out⟩
            case measure => simp [intOf]; omega
        · have bb14 : Below u1.heap.size u1 (u1.alloc (.cells (bv [tv]).toArray 5)) := (Below.refl _ _).alloc (Nat.le_refl _) _
          have xu14 := xu1.next bb14
          have tu14 := (bb14.block _ (Array.getElem?_eq_some_iff.1 tu1).1).trans tu1
          have gu14 : TX _ tv _ _ := TX.make xu1.row
          have pq14 := q1.below bb14
          go_simp
          refine hK.out _ _ (HCT.out _ tu14) (fun hHeld => ?_)
          clear hK K
          try simp only [Act.put, List.getElem_toArray, List.getElem_cons_zero, List.getElem_cons_succ, List.setIfInBounds_toArray, List.set_cons_zero, List.set_cons_succ]
          refine wpAnyH_ready (rs := [4]) (by kernel_rfl) (by simp) ?_
          refine AllReadyH.cons rfl (fun K hK => ?_) AllReadyH.nil
          rw [if_pos (by rfl)]
          refine wp_append_bytes _ _ _ rfl (Bw + 1) _ L8 rfl xu14.row _ (w4 tc) rfl pq14.sl (by have := w4_len tc; have := low2_len tp.toNat; unfold room; (try simp only [List.length_append, List.length_cons, List.length_nil]); omega) xu14.size (fun v15 u15 r15 g15 => ?_)
          have xu15 := xu14.grow r15 g15
          have tu15 := ks_grew xu14.row g15 _ _ _ _ n5 tu14
          have gu15 := gu14.grow g15
          refine hK.out _ _ (HCT.out _ tu15) (fun hHeld => ?_)
          clear hK K
          try simp only [Act.put, List.getElem_toArray, List.getElem_cons_zero, List.getElem_cons_succ, List.setIfInBounds_toArray, List.set_cons_zero, List.set_cons_succ]
          refine wpAnyH_ready (rs := [8]) (by kernel_rfl) (by simp) ?_
          refine AllReadyH.cons rfl (fun K hK => ?_) AllReadyH.nil
          rw [if_pos (by rfl)]
          go_simp
          refine (HLO.out u15).mono ?_
          rintro e u16 ⟨v16, rfl, q16, b16⟩
          have xu16 := xu15.next b16
          have tu16 := (b16.block _ (Array.getElem?_eq_some_iff.1 tu15).1).trans tu15
          have gu16 := gu15.next b16
          refine hK.out _ _ (HCT.out _ tu16) (fun hHeld => ?_)
          clear hK K
          try simp only [Act.put, List.getElem_toArray, List.getElem_cons_zero, List.getElem_cons_succ, List.setIfInBounds_toArray, List.set_cons_zero, List.set_cons_succ]
          refine wpAnyH_ready (rs := [9]) (by kernel_rfl) (by simp) ?_
          refine AllReadyH.cons rfl (fun K hK => ?_) AllReadyH.nil
          rw [if_pos (by rfl)]
          refine wp_append_bytes _ _ _ rfl (Bw + 1) _ (L8 ++ (w4 tc)) rfl xu16.row _ (low 2 tp.toNat) rfl q16.sl (by have := w4_len tc; have := low2_len tp.toNat; unfold room; (try simp only [List.length_append, List.length_cons, List.length_nil]); omega) xu16.size (fun v17 u17 r17 g17 => ?_)
          have xu17 := xu16.grow r17 g17
          have tu17 := ks_grew xu16.row g17 _ _ _ _ n5 tu16
          have gu17 := gu16.grow g17
          refine hK.out _ _ (HCT.out _ tu17) (fun hHeld => ?_)
          clear hK K
          try simp only [Act.put, List.getElem_toArray, List.getElem_cons_zero, List.getElem_cons_succ, List.setIfInBounds_toArray, List.set_cons_zero, List.set_cons_succ]
          refine wpAnyH_ready (rs := [13]) (by kernel_rfl) (by simp) ?_
          refine AllReadyH.cons rfl (fun K hK => ?_) AllReadyH.nil
          rw [if_pos (by rfl)]
          refine wp_append_bytes _ _ _ rfl (Bw + 1) _ ((L8 ++ (w4 tc)) ++ (low 2 tp.toNat)) rfl xu17.row _ [tv] rfl gu17.sl (by have := w4_len tc; have := low2_len tp.toNat; unfold room; (try simp only [List.length_append, List.length_cons, List.length_nil]); omega) xu17.size (fun v18 u18 r18 g18 => ?_)
          have xu18 := xu17.grow r18 g18
          have tu18 := ks_grew xu17.row g18 _ _ _ _ n5 tu17
          have gu18 := gu17.grow g18
          refine hK.out _ _ (HCT.out _ tu18) (fun hHeld => ?_)
          clear hK K
          try simp only [Act.put, List.getElem_toArray, List.getElem_cons_zero, List.getElem_cons_succ, List.setIfInBounds_toArray, List.set_cons_zero, List.set_cons_succ]
          refine wpAnyH_take (i := 14) (v := ?_) rfl (by kernel_rfl) (by kernel_rfl) (by kernel_rfl) (fun c a w h => h) (Or.inl ⟨by rfl, ?_⟩) hHeld ?_
          rotate_left
          · (intro w hSw; (try dsimp only at hSw); go_simp; try with_reducible rfl)
          simp only [Act.put, List.getElem_toArray, List.getElem_cons_zero, List.getElem_cons_succ, List.setIfInBounds_toArray, List.set_cons_zero, List.set_cons_succ]
          refine wpAnyH_done (by kernel_rfl) ?_ _
          have HE := hid xu18
          clear hHeld xu18 tu18
          go_wp2
          go_roundw
          case rel => exact ⟨k + 1, by omega, by go_num, by rw [HLS.out, ← List.append_assoc, ← List.append_assoc]; exact HE.out⟩
          case measure => simp [intOf]; omega
      · have bb19 : Below y0.heap.size y0 (y0.alloc (.cells (bv [tv]).toArray 5)) := (Below.refl _ _).alloc (Nat.le_refl _) _
        have xu19 := x0.next bb19
        have tu19 := (bb19.block _ (Array.getElem?_eq_some_iff.1 t0).1).trans t0
        have gu19 : TX _ tv _ _ := TX.make x0.row
        go_simp
        refine hK.out _ _ (HCT.out _ tu19) (fun hHeld => ?_)
        clear hK K
        try simp only [Act.put, List.getElem_toArray, List.getElem_cons_zero, List.getElem_cons_succ, List.setIfInBounds_toArray, List.set_cons_zero, List.set_cons_succ]
        refine wpAnyH_ready (rs := [3]) (by kernel_rfl) (by simp) ?_
        refine AllReadyH.cons rfl (fun K hK => ?_) AllReadyH.nil
        rw [if_pos (by rfl)]
        go_simp
        refine (four_any tc (y0.alloc (.cells (bv [tv]).toArray 5))).mono ?_
        rintro e u20 ⟨p20, c20, rfl, q20, b20⟩
        have xu20 := xu19.next b20
        have tu20 := (b20.block _ (Array.getElem?_eq_some_iff.1 tu19).1).trans tu19
        have gu20 := gu19.next b20
        refine hK.out _ _ (HCT.out _ tu20) (fun hHeld => ?_)
        clear hK K
        try simp only [Act.put, List.getElem_toArray, List.getElem_cons_zero, List.getElem_cons_succ, List.setIfInBounds_toArray, List.set_cons_zero, List.set_cons_succ]
        refine wpAnyH_ready (rs := [4]) (by kernel_rfl) (by simp) ?_
        refine AllReadyH.cons rfl (fun K hK => ?_) AllReadyH.nil
        rw [if_pos (by rfl)]
        refine wp_append_bytes _ _ _ rfl (Bw + 1) _ L8 rfl xu20.row _ (w4 tc) rfl q20.sl (by have := w4_len tc; have := low2_len tp.toNat; unfold room; (try simp only [List.length_append, List.length_cons, List.length_nil]); omega) xu20.size (fun v21 u21 r21 g21 => ?_)
        have xu21 := xu20.grow r21 g21
        have tu21 := ks_grew xu20.row g21 _ _ _ _ n5 tu20
        have gu21 := gu20.grow g21
        refine hK.out _ _ (HCT.out _ tu21) (fun hHeld => ?_)
        clear hK K
        try simp only [Act.put, List.getElem_toArray, List.getElem_cons_zero, List.getElem_cons_succ, List.setIfInBounds_toArray, List.set_cons_zero, List.set_cons_succ]
        refine wpAnyH_ready (rs := [8]) (by kernel_rfl) (by simp) ?_
        refine AllReadyH.cons rfl (fun K hK => ?_) AllReadyH.nil
        rw [if_pos (by rfl)]
        go_simp
        refine (HLO.out u21).mono ?_
        rintro e u22 ⟨v22, rfl, q22, b22⟩
        have xu22 := xu21.next b22
        have tu22 := (b22.block _ (Array.getElem?_eq_some_iff.1 tu21).1).trans tu21
        have gu22 := gu21.next b22
        refine hK.out _ _ (HCT.out _ tu22) (fun hHeld => ?_)
        clear hK K
        try simp only [Act.put, List.getElem_toArray, List.getElem_cons_zero, List.getElem_cons_succ, List.setIfInBounds_toArray, List.set_cons_zero, List.set_cons_succ]
        refine wpAnyH_ready (rs := [9]) (by kernel_rfl) (by simp) ?_
        refine AllReadyH.cons rfl (fun K hK => ?_) AllReadyH.nil
        rw [if_pos (by rfl)]
        refine wp_append_bytes _ _ _ rfl (Bw + 1) _ (L8 ++ (w4 tc)) rfl xu22.row _ (low 2 tp.toNat) rfl q22.sl (by have := w4_len tc; have := low2_len tp.toNat; unfold room; (try simp only [List.length_append, List.length_cons, List.length_nil]); omega) xu22.size (fun v23 u23 r23 g23 => ?_)
        have xu23 := xu22.grow r23 g23
        have tu23 := ks_grew xu22.row g23 _ _ _ _ n5 tu22
        have gu23 := gu22.grow g23
        refine hK.out _ _ (HCT.out _ tu23) (fun hHeld => ?_)
        clear hK K
        try simp only [Act.put, List.getElem_toArray, List.getElem_cons_zero, List.getElem_cons_succ, List.setIfInBounds_toArray, List.set_cons_zero, List.set_cons_succ]
        refine wpAnyH_ready (rs := [13]) (by kernel_rfl) (by simp) ?_
        refine AllReadyH.cons rfl (fun K hK => ?_) AllReadyH.nil
        rw [if_pos (by rfl)]
        refine wp_append_bytes _ _ _ rfl (Bw + 1) _ ((L8 ++ (w4 tc)) ++ (low 2 tp.toNat)) rfl xu23.row _ [tv] rfl gu23.sl (by have := w4_len tc; have := low2_len tp.toNat; unfold room; (try simp only [List.length_append, List.length_cons, List.length_nil]); omega) xu23.size (fun v24 u24 r24 g24 => ?_)
        have xu24 := xu23.grow r24 g24
        have tu24 := ks_grew xu23.row g24 _ _ _ _ n5 tu23
        have gu24 := gu23.grow g24
        refine hK.out _ _ (HCT.out _ tu24) (fun hHeld => ?_)
        clear hK K
        try simp only [Act.put, List.getElem_toArray, List.getElem_cons_zero, List.getElem_cons_succ, List.setIfInBounds_toArray, List.set_cons_zero, List.set_cons_succ]
        refine wpAnyH_take (i := 14) (v := ?_) rfl (by kernel_rfl) (by kernel_rfl) (by kernel_rfl) (fun c a w h => h) (Or.inl ⟨by rfl, ?_⟩) hHeld ?_
        rotate_left
        · (intro w hSw; (try dsimp only at hSw); go_simp; try with_reducible rfl)
        simp only [Act.put, List.getElem_toArray, List.getElem_cons_zero, List.getElem_cons_succ, List.setIfInBounds_toArray, List.set_cons_zero, List.set_cons_succ]
        refine wpAnyH_done (by kernel_rfl) ?_ _
        have HE := hid xu24
        clear hHeld xu24 tu24
        go_wp2
        go_roundw
        case rel => exact ⟨k + 1, by omega, by go_num, by rw [HLS.out, ← List.append_assoc, ← List.append_assoc]; exact HE.out⟩
        case measure => simp [intOf]; omega
    · obtain rfl : k = ts.length := by omega
      rw [List.take_length] at hX
      have hfl : L7 ++ ts.flatMap tb = dgB z0 z1 z2 z3 z4 sc ts := by
        rw [← HLL7.out, ← HLL6.out, ← HLL5.out, ← HLL4.out, ← HLL3.out, ← HLL2.out, ← HLL1.out]
        simp only [dgB, ws, List.flatMap_cons, List.flatMap_nil, List.append_nil, List.append_assoc]
      rw [hfl] at hX
      have HE := hid hX
      clear hX hfl
      go_wp2
      go_ret
      have hb := HE.out.below
      rw [HBW.out] at hb
      exact ⟨_, rfl, HE.out.row.mono (by have := HBW.out; omega), hb⟩
end Go.Proofs.YtlljelfplffglabDoor.H
