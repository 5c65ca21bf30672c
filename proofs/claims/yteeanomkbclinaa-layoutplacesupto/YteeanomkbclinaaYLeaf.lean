import Derived.Test.YteeanomkbclinaaYDef
/-! The room that is taken, definition by definition. -/
namespace Go.Proofs.Yteeanomkbclinaa.Y
open Go.RowKit
open Go.Proofs
set_option linter.unusedVariables false
set_option linter.unusedSimpArgs false
set_option maxHeartbeats 2000000
set_option maxRecDepth 100000
theorem w1 (r1 r2 r3 : Int) (nm : ByteArray) (v : Int) (body : List Nd) (p : Ps) (q1 : Option Addr) (d1 : Nat) (O : Nat → Prop) (W : World) (hO : ∀ i, O i → i < W.heap.size) (ht : NV W O (.slice q1 body.length d1) body) :
    Calls Try.prog 26 #[.agg #[.int .i64 r1, .int .i64 r2, .int .i64 r3], .agg #[.int .i64 1, .string nm, .int .u16 v, .slice q1 body.length d1, .int .i64 p.1, .int .i64 p.2]] W fun e w' => e = .returned (.agg #[.int .i64 (wrap64 (r1 + 1)), .int .i64 (wrap64 (r2 + (4 + 2 * cl body))), .int .i64 (r3)]) ∧ Below W.heap.size W w' := by
  obtain ⟨W1, hW1⟩ : ∃ W1, W1 = ((W.alloc (.cells #[.int .i64 (wrap64 (r1 + 1)), .int .i64 r2, .int .i64 r3] 55)).alloc (.cells #[.int .i64 1, .string nm, .int .u16 v, .slice q1 body.length d1, .int .i64 p.1, .int .i64 p.2] 36)).alloc (.cells #[.int .i64 0, .int .i64 0, .int .i64 0] 55) := ⟨_, rfl⟩
  have z1 : Below W.heap.size W W1 := by rw [hW1]; exact (((Below.refl _ W).alloc (Nat.le_refl _) _).alloc (by simp) _).alloc (by simp; omega) _
  have zs : W1.heap.size = W.heap.size + 3 := by rw [hW1]; simp
  have s1 : (W.alloc (.cells #[.int .i64 (wrap64 (r1 + 1)), .int .i64 r2, .int .i64 r3] 55)).heap.size = W.heap.size + 1 := by simp
  have s2 : ((W.alloc (.cells #[.int .i64 (wrap64 (r1 + 1)), .int .i64 r2, .int .i64 r3] 55)).alloc (.cells #[.int .i64 1, .string nm, .int .u16 v, .slice q1 body.length d1, .int .i64 p.1, .int .i64 p.2] 36)).heap.size = W.heap.size + 2 := by simp
  have v0 : W1.heap[W.heap.size]? = some (.cells #[.int .i64 (wrap64 (r1 + 1)), .int .i64 r2, .int .i64 r3] 55 (0, 0)) := by rw [hW1]; exact (Below.heap_alloc _ _ _ (by omega)).trans ((Below.heap_alloc _ _ _ (by omega)).trans (heap_alloc_new W _))
  have v1 : W1.heap[W.heap.size + 1]? = some (.cells #[.int .i64 1, .string nm, .int .u16 v, .slice q1 body.length d1, .int .i64 p.1, .int .i64 p.2] 36 (0, 0)) := by rw [hW1]; exact (Below.heap_alloc _ _ _ (by omega)).trans (heap_alloc2_new W _ _)
  have v2 : W1.heap[W.heap.size + 2]? = some (.cells #[.int .i64 0, .int .i64 0, .int .i64 0] 55 (0, 0)) := by
    have := heap_alloc_new ((W.alloc (.cells #[.int .i64 (wrap64 (r1 + 1)), .int .i64 r2, .int .i64 r3] 55)).alloc (.cells #[.int .i64 1, .string nm, .int .u16 v, .slice q1 body.length d1, .int .i64 p.1, .int .i64 p.2] 36)) (.cells #[.int .i64 0, .int .i64 0, .int .i64 0] 55)
    rw [s2, ← hW1] at this; exact this
  go_enter Try.func26, Try.ntmps26
  have hcall2 : Calls Try.prog 9 #[.slice q1 body.length d1] W1.drew fun e w2 => e = .returned (.int .i64 (wrap64 (2 * cl body))) ∧ Below W1.heap.size W1 w2 := by
    refine (size_any body _ O W1.drew (fun i hi => Nat.lt_of_lt_of_le (hO i hi) z1.size) (ht.below z1.drew hO)).mono ?_
    rintro e w2 ⟨h1, h2⟩
    exact ⟨h1, (Below.refl _ W1).drew.trans h2⟩
  have hB2 := z1
  have a1 := S.cell_of W1 W.heap.size 1 [.int .i64 (wrap64 (r1 + 1)), .int .i64 r2, .int .i64 r3] 55 _ v0 rfl
  have a3 := S.cell_of W1 (W.heap.size + 1) 3 [.int .i64 1, .string nm, .int .u16 v, .slice q1 body.length d1, .int .i64 p.1, .int .i64 p.2] 36 _ v1 rfl
  have u0 : W1.heap[W.heap.size]? = some (.cells [.int .i64 (wrap64 (r1 + 1)), .int .i64 r2, .int .i64 r3].toArray 55 (0, 0)) := v0
  have u1 := v1
  have u2 : W1.heap[W.heap.size + 2]? = some (.cells [.int .i64 0, .int .i64 0, .int .i64 0].toArray 55 (0, 0)) := v2
  have HU := hid (And.intro u0 (And.intro u1 u2))
  have HB := hid hB2
  clear ht hO z1 zs s1 s2 v0 v1 v2 u0 u1 u2 hB2
  go_wp2_with fail
  rw [← hW1]
  clear hW1
  go_region_with (first | (go_at_call 9; refine hcall2.mono ?_; rintro e w1 ⟨rfl, hb1⟩; have HB1 := hid hb1; have y0 := (hb1.block _ (S.lt_of HU.out.1)).trans HU.out.1; have y1 := S.cell_of w1 W.heap.size 1 _ 55 _ y0 rfl; have y2 := S.frozen_of w1 W.heap.size 1 _ 55 y0; clear y0 hb1))
  all_goals
    try simp only [Act.put, List.setIfInBounds_toArray, List.set_cons_zero, List.set_cons_succ]
    clear y1 y2 hcall2 a1 a3
    have y0 := (HB1.out.block _ (S.lt_of HU.out.1)).trans HU.out.1
    have y2 := (HB1.out.block _ (S.lt_of HU.out.2.2)).trans HU.out.2.2
    generalize hV : IntKind.i64.wrap (r2 + IntKind.i64.wrap (IntKind.i64.wrap (2 + wrap64 (2 * cl body)) + 2)) = V at *
    have hV2 : V = wrap64 (r2 + (4 + 2 * cl body)) := by
      rw [← hV]
      simp only [IntWalk.i64_left, w_al, w_ar]
      exact w_eq (by omega)
    have HV := hid hV2
    have HW : Hd (Below W.heap.size W (w1.setCell ⟨W.heap.size, 1, none⟩ (.int .i64 V))) := ⟨(HB.out.trans (HB1.out.mono HB.out.size)).setCell (p := ⟨W.heap.size, 1, none⟩) (Nat.le_refl _) _⟩
    have x0 := S.setCell_heap w1 W.heap.size 1 _ 55 (.int .i64 V) y0
    have x2 : (w1.setCell ⟨W.heap.size, 1, none⟩ (.int .i64 V)).heap[W.heap.size + 2]? = _ := (S.setCell_other w1 W.heap.size 1 (W.heap.size + 2) (.int .i64 V) (by omega)).trans y2
    clear hV hV2 y0 y2
    generalize w1.setCell ⟨W.heap.size, 1, none⟩ (.int .i64 V) = w3 at *
    have c0 := S.cell_of w3 W.heap.size 0 _ 55 _ x0 rfl
    have c1 := S.cell_of w3 W.heap.size 1 _ 55 _ x0 rfl
    have c2 := S.cell_of w3 W.heap.size 2 _ 55 _ x0 rfl
    have f0 := S.cell_of w3 (W.heap.size + 2) 0 _ 55 _ x2 rfl
    have f1 := S.cell_of w3 (W.heap.size + 2) 1 _ 55 _ x2 rfl
    have f2 := S.cell_of w3 (W.heap.size + 2) 2 _ 55 _ x2 rfl
    have g0 := S.frozen_of w3 (W.heap.size + 2) 0 _ 55 x2
    have g1 := S.frozen_of w3 (W.heap.size + 2) 1 _ 55 x2
    have g2 := S.frozen_of w3 (W.heap.size + 2) 2 _ 55 x2
    clear x0 x2
    go_wp2
    refine bodyPost_ret (v := .agg #[.int .i64 (wrap64 (r1 + 1)), .int .i64 V, .int .i64 r3]) ?_ rfl ⟨by rw [HV.out], ?_⟩
    · simp [results, Try.results26, go_sem, *]
    · repeat first
        | exact HW.out
        | refine Below.setCell (p := ⟨_, _, _⟩) ?_ (by simp; try omega) _
theorem w3 (r1 r2 r3 : Int) (nm : ByteArray) (v : Int) (body : List Nd) (p : Ps) (q1 : Option Addr) (d1 : Nat) (O : Nat → Prop) (W : World) (hO : ∀ i, O i → i < W.heap.size) (ht : NV W O (.slice q1 body.length d1) body) :
    Calls Try.prog 26 #[.agg #[.int .i64 r1, .int .i64 r2, .int .i64 r3], .agg #[.int .i64 3, .string nm, .int .u16 v, .slice q1 body.length d1, .int .i64 p.1, .int .i64 p.2]] W fun e w' => e = .returned (.agg #[.int .i64 (wrap64 (r1 + 1)), .int .i64 (wrap64 (r2 + 4)), .int .i64 (wrap64 (r3 + v))]) ∧ Below W.heap.size W w' := by
  obtain ⟨W1, hW1⟩ : ∃ W1, W1 = ((W.alloc (.cells #[.int .i64 r1, .int .i64 r2, .int .i64 r3] 55)).alloc (.cells #[.int .i64 3, .string nm, .int .u16 v, .slice q1 body.length d1, .int .i64 p.1, .int .i64 p.2] 36)).alloc (.cells #[.int .i64 0, .int .i64 0, .int .i64 0] 55) := ⟨_, rfl⟩
  have z1 : Below W.heap.size W W1 := by rw [hW1]; exact (((Below.refl _ W).alloc (Nat.le_refl _) _).alloc (by simp) _).alloc (by simp; omega) _
  have zs : W1.heap.size = W.heap.size + 3 := by rw [hW1]; simp
  have s1 : (W.alloc (.cells #[.int .i64 r1, .int .i64 r2, .int .i64 r3] 55)).heap.size = W.heap.size + 1 := by simp
  have s2 : ((W.alloc (.cells #[.int .i64 r1, .int .i64 r2, .int .i64 r3] 55)).alloc (.cells #[.int .i64 3, .string nm, .int .u16 v, .slice q1 body.length d1, .int .i64 p.1, .int .i64 p.2] 36)).heap.size = W.heap.size + 2 := by simp
  have v0 : W1.heap[W.heap.size]? = some (.cells #[.int .i64 r1, .int .i64 r2, .int .i64 r3] 55 (0, 0)) := by rw [hW1]; exact (Below.heap_alloc _ _ _ (by omega)).trans ((Below.heap_alloc _ _ _ (by omega)).trans (heap_alloc_new W _))
  have v1 : W1.heap[W.heap.size + 1]? = some (.cells #[.int .i64 3, .string nm, .int .u16 v, .slice q1 body.length d1, .int .i64 p.1, .int .i64 p.2] 36 (0, 0)) := by rw [hW1]; exact (Below.heap_alloc _ _ _ (by omega)).trans (heap_alloc2_new W _ _)
  have v2 : W1.heap[W.heap.size + 2]? = some (.cells #[.int .i64 0, .int .i64 0, .int .i64 0] 55 (0, 0)) := by
    have := heap_alloc_new ((W.alloc (.cells #[.int .i64 r1, .int .i64 r2, .int .i64 r3] 55)).alloc (.cells #[.int .i64 3, .string nm, .int .u16 v, .slice q1 body.length d1, .int .i64 p.1, .int .i64 p.2] 36)) (.cells #[.int .i64 0, .int .i64 0, .int .i64 0] 55)
    rw [s2, ← hW1] at this; exact this
  clear ht hO
  clear z1 zs s1 s2 v0 v1 v2
  clear hW1 W1
  go_enter Try.func26, Try.ntmps26
  go_wp2
  refine bodyPost_ret (v := .agg #[.int .i64 (wrap64 (r1 + 1)), .int .i64 (wrap64 (r2 + 4)), .int .i64 (wrap64 (r3 + v))]) ?_ rfl ⟨rfl, ?_⟩
  · simp [results, Try.results26, go_sem, w_ar]
  · repeat first
      | exact Below.refl _ _
      | refine Below.setCell (p := ⟨_, _, _⟩) ?_ (by simp; try omega) _
      | refine Below.alloc ?_ (by simp; try omega) _
theorem w2 (r1 r2 r3 : Int) (nm : ByteArray) (v : Int) (body : List Nd) (p : Ps) (q1 : Option Addr) (d1 : Nat) (O : Nat → Prop) (W : World) (hO : ∀ i, O i → i < W.heap.size) (ht : NV W O (.slice q1 body.length d1) body) :
    Calls Try.prog 26 #[.agg #[.int .i64 r1, .int .i64 r2, .int .i64 r3], .agg #[.int .i64 2, .string nm, .int .u16 v, .slice q1 body.length d1, .int .i64 p.1, .int .i64 p.2]] W fun e w' => e = .returned (.agg #[.int .i64 (wrap64 (r1 + 1)), .int .i64 (wrap64 (r2 + 4)), .int .i64 (r3)]) ∧ Below W.heap.size W w' := by
  obtain ⟨W1, hW1⟩ : ∃ W1, W1 = ((W.alloc (.cells #[.int .i64 r1, .int .i64 r2, .int .i64 r3] 55)).alloc (.cells #[.int .i64 2, .string nm, .int .u16 v, .slice q1 body.length d1, .int .i64 p.1, .int .i64 p.2] 36)).alloc (.cells #[.int .i64 0, .int .i64 0, .int .i64 0] 55) := ⟨_, rfl⟩
  have z1 : Below W.heap.size W W1 := by rw [hW1]; exact (((Below.refl _ W).alloc (Nat.le_refl _) _).alloc (by simp) _).alloc (by simp; omega) _
  have zs : W1.heap.size = W.heap.size + 3 := by rw [hW1]; simp
  have s1 : (W.alloc (.cells #[.int .i64 r1, .int .i64 r2, .int .i64 r3] 55)).heap.size = W.heap.size + 1 := by simp
  have s2 : ((W.alloc (.cells #[.int .i64 r1, .int .i64 r2, .int .i64 r3] 55)).alloc (.cells #[.int .i64 2, .string nm, .int .u16 v, .slice q1 body.length d1, .int .i64 p.1, .int .i64 p.2] 36)).heap.size = W.heap.size + 2 := by simp
  have v0 : W1.heap[W.heap.size]? = some (.cells #[.int .i64 r1, .int .i64 r2, .int .i64 r3] 55 (0, 0)) := by rw [hW1]; exact (Below.heap_alloc _ _ _ (by omega)).trans ((Below.heap_alloc _ _ _ (by omega)).trans (heap_alloc_new W _))
  have v1 : W1.heap[W.heap.size + 1]? = some (.cells #[.int .i64 2, .string nm, .int .u16 v, .slice q1 body.length d1, .int .i64 p.1, .int .i64 p.2] 36 (0, 0)) := by rw [hW1]; exact (Below.heap_alloc _ _ _ (by omega)).trans (heap_alloc2_new W _ _)
  have v2 : W1.heap[W.heap.size + 2]? = some (.cells #[.int .i64 0, .int .i64 0, .int .i64 0] 55 (0, 0)) := by
    have := heap_alloc_new ((W.alloc (.cells #[.int .i64 r1, .int .i64 r2, .int .i64 r3] 55)).alloc (.cells #[.int .i64 2, .string nm, .int .u16 v, .slice q1 body.length d1, .int .i64 p.1, .int .i64 p.2] 36)) (.cells #[.int .i64 0, .int .i64 0, .int .i64 0] 55)
    rw [s2, ← hW1] at this; exact this
  clear ht hO
  clear z1 zs s1 s2 v0 v1 v2
  clear hW1 W1
  go_enter Try.func26, Try.ntmps26
  go_wp2
  refine bodyPost_ret (v := .agg #[.int .i64 (wrap64 (r1 + 1)), .int .i64 (wrap64 (r2 + 4)), .int .i64 (r3)]) ?_ rfl ⟨rfl, ?_⟩
  · simp [results, Try.results26, go_sem, w_ar]
  · repeat first
      | exact Below.refl _ _
      | refine Below.setCell (p := ⟨_, _, _⟩) ?_ (by simp; try omega) _
      | refine Below.alloc ?_ (by simp; try omega) _
theorem wr (k : Int) (n1 : ¬ k = 1) (n2 : ¬ k = 2) (n3 : ¬ k = 3) (r1 r2 r3 : Int) (nm : ByteArray) (v : Int) (body : List Nd) (p : Ps) (q1 : Option Addr) (d1 : Nat) (O : Nat → Prop) (W : World) (hO : ∀ i, O i → i < W.heap.size) (ht : NV W O (.slice q1 body.length d1) body) :
    Calls Try.prog 26 #[.agg #[.int .i64 r1, .int .i64 r2, .int .i64 r3], .agg #[.int .i64 k, .string nm, .int .u16 v, .slice q1 body.length d1, .int .i64 p.1, .int .i64 p.2]] W fun e w' => e = .returned (.agg #[.int .i64 (wrap64 (r1 + 1)), .int .i64 (r2), .int .i64 (r3)]) ∧ Below W.heap.size W w' := by
  obtain ⟨W1, hW1⟩ : ∃ W1, W1 = ((W.alloc (.cells #[.int .i64 r1, .int .i64 r2, .int .i64 r3] 55)).alloc (.cells #[.int .i64 k, .string nm, .int .u16 v, .slice q1 body.length d1, .int .i64 p.1, .int .i64 p.2] 36)).alloc (.cells #[.int .i64 0, .int .i64 0, .int .i64 0] 55) := ⟨_, rfl⟩
  have z1 : Below W.heap.size W W1 := by rw [hW1]; exact (((Below.refl _ W).alloc (Nat.le_refl _) _).alloc (by simp) _).alloc (by simp; omega) _
  have zs : W1.heap.size = W.heap.size + 3 := by rw [hW1]; simp
  have s1 : (W.alloc (.cells #[.int .i64 r1, .int .i64 r2, .int .i64 r3] 55)).heap.size = W.heap.size + 1 := by simp
  have s2 : ((W.alloc (.cells #[.int .i64 r1, .int .i64 r2, .int .i64 r3] 55)).alloc (.cells #[.int .i64 k, .string nm, .int .u16 v, .slice q1 body.length d1, .int .i64 p.1, .int .i64 p.2] 36)).heap.size = W.heap.size + 2 := by simp
  have v0 : W1.heap[W.heap.size]? = some (.cells #[.int .i64 r1, .int .i64 r2, .int .i64 r3] 55 (0, 0)) := by rw [hW1]; exact (Below.heap_alloc _ _ _ (by omega)).trans ((Below.heap_alloc _ _ _ (by omega)).trans (heap_alloc_new W _))
  have v1 : W1.heap[W.heap.size + 1]? = some (.cells #[.int .i64 k, .string nm, .int .u16 v, .slice q1 body.length d1, .int .i64 p.1, .int .i64 p.2] 36 (0, 0)) := by rw [hW1]; exact (Below.heap_alloc _ _ _ (by omega)).trans (heap_alloc2_new W _ _)
  have v2 : W1.heap[W.heap.size + 2]? = some (.cells #[.int .i64 0, .int .i64 0, .int .i64 0] 55 (0, 0)) := by
    have := heap_alloc_new ((W.alloc (.cells #[.int .i64 r1, .int .i64 r2, .int .i64 r3] 55)).alloc (.cells #[.int .i64 k, .string nm, .int .u16 v, .slice q1 body.length d1, .int .i64 p.1, .int .i64 p.2] 36)) (.cells #[.int .i64 0, .int .i64 0, .int .i64 0] 55)
    rw [s2, ← hW1] at this; exact this
  have b1 : (k == 1) = false := by rw [Bool.eq_false_iff]; intro c; exact n1 (by simpa using c)
  have b2 : (k == 2) = false := by rw [Bool.eq_false_iff]; intro c; exact n2 (by simpa using c)
  have b3 : (k == 3) = false := by rw [Bool.eq_false_iff]; intro c; exact n3 (by simpa using c)
  clear ht hO
  clear z1 zs s1 s2 v0 v1 v2
  clear hW1 W1
  go_enter Try.func26, Try.ntmps26
  go_wp2
  refine bodyPost_ret (v := .agg #[.int .i64 (wrap64 (r1 + 1)), .int .i64 (r2), .int .i64 (r3)]) ?_ rfl ⟨rfl, ?_⟩
  · simp [results, Try.results26, go_sem, w_ar]
  · repeat first
      | exact Below.refl _ _
      | refine Below.setCell (p := ⟨_, _, _⟩) ?_ (by simp; try omega) _
      | refine Below.alloc ?_ (by simp; try omega) _
theorem with_any (r : Rm) (hr : RI r) (d : Df) (bv : Value) (O : Nat → Prop) (W : World) (hO : ∀ i, O i → i < W.heap.size) (ht : NV W O bv d.body) :
    Calls Try.prog 26 #[.agg (rmc r).toArray, .agg (dfc d bv).toArray] W fun e w' => e = .returned (.agg (rmc (wt r d)).toArray) ∧ Below W.heap.size W w' := by
  obtain ⟨r1, r2, r3⟩ := r
  obtain ⟨k, nm, v, body, p⟩ := d
  obtain ⟨h1, h2, h3⟩ := hr
  obtain ⟨q1, d1, rfl, _, _⟩ := ht.ex
  have e3 : wrap64 r3 = r3 := w_in _ h3
  have e2 : wrap64 r2 = r2 := w_in _ h2
  by_cases c1 : k = 1
  · subst c1
    have := w1 r1 r2 r3 nm v body p q1 d1 O W hO ht
    simp only [rmc, wt, db, dr, dfc, reduceIte, Int.reduceEq, or_self, Int.add_zero, e3]
    exact this
  by_cases c2 : k = 2
  · subst c2
    have := w2 r1 r2 r3 nm v body p q1 d1 O W hO ht
    simp only [rmc, wt, db, dr, dfc, reduceIte, Int.reduceEq, or_false, true_or, Int.add_zero, e3]
    exact this
  by_cases c3 : k = 3
  · subst c3
    have := w3 r1 r2 r3 nm v body p q1 d1 O W hO ht
    simp only [rmc, wt, db, dr, dfc, reduceIte, Int.reduceEq, or_true, Int.add_zero]
    exact this
  have := wr k c1 c2 c3 r1 r2 r3 nm v body p q1 d1 O W hO ht
  simp only [rmc, wt, db, dr, dfc, c1, c2, c3, or_self, if_false, Int.add_zero, e2, e3]
  exact this
theorem passes_any (r : Rm) (W : World) : Calls Try.prog 18 #[.agg (rmc r).toArray] W fun e w' => e = .returned (.int .i64 (ps r)) ∧ Below W.heap.size W w' := by
  obtain ⟨r1, r2, r3⟩ := r
  unfold rmc ps
  by_cases c1 : 512 < r1
  · have b1 : r1 > 512 := c1
    simp only [c1, if_true]
    go_enter Try.func18, Try.ntmps18
    go_wp2
    go_ret
    exact ⟨rfl, (Below.refl _ _).alloc (Nat.le_refl _) _⟩
  · by_cases c2 : 16384 < r2
    · simp only [c1, c2, if_true, if_false]
      go_enter Try.func18, Try.ntmps18
      go_wp2
      go_ret
      exact ⟨rfl, (Below.refl _ _).alloc (Nat.le_refl _) _⟩
    · by_cases c3 : 16384 < r3
      · simp only [c1, c2, c3, if_true, if_false]
        go_enter Try.func18, Try.ntmps18
        go_wp2
        go_ret
        exact ⟨rfl, (Below.refl _ _).alloc (Nat.le_refl _) _⟩
      · simp only [c1, c2, c3, if_false]
        go_enter Try.func18, Try.ntmps18
        go_wp2
        go_ret
        exact ⟨rfl, (Below.refl _ _).alloc (Nat.le_refl _) _⟩
theorem between_any (d : Df) (bv : Value) (a b : Rm) (W : World) (O : Nat → Prop) (ht : NV W O bv d.body) :
    Calls Try.prog 19 #[.agg (dfc d bv).toArray, .agg (rmc a).toArray, .agg (rmc b).toArray] W fun e w' => e = .returned (.agg (plc (bt d a b)).toArray) ∧ Below W.heap.size W w' := by
  obtain ⟨q1, d1, rfl, _, _⟩ := ht.ex
  clear ht
  obtain ⟨a1, a2, a3⟩ := a
  obtain ⟨b1, b2, b3⟩ := b
  obtain ⟨k, nm, v, body, p⟩ := d
  unfold dfc rmc plc bt
  by_cases c : k = 3
  · subst c
    simp only [if_true]
    go_enter Try.func19, Try.ntmps19
    go_wp2
    refine bodyPost_ret (v := .agg #[.string nm, .int .u16 (a2 % 65536), .int .i64 (wrap64 (b2 - a2)), .int .u16 ((32768 + a3) % 65536)]) ?_ rfl ⟨rfl, ?_⟩
    · simp [results, Try.results19, go_sem, IntKind.wrap_u16, w_u16]
    · repeat first
        | exact Below.refl _ _
        | refine Below.setCell (p := ⟨_, _, _⟩) ?_ (by simp; try omega) _
        | refine Below.alloc ?_ (by simp; try omega) _
  · have e : (k == 3) = false := by simpa using c
    simp only [c, if_false]
    go_enter Try.func19, Try.ntmps19
    go_wp2
    refine bodyPost_ret (v := .agg #[.string nm, .int .u16 (a2 % 65536), .int .i64 (wrap64 (b2 - a2)), .int .u16 0]) ?_ rfl ⟨rfl, ?_⟩
    · simp [results, Try.results19, go_sem, IntKind.wrap_u16, w_u16]
    · repeat first
        | exact Below.refl _ _
        | refine Below.setCell (p := ⟨_, _, _⟩) ?_ (by simp; try omega) _
        | refine Below.alloc ?_ (by simp; try omega) _
end Go.Proofs.Yteeanomkbclinaa.Y
