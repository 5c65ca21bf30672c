import Derived.Test.YteeanomkbclinaaYNodes
/-! LayoutSizes, walked. -/
namespace Go.Proofs.Yteeanomkbclinaa.Y
open Go.RowKit
open Go.Proofs
set_option linter.unusedVariables false
set_option linter.unusedSimpArgs false
set_option maxHeartbeats 4000000
set_option maxRecDepth 100000
/-- The two lists in a later world. -/
structure BM (W w : World) (O : Nat → Prop) (bv mv : Value) (body more : List Nd) : Prop where
  bel : Below W.heap.size W w
  b : NV w O bv body
  m : NV w O mv more
  o : ∀ i, O i → i < w.heap.size
theorem BM.next {W w w' : World} {O : Nat → Prop} {bv mv : Value} {body more : List Nd} (h : BM W w O bv mv body more) (k : Below w.heap.size w w') : BM W w' O bv mv body more :=
  ⟨h.bel.trans (k.mono h.bel.size), h.b.below k h.o, h.m.below k h.o, fun i hi => Nat.lt_of_lt_of_le (h.o i hi) k.size⟩
theorem sizes_walk (body more : List Nd) (bv mv : Value) (O : Nat → Prop) (W : World) (hO : ∀ i, O i → i < W.heap.size) (hb : NV W O bv body) (hm : NV W O mv more) (lb : body.length ≤ 1048576) (lm : more.length ≤ 1048576) (cb : cl body ≤ 1099511627776) (cm : cl more ≤ 1099511627776) :
    Calls Try.prog 5 #[bv, mv] W fun e w' => e = .returned (.bool true) ∧ Below W.heap.size W w' := by
  have H := hid (BM.mk (Below.refl _ W) hb hm hO)
  obtain ⟨q1, d1, rfl, _, _⟩ := hb.ex
  obtain ⟨q2, d2, rfl, _, _⟩ := hm.ex
  have pb := cl_nn body
  have pm := cl_nn more
  obtain ⟨A, hA⟩ : ∃ A : Int, A = cl body := ⟨_, rfl⟩
  obtain ⟨C, hC⟩ : ∃ C : Int, C = cl more := ⟨_, rfl⟩
  rw [← hA] at cb pb
  rw [← hC] at cm pm
  have wA : wrap64 (2 * cl body) = 2 * A := by rw [← hA]; exact w_in _ (by omega)
  have wC : wrap64 (2 * cl more) = 2 * C := by rw [← hC]; exact w_in _ (by omega)
  have HA := hid (And.intro hA (And.intro hC (And.intro wA wC)))
  clear hA hC wA wC hb hm hO
  go_enter Try.func5, Try.ntmps5
  go_wp2_with fail
  refine (fixed_any _).mono ?_
  rintro e w0 ⟨rfl, k⟩
  have H := hid (H.out.next k)
  clear k
  go_wp2_with fail
  refine (size_any body _ O w0 H.out.o H.out.b).mono ?_
  rintro e w1 ⟨rfl, k⟩
  rw [HA.out.2.2.1]
  have H := hid (H.out.next k)
  clear k
  go_wp2_with fail
  refine (size_any more _ O w1 H.out.o H.out.m).mono ?_
  rintro e w2 ⟨rfl, k⟩
  rw [HA.out.2.2.2]
  have H := hid (H.out.next k)
  clear k
  have k0 : Below w2.heap.size w2 (w2.alloc (.cells #[] 38)) := (Below.refl _ _).alloc (Nat.le_refl _) _
  have r0 := S.own_empty w2 38 9
  obtain ⟨cs1, nc1, hc1'⟩ := H.out.b.nc
  obtain ⟨cs2, nc2, hc2⟩ := H.out.m.nc
  have hc1 := hc1'.below k0
  have HK0 := hid k0
  have HN := hid (And.intro nc1 (And.intro nc2 hc2))
  clear k0 nc1 nc2 hc2 hc1'
  have n0 : ¬ 2 * A < 0 := by omega
  go_wp2_with (first | (refine S.wpList_append_row _ rfl _ _ 34 38 _ 9 112 Try.underlying34 infoNd rfl (by decide) rfl w2.heap.size _ 0 [] rfl r0 _ body.length cs1 rfl hc1 (by unfold S.room; omega) (by unfold maxLen; omega) HK0.out.size (fun v1 w3 hr1 hg1 => ?_); have k3 : Below w2.heap.size w2 w3 := hg1.belowAll (fun gg ee => own_ge r0 gg ee) HK0.out (Nat.le_refl _); have hc3 := HN.out.2.2.below k3; have HK3 := hid k3; have HG := hid hg1; clear r0 hc1 k3 hg1; obtain ⟨p3, m3, c3, rfl⟩ := own_slice hr1) | (refine S.wpList_append_row _ rfl _ _ 34 38 _ 9 112 Try.underlying34 infoNd rfl (by decide) rfl w2.heap.size _ (0 + body.length) ([] ++ cs1) rfl hr1 _ more.length cs2 rfl hc3 (by unfold S.room; omega) (by unfold maxLen; omega) HK3.out.size (fun v2 w4 hr2 hg2 => ?_); have k4 : Below w2.heap.size w2 w4 := hg2.belowAll (fun gg ee => own_ge hr1 gg ee) HK3.out (Nat.le_refl _); have HK4 := hid k4; have HR2 := hid hr2; obtain ⟨p4, m4, c4, hv4⟩ := own_slice hr2; subst hv4; clear hr1 hc3 hg2 k4 hr2))
  have H4 := hid (H.out.next HK4.out)
  have hnc : NC w4 (fun i => i < w4.heap.size) (body ++ more) (cs1 ++ cs2) := NC.kept (fun i hi => HK4.out.block i (H.out.o i hi)) (fun i hi => Nat.lt_of_lt_of_le (H.out.o i hi) HK4.out.size) (NC.app HN.out.1 HN.out.2.1)
  have hrr : w4.ownsRow w2.heap.size 38 9 (.slice p4 m4 c4) (body ++ more).length (cs1 ++ cs2) := by
    have := HR2.out
    rw [List.nil_append, Nat.zero_add] at this
    rw [List.length_append]; exact this
  have hnv := own_nv hrr hnc (by rw [List.length_append]; omega) (fun g hg => by
    rcases hrr.2 with ⟨e, _⟩ | ⟨g', cap, cur, e, h2, h3, _⟩
    · cases e; cases hg
    · cases e; cases hg; exact S.lt_of h3)
  have wb : wrap64 (2 * cl (body ++ more)) = 2 * A + 2 * C := by rw [cl_append, ← HA.out.1, ← HA.out.2.1, w_in _ (by omega)]; omega
  refine (size_any (body ++ more) _ _ w4 (fun _ h => h) hnv).mono ?_
  rintro e w5 ⟨rfl, k⟩
  rw [wb]
  have H := hid (H4.out.next k)
  clear k hnv hrr hnc wb H4
  go_wp2_with fail
  refine (size_any [] _ O w5 H.out.o (nv_nil _ _)).mono ?_
  rintro e w6 ⟨rfl, k⟩
  have w00 : wrap64 (2 * cl []) = 0 := by rw [cl_nil]; exact w_in _ (by omega)
  rw [w00]
  have H := hid (H.out.next k)
  clear k w00
  go_wp2_with fail
  have ho := one_any (.mk 4 0 0 ⟨#[]⟩ body [] false (0, 0)) _ _ O w6 H.out.o H.out.b (nv_nil _ _)
  have wo : wrap64 (2 * ce (.mk 4 0 0 ⟨#[]⟩ body [] false (0, 0))) = 4 + 2 * A := by
    rw [ce_is]
    show wrap64 (2 * cn 4 false (cl body) (cl [])) = _
    rw [← HA.out.1]
    unfold cn
    simp only [reduceIte, Int.reduceEq, or_false, or_true, true_or, false_or, Bool.false_eq_true, Int.reduceNeg, Int.reduceMul]
    rw [w_in _ (by omega)]
    omega
  rw [wo] at ho
  unfold ndc at ho
  refine Calls.mono ho ?_
  rintro e w7 ⟨rfl, k⟩
  have H := hid (H.out.next k)
  clear k ho wo
  go_wp2_with fail
  have ho := one_any (.mk 4 0 0 ⟨#[]⟩ body more true (0, 0)) _ _ O w7 H.out.o H.out.b H.out.m
  have wo : wrap64 (2 * ce (.mk 4 0 0 ⟨#[]⟩ body more true (0, 0))) = 8 + 2 * A + 2 * C := by
    rw [ce_is]
    show wrap64 (2 * cn 4 true (cl body) (cl more)) = _
    rw [← HA.out.1, ← HA.out.2.1]
    unfold cn
    simp only [reduceIte, Int.reduceEq, or_false, or_true, true_or, false_or, Bool.false_eq_true, Int.reduceNeg, Int.reduceMul]
    rw [w_in _ (by omega)]
    omega
  rw [wo] at ho
  unfold ndc at ho
  refine Calls.mono ho ?_
  rintro e w8 ⟨rfl, k⟩
  have H := hid (H.out.next k)
  clear k ho wo
  go_wp2_with fail
  have ho := one_any (.mk 4 0 0 ⟨#[]⟩ body more false (0, 0)) _ _ O w8 H.out.o H.out.b H.out.m
  have wo : wrap64 (2 * ce (.mk 4 0 0 ⟨#[]⟩ body more false (0, 0))) = 4 + 2 * A := by
    rw [ce_is]
    show wrap64 (2 * cn 4 false (cl body) (cl more)) = _
    rw [← HA.out.1, ← HA.out.2.1]
    unfold cn
    simp only [reduceIte, Int.reduceEq, or_false, or_true, true_or, false_or, Bool.false_eq_true, Int.reduceNeg, Int.reduceMul]
    rw [w_in _ (by omega)]
    omega
  rw [wo] at ho
  unfold ndc at ho
  refine Calls.mono ho ?_
  rintro e w9 ⟨rfl, k⟩
  have H := hid (H.out.next k)
  clear k ho wo
  go_wp2_with fail
  have ho := one_any (.mk 5 0 0 ⟨#[]⟩ body more false (0, 0)) _ _ O w9 H.out.o H.out.b H.out.m
  have wo : wrap64 (2 * ce (.mk 5 0 0 ⟨#[]⟩ body more false (0, 0))) = 2 * A + 4 := by
    rw [ce_is]
    show wrap64 (2 * cn 5 false (cl body) (cl more)) = _
    rw [← HA.out.1, ← HA.out.2.1]
    unfold cn
    simp only [reduceIte, Int.reduceEq, or_false, or_true, true_or, false_or, Bool.false_eq_true, Int.reduceNeg, Int.reduceMul]
    rw [w_in _ (by omega)]
    omega
  rw [wo] at ho
  unfold ndc at ho
  refine Calls.mono ho ?_
  rintro e w10 ⟨rfl, k⟩
  have H := hid (H.out.next k)
  clear k ho wo
  go_wp2_with fail
  have ho := one_any (.mk 7 0 0 ⟨#[]⟩ body [] false (0, 0)) _ _ O w10 H.out.o H.out.b (nv_nil _ _)
  have wo : wrap64 (2 * ce (.mk 7 0 0 ⟨#[]⟩ body [] false (0, 0))) = 2 * A + 4 := by
    rw [ce_is]
    show wrap64 (2 * cn 7 false (cl body) (cl [])) = _
    rw [← HA.out.1]
    unfold cn
    simp only [reduceIte, Int.reduceEq, or_false, or_true, true_or, false_or, Bool.false_eq_true, Int.reduceNeg, Int.reduceMul]
    rw [w_in _ (by omega)]
    omega
  rw [wo] at ho
  unfold ndc at ho
  refine Calls.mono ho ?_
  rintro e w11 ⟨rfl, k⟩
  have H := hid (H.out.next k)
  clear k ho wo
  go_wp2_with fail
  have ho := one_any (.mk 6 0 0 ⟨#[]⟩ body more false (0, 0)) _ _ O w11 H.out.o H.out.b H.out.m
  have wo : wrap64 (2 * ce (.mk 6 0 0 ⟨#[]⟩ body more false (0, 0))) = 2 * A + 2 * C + 8 := by
    rw [ce_is]
    show wrap64 (2 * cn 6 false (cl body) (cl more)) = _
    rw [← HA.out.1, ← HA.out.2.1]
    unfold cn
    simp only [reduceIte, Int.reduceEq, or_false, or_true, true_or, false_or, Bool.false_eq_true, Int.reduceNeg, Int.reduceMul]
    rw [w_in _ (by omega)]
    omega
  rw [wo] at ho
  unfold ndc at ho
  refine Calls.mono ho ?_
  rintro e w12 ⟨rfl, k⟩
  have H := hid (H.out.next k)
  clear k ho wo
  go_wp2_with fail
  have ho := one_any (.mk 8 0 0 ⟨#[]⟩ body more false (0, 0)) _ _ O w12 H.out.o H.out.b H.out.m
  have wo : wrap64 (2 * ce (.mk 8 0 0 ⟨#[]⟩ body more false (0, 0))) = 2 * A + 6 := by
    rw [ce_is]
    show wrap64 (2 * cn 8 false (cl body) (cl more)) = _
    rw [← HA.out.1, ← HA.out.2.1]
    unfold cn
    simp only [reduceIte, Int.reduceEq, or_false, or_true, true_or, false_or, Bool.false_eq_true, Int.reduceNeg, Int.reduceMul]
    rw [w_in _ (by omega)]
    omega
  rw [wo] at ho
  unfold ndc at ho
  refine Calls.mono ho ?_
  rintro e w13 ⟨rfl, k⟩
  have H := hid (H.out.next k)
  clear k ho wo
  go_wp2_with fail
  have ho := one_any (.mk 2 0 9 ⟨#[]⟩ [] [] false (0, 0)) _ _ O w13 H.out.o (nv_nil _ _) (nv_nil _ _)
  have wo : wrap64 (2 * ce (.mk 2 0 9 ⟨#[]⟩ [] [] false (0, 0))) = 4 := by
    rw [ce_is]
    show wrap64 (2 * cn 2 false (cl []) (cl [])) = _
    skip
    unfold cn
    simp only [reduceIte, Int.reduceEq, or_false, or_true, true_or, false_or, Bool.false_eq_true, Int.reduceNeg, Int.reduceMul, cl_nil]
    rw [w_in _ (by omega)]
    try omega
  rw [wo] at ho
  unfold ndc at ho
  refine Calls.mono ho ?_
  rintro e w14 ⟨rfl, k⟩
  have H := hid (H.out.next k)
  clear k ho wo
  go_wp2_with fail
  have ho := one_any (.mk 9 0 0 ⟨#[]⟩ [] [] false (0, 0)) _ _ O w14 H.out.o (nv_nil _ _) (nv_nil _ _)
  have wo : wrap64 (2 * ce (.mk 9 0 0 ⟨#[]⟩ [] [] false (0, 0))) = 2 := by
    rw [ce_is]
    show wrap64 (2 * cn 9 false (cl []) (cl [])) = _
    skip
    unfold cn
    simp only [reduceIte, Int.reduceEq, or_false, or_true, true_or, false_or, Bool.false_eq_true, Int.reduceNeg, Int.reduceMul, cl_nil]
    rw [w_in _ (by omega)]
    try omega
  rw [wo] at ho
  unfold ndc at ho
  refine Calls.mono ho ?_
  rintro e w15 ⟨rfl, k⟩
  have H := hid (H.out.next k)
  clear k ho wo
  go_wp2_with fail
  have ho := one_any (.mk 3 0 0 ⟨#[]⟩ [] [] false (0, 0)) _ _ O w15 H.out.o (nv_nil _ _) (nv_nil _ _)
  have wo : wrap64 (2 * ce (.mk 3 0 0 ⟨#[]⟩ [] [] false (0, 0))) = 2 := by
    rw [ce_is]
    show wrap64 (2 * cn 3 false (cl []) (cl [])) = _
    skip
    unfold cn
    simp only [reduceIte, Int.reduceEq, or_false, or_true, true_or, false_or, Bool.false_eq_true, Int.reduceNeg, Int.reduceMul, cl_nil]
    rw [w_in _ (by omega)]
    try omega
  rw [wo] at ho
  unfold ndc at ho
  refine Calls.mono ho ?_
  rintro e w16 ⟨rfl, k⟩
  have H := hid (H.out.next k)
  clear k ho wo
  go_wp2_with fail
  have ho := one_any (.mk 10 0 0 ⟨#[]⟩ body [] false (0, 0)) _ _ O w16 H.out.o H.out.b (nv_nil _ _)
  have wo : wrap64 (2 * ce (.mk 10 0 0 ⟨#[]⟩ body [] false (0, 0))) = 0 := by
    rw [ce_is]
    show wrap64 (2 * cn 10 false (cl body) (cl [])) = _
    rw [← HA.out.1]
    unfold cn
    simp only [reduceIte, Int.reduceEq, or_false, or_true, true_or, false_or, Bool.false_eq_true, Int.reduceNeg, Int.reduceMul]
    rw [w_in _ (by omega)]
    try omega
  rw [wo] at ho
  unfold ndc at ho
  refine Calls.mono ho ?_
  rintro e w17 ⟨rfl, k⟩
  have H := hid (H.out.next k)
  clear k ho wo
  go_wp2_with fail
  have ho := one_any (.mk (-1) 0 0 ⟨#[]⟩ [] [] false (0, 0)) _ _ O w17 H.out.o (nv_nil _ _) (nv_nil _ _)
  have wo : wrap64 (2 * ce (.mk (-1) 0 0 ⟨#[]⟩ [] [] false (0, 0))) = 0 := by
    rw [ce_is]
    show wrap64 (2 * cn (-1) false (cl []) (cl [])) = _
    skip
    unfold cn
    simp only [reduceIte, Int.reduceEq, or_false, or_true, true_or, false_or, Bool.false_eq_true, Int.reduceNeg, Int.reduceMul, cl_nil]
    rw [w_in _ (by omega)]
    try omega
  rw [wo] at ho
  unfold ndc at ho
  refine Calls.mono ho ?_
  rintro e w18 ⟨rfl, k⟩
  have H := hid (H.out.next k)
  clear k ho wo
  go_wp2
  go_ret
  exact ⟨rfl, H.out.bel⟩
end Go.Proofs.Yteeanomkbclinaa.Y
