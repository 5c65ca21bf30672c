import Derived.Test.YtdnklgceghllaaaGreatDoorMEq
namespace Go.Proofs.YtdnklgceghllaaaGreatDoor.M
open Go.RowKit
open Go.Proofs
open Go.Proofs.YtdnklgceghllaaaGreatDoor.Y (Nd Df Ps Bk DV BV hid)
open Go.Proofs.YtdnklgceghllaaaGreatDoor.D (RdO New Er)
open Go.Proofs.YtdnklgceghllaaaGreatDoor.R (chk)
set_option linter.unusedVariables false
set_option linter.unusedSimpArgs false
set_option maxHeartbeats 4000000
set_option maxRecDepth 100000
theorem two_box (w : World) (dv xv p q : Value) : ∃ W2, (w.alloc (.cells #[dv, xv] 26)).alloc (.cells #[p, q] 28) = W2 /\ Below w.heap.size w W2 /\ W2.heap[w.heap.size]? = some (.cells [dv, xv].toArray 26 (0, 0)) /\ W2.heap[w.heap.size + 1]? = some (.cells [p, q].toArray 28 (0, 0)) :=
 ⟨_, rfl, ((Below.refl _ _).alloc (Nat.le_refl _) _).alloc (by simp) _, (Below.heap_alloc _ _ _ (by simp)).trans (heap_alloc_new w _), heap_alloc2_new w _ _⟩
theorem box2 {W w : World} {b : Nat} {x y : Value} {t : TypeId} (h : W.heap[b]? = some (.cells [x, y].toArray t (0, 0))) (k : Below W.heap.size W w) : w.cell? ⟨b, 0, none⟩ = some x /\ w.cell? ⟨b, 1, none⟩ = some y := by
 have h2 := (k.block _ (Array.getElem?_eq_some_iff.1 h).1).trans h
 exact ⟨S.cell_of w b 0 _ t _ h2 rfl, S.cell_of w b 1 _ t _ h2 rfl⟩
theorem dv_nil (w : World) (O : Nat -> Prop) : DV w O (.slice none 0 0) [] := ⟨none, 0, rfl, by simp, fun i d h => by simp at h⟩
theorem bv_nil (w : World) (O : Nat -> Prop) : BV w O (.slice none 0 0) [] := ⟨none, 0, rfl, fun i d h => by simp at h⟩
theorem prn1' : prn [df1] [] = (⟨#[58, 32, 109, 97, 105, 110, 32, 55, 32, 100, 114, 111, 112, 32, 59, 10]⟩, 0) := prn1
theorem df1_nm : ∀ d ∈ [df1], d.nm.size <= maxLen := fun d hd => by
 rw [List.mem_singleton] at hd
 rw [hd]
 decide
theorem fixed_any (W : World) (hT : P10 W) : Calls Tryz.prog 9 #[] W fun e w' => e = .returned (.bool true) /\ Below W.heap.size W w' := by
 have hc1 := parse_any tx1 (by decide) W
 rw [pans1] at hc1
 have hc2 := fun w => parse_any tx2 (by decide) w
 rw [pans2] at hc2
 unfold tx1 at hc1
 unfold tx2 at hc2
 have HT := hid hT
 clear hT
 go_enter Tryz.func9, Tryz.ntmps9
 go_wp2_with fail
 refine hc1.mono ?_
 rintro e w1 ⟨dv, xv, rfl, hD, hX, hb1⟩
 obtain ⟨p1, c1, e1, _⟩ := id hD
 obtain ⟨p2, c2, e2, _⟩ := id hX
 subst e1 e2
 simp only [List.length_cons, List.length_nil, Nat.zero_add] at hD hX ⊢
 obtain ⟨W2, hW2, hb2, u0, u1⟩ := two_box w1 (.slice p1 1 c1) (.slice p2 0 c2) (.int .i64 0) (.int .i64 0)
 have HH := hid (And.intro hD (And.intro hX (And.intro hb1 (And.intro hb2 (And.intro u0 u1)))))
 have HW2 := hid hW2
 clear hc1 hD hX hb1 hb2 u0 u1 hW2
 go_wp2_with fail
 rw [HW2.out]
 refine (hc2 W2).mono ?_
 rintro e w3 ⟨rfl, hb3⟩
 obtain ⟨W4, hW4, hb4, v0, v1⟩ := two_box w3 (.slice none 0 0) (.slice none 0 0) (.int .i64 1) (.int .i64 11)
 obtain ⟨hD, hX, hb1, hb2, u0, u1⟩ := HH.out
 have hb34 := hb3.trans (hb4.mono hb3.size)
 have hb24 : Below w1.heap.size w1 W4 := hb2.trans (hb34.mono hb2.size)
 obtain ⟨x0, x1⟩ := box2 u0 hb34
 obtain ⟨x2, x3⟩ := box2 u1 hb34
 obtain ⟨y0, y1⟩ := box2 v0 (Below.refl _ W4)
 obtain ⟨y2, y3⟩ := box2 v1 (Below.refl _ W4)
 have hB4 : Below W.heap.size W W4 := hb1.trans (hb24.mono hb1.size)
 have HX := hid (fun (w : World) (k : Below W4.heap.size W4 w) => box2 u0 (hb34.trans (k.mono hb34.size)))
 have HO := hid (fun (w : World) (k : Below W4.heap.size W4 w) => show (∀ j, New W w1 j -> j < w.heap.size) /\ DV w (New W w1) (.slice p1 1 c1) [df1] /\ BV w (New W w1) (.slice p2 0 c2) [] /\ P10 w /\ Below W.heap.size W w from by
  have hk : Below w1.heap.size w1 w := hb24.trans (k.mono hb24.size)
  have hW : Below W.heap.size W w := hB4.trans (k.mono hB4.size)
  exact ⟨fun j hj => Nat.lt_of_lt_of_le hj.2 hk.size, hD.below hk (fun j hj => hj.2), hX.below hk (fun j hj => hj.2), HT.out.below hW, hW⟩)
 clear hc2 hD hX hb1 hb2 u0 u1 v0 v1 hb3 hb4 hb34 hb24 hB4 HH
 have HW4 := hid hW4
 clear hW4
 go_upto_region 3 with fail
 rw [HW4.out]
 go_wp2_with fail
 obtain ⟨o1, o2, o3, o4, o5⟩ := HO.out W4 (Below.refl _ _)
 have hc3 := print_is [df1] [] df1_nm (by decide) _ _ _ W4 o1 o2 o3 o4
 rw [prn1'] at hc3
 clear o1 o2 o3 o4 o5
 refine hc3.mono ?_
 rintro e w5 ⟨rfl, hb5⟩
 obtain ⟨x0, x1⟩ := HX.out w5 hb5
 obtain ⟨o1, o2, o3, o4, o5⟩ := HO.out w5 hb5
 have hc4 := R.check_any [df1] [] df1_nm (by decide) _ _ _ w5 o1 o2 o3
 rw [chk1] at hc4
 have H5 := hid hb5
 clear hc3 hb5 o1 o2 o3 o4 o5 y0 y1 y2 y3 x2 x3
 go_wp2_with fail
 refine hc4.mono ?_
 rintro e w6 ⟨rfl, hb6⟩
 have hb46 := H5.out.trans (hb6.mono H5.out.size)
 obtain ⟨x0, x1⟩ := HX.out w6 hb46
 have hc5 := R.check_any [] [] (fun d hd => by cases hd) (by decide) _ _ (fun _ => False) w6 (fun j hj => hj.elim) (dv_nil _ _) (bv_nil _ _)
 rw [chk0] at hc5
 have H6 := hid hb46
 clear hc4 hb6 hb46 H5
 go_wp2_with fail
 refine hc5.mono ?_
 rintro e w7 ⟨rfl, hb7⟩
 have hb47 := H6.out.trans (hb7.mono H6.out.size)
 obtain ⟨x0, x1⟩ := HX.out w7 hb47
 obtain ⟨o1, o2, o3, o4, o5⟩ := HO.out w7 hb47
 have hc6 := same_any [df1] [df1] [] [] (by decide) _ _ _ _ _ w7 o1 o2 o3 o2 o3
 rw [smds_refl, smbs_refl, Bool.and_true] at hc6
 have H7 := hid hb47
 clear hc5 hb7 hb47 H6 o1 o2 o3 o4 o5
 go_wp2_with fail
 refine hc6.mono ?_
 rintro e w8 ⟨rfl, hb8⟩
 have hb48 := H7.out.trans (hb8.mono H7.out.size)
 obtain ⟨x0, x1⟩ := HX.out w8 hb48
 obtain ⟨o1, o2, o3, o4, o5⟩ := HO.out w8 hb48
 have hc7 := same_any [df1] [] [] [] (by decide) _ _ (.slice none 0 0) (.slice none 0 0) _ w8 o1 o2 o3 (dv_nil _ _) (bv_nil _ _)
 rw [show smds [df1] [] = false from rfl, Bool.false_and] at hc7
 have H8 := hid hb48
 clear hc6 hb8 hb48 H7 o1 o2 o3 o4 o5
 go_wp2_with fail
 refine hc7.mono ?_
 rintro e w9 ⟨rfl, hb9⟩
 have H9 := hid (HO.out w9 (H8.out.trans (hb9.mono H8.out.size))).2.2.2.2
 clear hc7 hb9
 go_wp2
 go_ret
 exact ⟨rfl, H9.out⟩
end Go.Proofs.YtdnklgceghllaaaGreatDoor.M
