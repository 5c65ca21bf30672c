import Derived.Test.YtmcfbcebjfeemaaNames
import Derived.Test.YtmcfbcebjfeemaaOrder
namespace Go.Proofs.Ytmcfbcebjfeemaa
open Go.RowKit

set_option maxHeartbeats 400000 in
theorem count_any (a b c : Int) (h : (a = 65535 ∧ b = 0 ∧ c = 0) ∨ (a = 0 ∧ b = 65535 ∧ c = 0) ∨ (a = 0 ∧ b = 0 ∧ c = 65535)) (w : World) :
    Calls Try.prog 14 #[.int .u16 a, .int .u16 b, .int .u16 c] w fun e w' => e = .returned (.bool true) ∧ w' = w := by
  rcases h with ⟨rfl, rfl, rfl⟩ | ⟨rfl, rfl, rfl⟩ | ⟨rfl, rfl, rfl⟩
  · go_enter Try.func14, Try.ntmps14
    go_wp2
    go_ret
    exact ⟨rfl, rfl⟩
  · go_enter Try.func14, Try.ntmps14
    go_wp2
    go_ret
    exact ⟨rfl, rfl⟩
  · go_enter Try.func14, Try.ntmps14
    go_wp2
    go_ret
    exact ⟨rfl, rfl⟩
set_option maxRecDepth 100000 in
set_option maxHeartbeats 2000000 in
theorem order_ltlttt (x y z : Int) (hx : C x) (hy : C y) (hz : C z) (hs : sg x < sg y) (hu : x < y) (hs2 : sg y < sg z) (hu2 : y < z) (w : World) :
    Calls Try.prog 5 #[.int .u16 x, .int .u16 y, .int .u16 z] w fun e w' => e = .returned (.bool true) ∧ w' = w := by
  have hne : x ≠ y := by omega
  have hb : (x == y) = false := by rw [beq_eq_false_iff_ne]; exact hne
  have e42xy := o42f (x := x) (y := y) (hne)
  have e43xy := o43t (x := x) (y := y) (hne)
  have e44xy := o44t (x := x) (y := y) (by omega)
  have e45xy := o45f (x := x) (y := y) (by omega)
  have e45yx := o45t (x := y) (y := x) (by omega)
  have e46xy := o46t (x := x) (y := y) (by omega)
  have e47xy := o47f (x := x) (y := y) (by omega)
  have e47yx := o47t (x := y) (y := x) (by omega)
  have e30 := o30l (y := y) hx (by omega)
  have e31 := o31l (x := x) hy hs
  have e44yz := o44t (x := y) (y := z) (hs2)
  have e44xz := o44t (x := x) (y := z) (by omega)
  clear hs2
  have e46yz := o46t (x := y) (y := z) (hu2)
  have e46xz := o46t (x := x) (y := z) (by omega)
  clear hu2
  have eun := ounlike x y false (sgs hx hy false (iff_of_true (by omega) rfl))
  clear hne
  have e39a := o39a
  have e39b := o39b
  have e48 := o48 x
  have e49 := o49 x
  clear hs hu
  go_enter Try.func5, Try.ntmps5
  go_wp2_with (first | (go_at_call 12; refine (two_any _ _ _ ?_ ?_ _).mono ?_; rotate_left 2; rintro e w' ⟨rfl, rfl⟩; rotate_left 1; (first | exact hx | exact hy | exact hz | exact C_lit _ (by decide) (by decide)); (first | exact hx | exact hy | exact hz | exact C_lit _ (by decide) (by decide))) | (go_at_call 13; refine (one_any _ _ ?_ _).mono ?_; rotate_left 1; rintro e w' ⟨rfl, rfl⟩; rotate_left 1; (first | exact hx | exact hy | exact C_lit _ (by decide) (by decide))) | (go_at_call 14; refine (count_any _ _ _ (by decide) _).mono ?_; rintro e w' ⟨rfl, rfl⟩) | (go_at_call 9; refine (fixed_any _).mono ?_; rintro e w' ⟨rfl, rfl⟩))
  go_ret
  exact ⟨rfl, rfl⟩
set_option maxRecDepth 100000 in
set_option maxHeartbeats 2000000 in
theorem order_ltlttf (x y z : Int) (hx : C x) (hy : C y) (hz : C z) (hs : sg x < sg y) (hu : x < y) (hs2 : sg y < sg z) (hu2 : ¬ y < z) (w : World) :
    Calls Try.prog 5 #[.int .u16 x, .int .u16 y, .int .u16 z] w fun e w' => e = .returned (.bool true) ∧ w' = w := by
  have hne : x ≠ y := by omega
  have hb : (x == y) = false := by rw [beq_eq_false_iff_ne]; exact hne
  have e42xy := o42f (x := x) (y := y) (hne)
  have e43xy := o43t (x := x) (y := y) (hne)
  have e44xy := o44t (x := x) (y := y) (by omega)
  have e45xy := o45f (x := x) (y := y) (by omega)
  have e45yx := o45t (x := y) (y := x) (by omega)
  have e46xy := o46t (x := x) (y := y) (by omega)
  have e47xy := o47f (x := x) (y := y) (by omega)
  have e47yx := o47t (x := y) (y := x) (by omega)
  have e30 := o30l (y := y) hx (by omega)
  have e31 := o31l (x := x) hy hs
  have e44yz := o44t (x := y) (y := z) (hs2)
  have e44xz := o44t (x := x) (y := z) (by omega)
  clear hs2
  have e46yz := o46f (x := y) (y := z) (hu2)
  clear hu2
  have eun := ounlike x y false (sgs hx hy false (iff_of_true (by omega) rfl))
  clear hne
  have e39a := o39a
  have e39b := o39b
  have e48 := o48 x
  have e49 := o49 x
  clear hs hu
  go_enter Try.func5, Try.ntmps5
  go_wp2_with (first | (go_at_call 12; refine (two_any _ _ _ ?_ ?_ _).mono ?_; rotate_left 2; rintro e w' ⟨rfl, rfl⟩; rotate_left 1; (first | exact hx | exact hy | exact hz | exact C_lit _ (by decide) (by decide)); (first | exact hx | exact hy | exact hz | exact C_lit _ (by decide) (by decide))) | (go_at_call 13; refine (one_any _ _ ?_ _).mono ?_; rotate_left 1; rintro e w' ⟨rfl, rfl⟩; rotate_left 1; (first | exact hx | exact hy | exact C_lit _ (by decide) (by decide))) | (go_at_call 14; refine (count_any _ _ _ (by decide) _).mono ?_; rintro e w' ⟨rfl, rfl⟩) | (go_at_call 9; refine (fixed_any _).mono ?_; rintro e w' ⟨rfl, rfl⟩))
  go_ret
  exact ⟨rfl, rfl⟩
set_option maxRecDepth 100000 in
set_option maxHeartbeats 2000000 in
theorem order_ltltft (x y z : Int) (hx : C x) (hy : C y) (hz : C z) (hs : sg x < sg y) (hu : x < y) (hs2 : ¬ sg y < sg z) (hu2 : y < z) (w : World) :
    Calls Try.prog 5 #[.int .u16 x, .int .u16 y, .int .u16 z] w fun e w' => e = .returned (.bool true) ∧ w' = w := by
  have hne : x ≠ y := by omega
  have hb : (x == y) = false := by rw [beq_eq_false_iff_ne]; exact hne
  have e42xy := o42f (x := x) (y := y) (hne)
  have e43xy := o43t (x := x) (y := y) (hne)
  have e44xy := o44t (x := x) (y := y) (by omega)
  have e45xy := o45f (x := x) (y := y) (by omega)
  have e45yx := o45t (x := y) (y := x) (by omega)
  have e46xy := o46t (x := x) (y := y) (by omega)
  have e47xy := o47f (x := x) (y := y) (by omega)
  have e47yx := o47t (x := y) (y := x) (by omega)
  have e30 := o30l (y := y) hx (by omega)
  have e31 := o31l (x := x) hy hs
  have e44yz := o44f (x := y) (y := z) (hs2)
  clear hs2
  have e46yz := o46t (x := y) (y := z) (hu2)
  have e46xz := o46t (x := x) (y := z) (by omega)
  clear hu2
  have eun := ounlike x y false (sgs hx hy false (iff_of_true (by omega) rfl))
  clear hne
  have e39a := o39a
  have e39b := o39b
  have e48 := o48 x
  have e49 := o49 x
  clear hs hu
  go_enter Try.func5, Try.ntmps5
  go_wp2_with (first | (go_at_call 12; refine (two_any _ _ _ ?_ ?_ _).mono ?_; rotate_left 2; rintro e w' ⟨rfl, rfl⟩; rotate_left 1; (first | exact hx | exact hy | exact hz | exact C_lit _ (by decide) (by decide)); (first | exact hx | exact hy | exact hz | exact C_lit _ (by decide) (by decide))) | (go_at_call 13; refine (one_any _ _ ?_ _).mono ?_; rotate_left 1; rintro e w' ⟨rfl, rfl⟩; rotate_left 1; (first | exact hx | exact hy | exact C_lit _ (by decide) (by decide))) | (go_at_call 14; refine (count_any _ _ _ (by decide) _).mono ?_; rintro e w' ⟨rfl, rfl⟩) | (go_at_call 9; refine (fixed_any _).mono ?_; rintro e w' ⟨rfl, rfl⟩))
  go_ret
  exact ⟨rfl, rfl⟩
set_option maxRecDepth 100000 in
set_option maxHeartbeats 2000000 in
theorem order_ltltff (x y z : Int) (hx : C x) (hy : C y) (hz : C z) (hs : sg x < sg y) (hu : x < y) (hs2 : ¬ sg y < sg z) (hu2 : ¬ y < z) (w : World) :
    Calls Try.prog 5 #[.int .u16 x, .int .u16 y, .int .u16 z] w fun e w' => e = .returned (.bool true) ∧ w' = w := by
  have hne : x ≠ y := by omega
  have hb : (x == y) = false := by rw [beq_eq_false_iff_ne]; exact hne
  have e42xy := o42f (x := x) (y := y) (hne)
  have e43xy := o43t (x := x) (y := y) (hne)
  have e44xy := o44t (x := x) (y := y) (by omega)
  have e45xy := o45f (x := x) (y := y) (by omega)
  have e45yx := o45t (x := y) (y := x) (by omega)
  have e46xy := o46t (x := x) (y := y) (by omega)
  have e47xy := o47f (x := x) (y := y) (by omega)
  have e47yx := o47t (x := y) (y := x) (by omega)
  have e30 := o30l (y := y) hx (by omega)
  have e31 := o31l (x := x) hy hs
  have e44yz := o44f (x := y) (y := z) (hs2)
  clear hs2
  have e46yz := o46f (x := y) (y := z) (hu2)
  clear hu2
  have eun := ounlike x y false (sgs hx hy false (iff_of_true (by omega) rfl))
  clear hne
  have e39a := o39a
  have e39b := o39b
  have e48 := o48 x
  have e49 := o49 x
  clear hs hu
  go_enter Try.func5, Try.ntmps5
  go_wp2_with (first | (go_at_call 12; refine (two_any _ _ _ ?_ ?_ _).mono ?_; rotate_left 2; rintro e w' ⟨rfl, rfl⟩; rotate_left 1; (first | exact hx | exact hy | exact hz | exact C_lit _ (by decide) (by decide)); (first | exact hx | exact hy | exact hz | exact C_lit _ (by decide) (by decide))) | (go_at_call 13; refine (one_any _ _ ?_ _).mono ?_; rotate_left 1; rintro e w' ⟨rfl, rfl⟩; rotate_left 1; (first | exact hx | exact hy | exact C_lit _ (by decide) (by decide))) | (go_at_call 14; refine (count_any _ _ _ (by decide) _).mono ?_; rintro e w' ⟨rfl, rfl⟩) | (go_at_call 9; refine (fixed_any _).mono ?_; rintro e w' ⟨rfl, rfl⟩))
  go_ret
  exact ⟨rfl, rfl⟩
set_option maxRecDepth 100000 in
set_option maxHeartbeats 2000000 in
theorem order_ltgtt (x y z : Int) (hx : C x) (hy : C y) (hz : C z) (hs : sg x < sg y) (hu : y < x) (hs2 : sg y < sg z) (w : World) :
    Calls Try.prog 5 #[.int .u16 x, .int .u16 y, .int .u16 z] w fun e w' => e = .returned (.bool true) ∧ w' = w := by
  have hne : x ≠ y := by omega
  have hb : (x == y) = false := by rw [beq_eq_false_iff_ne]; exact hne
  have e42xy := o42f (x := x) (y := y) (hne)
  have e43xy := o43t (x := x) (y := y) (hne)
  have e44xy := o44t (x := x) (y := y) (by omega)
  have e45xy := o45f (x := x) (y := y) (by omega)
  have e45yx := o45t (x := y) (y := x) (by omega)
  have e46xy := o46f (x := x) (y := y) (by omega)
  have e47xy := o47t (x := x) (y := y) (by omega)
  have e47yx := o47f (x := y) (y := x) (by omega)
  have e30 := o30l (y := y) hx (by omega)
  have e31 := o31l (x := x) hy hs
  have e44yz := o44t (x := y) (y := z) (hs2)
  have e44xz := o44t (x := x) (y := z) (by omega)
  clear hs2
  have eun := ounlike x y true (sgs hx hy true (iff_of_false (by omega) (by decide)))
  clear hne
  have e39a := o39a
  have e39b := o39b
  have e48 := o48 x
  have e49 := o49 x
  clear hs hu
  go_enter Try.func5, Try.ntmps5
  go_wp2_with (first | (go_at_call 12; refine (two_any _ _ _ ?_ ?_ _).mono ?_; rotate_left 2; rintro e w' ⟨rfl, rfl⟩; rotate_left 1; (first | exact hx | exact hy | exact hz | exact C_lit _ (by decide) (by decide)); (first | exact hx | exact hy | exact hz | exact C_lit _ (by decide) (by decide))) | (go_at_call 13; refine (one_any _ _ ?_ _).mono ?_; rotate_left 1; rintro e w' ⟨rfl, rfl⟩; rotate_left 1; (first | exact hx | exact hy | exact C_lit _ (by decide) (by decide))) | (go_at_call 14; refine (count_any _ _ _ (by decide) _).mono ?_; rintro e w' ⟨rfl, rfl⟩) | (go_at_call 9; refine (fixed_any _).mono ?_; rintro e w' ⟨rfl, rfl⟩))
  go_ret
  exact ⟨rfl, rfl⟩
set_option maxRecDepth 100000 in
set_option maxHeartbeats 2000000 in
theorem order_ltgtf (x y z : Int) (hx : C x) (hy : C y) (hz : C z) (hs : sg x < sg y) (hu : y < x) (hs2 : ¬ sg y < sg z) (w : World) :
    Calls Try.prog 5 #[.int .u16 x, .int .u16 y, .int .u16 z] w fun e w' => e = .returned (.bool true) ∧ w' = w := by
  have hne : x ≠ y := by omega
  have hb : (x == y) = false := by rw [beq_eq_false_iff_ne]; exact hne
  have e42xy := o42f (x := x) (y := y) (hne)
  have e43xy := o43t (x := x) (y := y) (hne)
  have e44xy := o44t (x := x) (y := y) (by omega)
  have e45xy := o45f (x := x) (y := y) (by omega)
  have e45yx := o45t (x := y) (y := x) (by omega)
  have e46xy := o46f (x := x) (y := y) (by omega)
  have e47xy := o47t (x := x) (y := y) (by omega)
  have e47yx := o47f (x := y) (y := x) (by omega)
  have e30 := o30l (y := y) hx (by omega)
  have e31 := o31l (x := x) hy hs
  have e44yz := o44f (x := y) (y := z) (hs2)
  clear hs2
  have eun := ounlike x y true (sgs hx hy true (iff_of_false (by omega) (by decide)))
  clear hne
  have e39a := o39a
  have e39b := o39b
  have e48 := o48 x
  have e49 := o49 x
  clear hs hu
  go_enter Try.func5, Try.ntmps5
  go_wp2_with (first | (go_at_call 12; refine (two_any _ _ _ ?_ ?_ _).mono ?_; rotate_left 2; rintro e w' ⟨rfl, rfl⟩; rotate_left 1; (first | exact hx | exact hy | exact hz | exact C_lit _ (by decide) (by decide)); (first | exact hx | exact hy | exact hz | exact C_lit _ (by decide) (by decide))) | (go_at_call 13; refine (one_any _ _ ?_ _).mono ?_; rotate_left 1; rintro e w' ⟨rfl, rfl⟩; rotate_left 1; (first | exact hx | exact hy | exact C_lit _ (by decide) (by decide))) | (go_at_call 14; refine (count_any _ _ _ (by decide) _).mono ?_; rintro e w' ⟨rfl, rfl⟩) | (go_at_call 9; refine (fixed_any _).mono ?_; rintro e w' ⟨rfl, rfl⟩))
  go_ret
  exact ⟨rfl, rfl⟩
set_option maxRecDepth 100000 in
set_option maxHeartbeats 2000000 in
theorem order_gtltt (x y z : Int) (hx : C x) (hy : C y) (hz : C z) (hs : sg y < sg x) (hu : x < y) (hu2 : y < z) (w : World) :
    Calls Try.prog 5 #[.int .u16 x, .int .u16 y, .int .u16 z] w fun e w' => e = .returned (.bool true) ∧ w' = w := by
  have hne : x ≠ y := by omega
  have hb : (x == y) = false := by rw [beq_eq_false_iff_ne]; exact hne
  have e42xy := o42f (x := x) (y := y) (hne)
  have e43xy := o43t (x := x) (y := y) (hne)
  have e44xy := o44f (x := x) (y := y) (by omega)
  have e45xy := o45t (x := x) (y := y) (by omega)
  have e45yx := o45f (x := y) (y := x) (by omega)
  have e46xy := o46t (x := x) (y := y) (by omega)
  have e47xy := o47f (x := x) (y := y) (by omega)
  have e47yx := o47t (x := y) (y := x) (by omega)
  have e30 := o30g (x := x) hy hs
  have e31 := o31g (y := y) hx (by omega)
  have e46yz := o46t (x := y) (y := z) (hu2)
  have e46xz := o46t (x := x) (y := z) (by omega)
  clear hu2
  have eun := ounlike x y true (sgs hx hy true (iff_of_false (by omega) (by decide)))
  clear hne
  have e39a := o39a
  have e39b := o39b
  have e48 := o48 x
  have e49 := o49 x
  clear hs hu
  go_enter Try.func5, Try.ntmps5
  go_wp2_with (first | (go_at_call 12; refine (two_any _ _ _ ?_ ?_ _).mono ?_; rotate_left 2; rintro e w' ⟨rfl, rfl⟩; rotate_left 1; (first | exact hx | exact hy | exact hz | exact C_lit _ (by decide) (by decide)); (first | exact hx | exact hy | exact hz | exact C_lit _ (by decide) (by decide))) | (go_at_call 13; refine (one_any _ _ ?_ _).mono ?_; rotate_left 1; rintro e w' ⟨rfl, rfl⟩; rotate_left 1; (first | exact hx | exact hy | exact C_lit _ (by decide) (by decide))) | (go_at_call 14; refine (count_any _ _ _ (by decide) _).mono ?_; rintro e w' ⟨rfl, rfl⟩) | (go_at_call 9; refine (fixed_any _).mono ?_; rintro e w' ⟨rfl, rfl⟩))
  go_ret
  exact ⟨rfl, rfl⟩
set_option maxRecDepth 100000 in
set_option maxHeartbeats 2000000 in
theorem order_gtltf (x y z : Int) (hx : C x) (hy : C y) (hz : C z) (hs : sg y < sg x) (hu : x < y) (hu2 : ¬ y < z) (w : World) :
    Calls Try.prog 5 #[.int .u16 x, .int .u16 y, .int .u16 z] w fun e w' => e = .returned (.bool true) ∧ w' = w := by
  have hne : x ≠ y := by omega
  have hb : (x == y) = false := by rw [beq_eq_false_iff_ne]; exact hne
  have e42xy := o42f (x := x) (y := y) (hne)
  have e43xy := o43t (x := x) (y := y) (hne)
  have e44xy := o44f (x := x) (y := y) (by omega)
  have e45xy := o45t (x := x) (y := y) (by omega)
  have e45yx := o45f (x := y) (y := x) (by omega)
  have e46xy := o46t (x := x) (y := y) (by omega)
  have e47xy := o47f (x := x) (y := y) (by omega)
  have e47yx := o47t (x := y) (y := x) (by omega)
  have e30 := o30g (x := x) hy hs
  have e31 := o31g (y := y) hx (by omega)
  have e46yz := o46f (x := y) (y := z) (hu2)
  clear hu2
  have eun := ounlike x y true (sgs hx hy true (iff_of_false (by omega) (by decide)))
  clear hne
  have e39a := o39a
  have e39b := o39b
  have e48 := o48 x
  have e49 := o49 x
  clear hs hu
  go_enter Try.func5, Try.ntmps5
  go_wp2_with (first | (go_at_call 12; refine (two_any _ _ _ ?_ ?_ _).mono ?_; rotate_left 2; rintro e w' ⟨rfl, rfl⟩; rotate_left 1; (first | exact hx | exact hy | exact hz | exact C_lit _ (by decide) (by decide)); (first | exact hx | exact hy | exact hz | exact C_lit _ (by decide) (by decide))) | (go_at_call 13; refine (one_any _ _ ?_ _).mono ?_; rotate_left 1; rintro e w' ⟨rfl, rfl⟩; rotate_left 1; (first | exact hx | exact hy | exact C_lit _ (by decide) (by decide))) | (go_at_call 14; refine (count_any _ _ _ (by decide) _).mono ?_; rintro e w' ⟨rfl, rfl⟩) | (go_at_call 9; refine (fixed_any _).mono ?_; rintro e w' ⟨rfl, rfl⟩))
  go_ret
  exact ⟨rfl, rfl⟩
set_option maxRecDepth 100000 in
set_option maxHeartbeats 2000000 in
theorem order_gtgt (x y z : Int) (hx : C x) (hy : C y) (hs : sg y < sg x) (hu : y < x) (w : World) :
    Calls Try.prog 5 #[.int .u16 x, .int .u16 y, .int .u16 z] w fun e w' => e = .returned (.bool true) ∧ w' = w := by
  have hne : x ≠ y := by omega
  have hb : (x == y) = false := by rw [beq_eq_false_iff_ne]; exact hne
  have e42xy := o42f (x := x) (y := y) (hne)
  have e43xy := o43t (x := x) (y := y) (hne)
  have e44xy := o44f (x := x) (y := y) (by omega)
  have e45xy := o45t (x := x) (y := y) (by omega)
  have e45yx := o45f (x := y) (y := x) (by omega)
  have e46xy := o46f (x := x) (y := y) (by omega)
  have e47xy := o47t (x := x) (y := y) (by omega)
  have e47yx := o47f (x := y) (y := x) (by omega)
  have e30 := o30g (x := x) hy hs
  have e31 := o31g (y := y) hx (by omega)
  have eun := ounlike x y false (sgs hx hy false (iff_of_true (by omega) rfl))
  clear hne
  have e39a := o39a
  have e39b := o39b
  have e48 := o48 x
  have e49 := o49 x
  clear hs hu
  go_enter Try.func5, Try.ntmps5
  go_wp2_with (first | (go_at_call 12; refine (two_any _ _ _ ?_ ?_ _).mono ?_; rotate_left 2; rintro e w' ⟨rfl, rfl⟩; rotate_left 1; (first | exact hx | exact hy | exact C_lit _ (by decide) (by decide)); (first | exact hx | exact hy | exact C_lit _ (by decide) (by decide))) | (go_at_call 13; refine (one_any _ _ ?_ _).mono ?_; rotate_left 1; rintro e w' ⟨rfl, rfl⟩; rotate_left 1; (first | exact hx | exact hy | exact C_lit _ (by decide) (by decide))) | (go_at_call 14; refine (count_any _ _ _ (by decide) _).mono ?_; rintro e w' ⟨rfl, rfl⟩) | (go_at_call 9; refine (fixed_any _).mono ?_; rintro e w' ⟨rfl, rfl⟩))
  go_ret
  exact ⟨rfl, rfl⟩
set_option maxRecDepth 100000 in
set_option maxHeartbeats 2000000 in
theorem order_eq (x z : Int) (hx : C x) (w : World) :
    Calls Try.prog 5 #[.int .u16 x, .int .u16 x, .int .u16 z] w fun e w' => e = .returned (.bool true) ∧ w' = w := by
  have hy := hx
  have e42 := o42t (x := x) (y := x) rfl
  have e43 := o43f (x := x) (y := x) rfl
  have e44 := o44f (x := x) (y := x) (by omega)
  have e45 := o45f (x := x) (y := x) (by omega)
  have e46 := o46f (x := x) (y := x) (by omega)
  have e47 := o47f (x := x) (y := x) (by omega)
  have e30 := o30l (x := x) (y := x) hx (by omega)
  have e31 := o31g (x := x) (y := x) hx (by omega)
  have e39a := o39a
  have e39b := o39b
  have e48 := o48 x
  have e49 := o49 x
  go_enter Try.func5, Try.ntmps5
  go_wp2_with (first | (go_at_call 12; refine (two_any _ _ _ ?_ ?_ _).mono ?_; rotate_left 2; rintro e w' ⟨rfl, rfl⟩; rotate_left 1; (first | exact hx | exact hy | exact C_lit _ (by decide) (by decide)); (first | exact hx | exact hy | exact C_lit _ (by decide) (by decide))) | (go_at_call 13; refine (one_any _ _ ?_ _).mono ?_; rotate_left 1; rintro e w' ⟨rfl, rfl⟩; rotate_left 1; (first | exact hx | exact hy | exact C_lit _ (by decide) (by decide))) | (go_at_call 14; refine (count_any _ _ _ (by decide) _).mono ?_; rintro e w' ⟨rfl, rfl⟩) | (go_at_call 9; refine (fixed_any _).mono ?_; rintro e w' ⟨rfl, rfl⟩))
  go_ret
  exact ⟨rfl, rfl⟩
theorem order_any (x y z : Int) (hx : C x) (hy : C y) (hz : C z) (w : World) :
    Calls Try.prog 5 #[.int .u16 x, .int .u16 y, .int .u16 z] w fun e w' => e = .returned (.bool true) ∧ w' = w := by
  by_cases h : x = y
  · subst h; exact order_eq x z hx w
  · have hsne : sg x ≠ sg y := fun e => h ((sg_inj hx hy).1 e)
    by_cases hs : sg x < sg y
    · by_cases hs2 : sg y < sg z
      · by_cases hu : x < y
        · by_cases hu2 : y < z
          · exact order_ltlttt x y z hx hy hz hs hu hs2 hu2 w
          · exact order_ltlttf x y z hx hy hz hs hu hs2 hu2 w
        · exact order_ltgtt x y z hx hy hz hs (by omega) hs2 w
      · by_cases hu : x < y
        · by_cases hu2 : y < z
          · exact order_ltltft x y z hx hy hz hs hu hs2 hu2 w
          · exact order_ltltff x y z hx hy hz hs hu hs2 hu2 w
        · exact order_ltgtf x y z hx hy hz hs (by omega) hs2 w
    · by_cases hu : x < y
      · by_cases hu2 : y < z
        · exact order_gtltt x y z hx hy hz (by omega) hu hu2 w
        · exact order_gtltf x y z hx hy hz (by omega) hu hu2 w
      · exact order_gtgt x y z hx hy (by omega) (by omega) w
end Go.Proofs.Ytmcfbcebjfeemaa
