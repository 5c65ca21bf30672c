import Derived.Test.YtmcfbcebjfeemaaNames
import Derived.Test.YtmcfbcebjfeemaaBack
namespace Go.Proofs.Ytmcfbcebjfeemaa
open Go.RowKit

theorem k0 (n : Int) : (cl n != cl (wrap64 (n - 65536))) = false := by
  apply bne_false; unfold cl wrap64; omega
theorem k00 (x : Int) (hx : C x) : (cl (sg x) != x) = false := bne_false (cl_sg hx)

set_option maxRecDepth 100000 in
set_option maxHeartbeats 1000000 in
theorem back_zero (x n : Int) (hx : C x) (w : World) :
    Calls Try.prog 4 #[.int .u16 x, .int .u16 0, .int .i64 n] w fun e w' => e = .returned (.bool true) ∧ w' = w := by
  have hy : C 0 := C_lit _ (by decide) (by decide)
  have hs := sg_range hx
  have e0 := k0 n
  have e00 := k00 x hx
  have e1 := k1 x 0 hx
  have e2 := k2 x 0
  have e3 := k3 x 0
  have e4 := k4 x hx
  have e5 := k5 x hx
  have e6 := k6 x hx
  have e7 := k7 x
  have e8 := k8 x
  have e9 := k9 x
  have e10 := k10 x
  have e11 := k11 x hx
  have e12 := k12 x 0 hx hy
  have e13 := k13 x 0 hx hy
  have e14 := k14 x
  go_enter Try.func4, Try.ntmps4
  go_wp2_with (first | (go_at_call 12; refine (two_any _ _ _ ?_ ?_ _).mono ?_; rotate_left 2; rintro e w' ⟨rfl, rfl⟩; rotate_left 1; (first | exact hx | exact hy | exact C_bi _ _ _ | exact C_un _ _ | exact C_lit _ (by decide) (by decide)); (first | exact hx | exact hy | exact C_bi _ _ _ | exact C_un _ _ | exact C_lit _ (by decide) (by decide))) | (go_at_call 13; refine (one_any _ _ ?_ _).mono ?_; rotate_left 1; rintro e w' ⟨rfl, rfl⟩; rotate_left 1; (first | exact hx | exact hy | exact C_bi _ _ _ | exact C_un _ _)) | (go_at_call 9; refine (fixed_any _).mono ?_; rintro e w' ⟨rfl, rfl⟩) | (go_at_call 10; refine (signed_any _ hx _).mono ?_; rintro e w' ⟨rfl, rfl⟩) | (go_at_call 11; refine (cell_any _ _).mono ?_; rintro e w' ⟨rfl, rfl⟩))
  go_ret
  exact ⟨rfl, rfl⟩

set_option maxRecDepth 100000 in
set_option maxHeartbeats 2000000 in
theorem back_some (x y n : Int) (hx : C x) (hy : C y) (h0 : y ≠ 0) (w : World)
    (hr : (sg (bi 25 x y) = 0) ∨ (sg (bi 25 x y) < 0 ∧ sg x < 0) ∨ (0 < sg (bi 25 x y) ∧ 0 ≤ sg x)) (hyy : sg y < 0 ∨ 0 ≤ sg y) :
    Calls Try.prog 4 #[.int .u16 x, .int .u16 y, .int .i64 n] w fun e w' => e = .returned (.bool true) ∧ w' = w := by
  have hs := sg_range hx
  have e0 := k0 n
  have e00 := k00 x hx
  have e1 := k1 x y hx
  have e2 := k2 x y
  have e3 := k3 x y
  have e4 := k4 x hx
  have e5 := k5 x hx
  have e6 := k6 x hx
  have e7 := k7 x
  have e8 := k8 x
  have e9 := k9 x
  have e10 := k10 x
  have e11 := k11 x hx
  have e12 := k12 x y hx hy
  have e13 := k13 x y hx hy
  have b0 : (y == 0) = false := by simpa using h0
  have e15 := k15 x y hx h0
  have e16 := k16 x y hx h0
  have e17 := k17 x y hy h0
  obtain ⟨g1, g2, -, -⟩ := k19 x y hx hy h0
  have hrr := sg_range (C_bi 25 x y)
  have ht := sg_range hy
  clear h0
  rcases hyy with hyy | hyy
  · have q1 : sg (bi 25 x y) < -sg y := by omega
    have q2 : -sg (bi 25 x y) < -sg y := by omega
    clear g1 g2
    rcases hr with hr | ⟨hr, hr'⟩ | ⟨hr, hr'⟩
    · have hr0 : (sg (bi 25 x y) == 0) = true := by simpa using hr
      clear hr
      go_enter Try.func4, Try.ntmps4
      go_wp2_with (first | (go_at_call 12; refine (two_any _ _ _ ?_ ?_ _).mono ?_; rotate_left 2; rintro e w' ⟨rfl, rfl⟩; rotate_left 1; (first | exact hx | exact hy | exact C_bi _ _ _ | exact C_un _ _ | exact C_lit _ (by decide) (by decide)); (first | exact hx | exact hy | exact C_bi _ _ _ | exact C_un _ _ | exact C_lit _ (by decide) (by decide))) | (go_at_call 13; refine (one_any _ _ ?_ _).mono ?_; rotate_left 1; rintro e w' ⟨rfl, rfl⟩; rotate_left 1; (first | exact hx | exact hy | exact C_bi _ _ _ | exact C_un _ _)) | (go_at_call 9; refine (fixed_any _).mono ?_; rintro e w' ⟨rfl, rfl⟩) | (go_at_call 10; refine (signed_any _ ?_ _).mono ?_; rotate_left 1; rintro e w' ⟨rfl, rfl⟩; rotate_left 1; (first | exact hx | exact hy | exact C_bi _ _ _)) | (go_at_call 11; refine (cell_any _ _).mono ?_; rintro e w' ⟨rfl, rfl⟩))
      go_ret
      exact ⟨rfl, rfl⟩
    · have hr0 : (sg (bi 25 x y) == 0) = false := by rw [beq_eq_false_iff_ne]; omega
      go_enter Try.func4, Try.ntmps4
      go_wp2_with (first | (go_at_call 12; refine (two_any _ _ _ ?_ ?_ _).mono ?_; rotate_left 2; rintro e w' ⟨rfl, rfl⟩; rotate_left 1; (first | exact hx | exact hy | exact C_bi _ _ _ | exact C_un _ _ | exact C_lit _ (by decide) (by decide)); (first | exact hx | exact hy | exact C_bi _ _ _ | exact C_un _ _ | exact C_lit _ (by decide) (by decide))) | (go_at_call 13; refine (one_any _ _ ?_ _).mono ?_; rotate_left 1; rintro e w' ⟨rfl, rfl⟩; rotate_left 1; (first | exact hx | exact hy | exact C_bi _ _ _ | exact C_un _ _)) | (go_at_call 9; refine (fixed_any _).mono ?_; rintro e w' ⟨rfl, rfl⟩) | (go_at_call 10; refine (signed_any _ ?_ _).mono ?_; rotate_left 1; rintro e w' ⟨rfl, rfl⟩; rotate_left 1; (first | exact hx | exact hy | exact C_bi _ _ _)) | (go_at_call 11; refine (cell_any _ _).mono ?_; rintro e w' ⟨rfl, rfl⟩))
      go_ret
      exact ⟨rfl, rfl⟩
    · have hr0 : (sg (bi 25 x y) == 0) = false := by rw [beq_eq_false_iff_ne]; omega
      go_enter Try.func4, Try.ntmps4
      go_wp2_with (first | (go_at_call 12; refine (two_any _ _ _ ?_ ?_ _).mono ?_; rotate_left 2; rintro e w' ⟨rfl, rfl⟩; rotate_left 1; (first | exact hx | exact hy | exact C_bi _ _ _ | exact C_un _ _ | exact C_lit _ (by decide) (by decide)); (first | exact hx | exact hy | exact C_bi _ _ _ | exact C_un _ _ | exact C_lit _ (by decide) (by decide))) | (go_at_call 13; refine (one_any _ _ ?_ _).mono ?_; rotate_left 1; rintro e w' ⟨rfl, rfl⟩; rotate_left 1; (first | exact hx | exact hy | exact C_bi _ _ _ | exact C_un _ _)) | (go_at_call 9; refine (fixed_any _).mono ?_; rintro e w' ⟨rfl, rfl⟩) | (go_at_call 10; refine (signed_any _ ?_ _).mono ?_; rotate_left 1; rintro e w' ⟨rfl, rfl⟩; rotate_left 1; (first | exact hx | exact hy | exact C_bi _ _ _)) | (go_at_call 11; refine (cell_any _ _).mono ?_; rintro e w' ⟨rfl, rfl⟩))
      go_ret
      exact ⟨ret_bool (by rw [decide_eq_false (show ¬ sg (bi 25 x y) < 0 by omega), decide_eq_false (show ¬ sg x < 0 by omega)]; rfl), rfl⟩
  · have q1 : sg (bi 25 x y) < sg y := by omega
    have q2 : -sg (bi 25 x y) < sg y := by omega
    clear g1 g2
    rcases hr with hr | ⟨hr, hr'⟩ | ⟨hr, hr'⟩
    · have hr0 : (sg (bi 25 x y) == 0) = true := by simpa using hr
      clear hr
      go_enter Try.func4, Try.ntmps4
      go_wp2_with (first | (go_at_call 12; refine (two_any _ _ _ ?_ ?_ _).mono ?_; rotate_left 2; rintro e w' ⟨rfl, rfl⟩; rotate_left 1; (first | exact hx | exact hy | exact C_bi _ _ _ | exact C_un _ _ | exact C_lit _ (by decide) (by decide)); (first | exact hx | exact hy | exact C_bi _ _ _ | exact C_un _ _ | exact C_lit _ (by decide) (by decide))) | (go_at_call 13; refine (one_any _ _ ?_ _).mono ?_; rotate_left 1; rintro e w' ⟨rfl, rfl⟩; rotate_left 1; (first | exact hx | exact hy | exact C_bi _ _ _ | exact C_un _ _)) | (go_at_call 9; refine (fixed_any _).mono ?_; rintro e w' ⟨rfl, rfl⟩) | (go_at_call 10; refine (signed_any _ ?_ _).mono ?_; rotate_left 1; rintro e w' ⟨rfl, rfl⟩; rotate_left 1; (first | exact hx | exact hy | exact C_bi _ _ _)) | (go_at_call 11; refine (cell_any _ _).mono ?_; rintro e w' ⟨rfl, rfl⟩))
      go_ret
      exact ⟨rfl, rfl⟩
    · have hr0 : (sg (bi 25 x y) == 0) = false := by rw [beq_eq_false_iff_ne]; omega
      go_enter Try.func4, Try.ntmps4
      go_wp2_with (first | (go_at_call 12; refine (two_any _ _ _ ?_ ?_ _).mono ?_; rotate_left 2; rintro e w' ⟨rfl, rfl⟩; rotate_left 1; (first | exact hx | exact hy | exact C_bi _ _ _ | exact C_un _ _ | exact C_lit _ (by decide) (by decide)); (first | exact hx | exact hy | exact C_bi _ _ _ | exact C_un _ _ | exact C_lit _ (by decide) (by decide))) | (go_at_call 13; refine (one_any _ _ ?_ _).mono ?_; rotate_left 1; rintro e w' ⟨rfl, rfl⟩; rotate_left 1; (first | exact hx | exact hy | exact C_bi _ _ _ | exact C_un _ _)) | (go_at_call 9; refine (fixed_any _).mono ?_; rintro e w' ⟨rfl, rfl⟩) | (go_at_call 10; refine (signed_any _ ?_ _).mono ?_; rotate_left 1; rintro e w' ⟨rfl, rfl⟩; rotate_left 1; (first | exact hx | exact hy | exact C_bi _ _ _)) | (go_at_call 11; refine (cell_any _ _).mono ?_; rintro e w' ⟨rfl, rfl⟩))
      go_ret
      exact ⟨rfl, rfl⟩
    · have hr0 : (sg (bi 25 x y) == 0) = false := by rw [beq_eq_false_iff_ne]; omega
      go_enter Try.func4, Try.ntmps4
      go_wp2_with (first | (go_at_call 12; refine (two_any _ _ _ ?_ ?_ _).mono ?_; rotate_left 2; rintro e w' ⟨rfl, rfl⟩; rotate_left 1; (first | exact hx | exact hy | exact C_bi _ _ _ | exact C_un _ _ | exact C_lit _ (by decide) (by decide)); (first | exact hx | exact hy | exact C_bi _ _ _ | exact C_un _ _ | exact C_lit _ (by decide) (by decide))) | (go_at_call 13; refine (one_any _ _ ?_ _).mono ?_; rotate_left 1; rintro e w' ⟨rfl, rfl⟩; rotate_left 1; (first | exact hx | exact hy | exact C_bi _ _ _ | exact C_un _ _)) | (go_at_call 9; refine (fixed_any _).mono ?_; rintro e w' ⟨rfl, rfl⟩) | (go_at_call 10; refine (signed_any _ ?_ _).mono ?_; rotate_left 1; rintro e w' ⟨rfl, rfl⟩; rotate_left 1; (first | exact hx | exact hy | exact C_bi _ _ _)) | (go_at_call 11; refine (cell_any _ _).mono ?_; rintro e w' ⟨rfl, rfl⟩))
      go_ret
      exact ⟨ret_bool (by rw [decide_eq_false (show ¬ sg (bi 25 x y) < 0 by omega), decide_eq_false (show ¬ sg x < 0 by omega)]; rfl), rfl⟩
theorem back_any (x y n : Int) (hx : C x) (hy : C y) (w : World) :
    Calls Try.prog 4 #[.int .u16 x, .int .u16 y, .int .i64 n] w fun e w' => e = .returned (.bool true) ∧ w' = w := by
  by_cases h0 : y = 0
  · subst h0; exact back_zero x n hx w
  · obtain ⟨-, -, g3, g4⟩ := k19 x y hx hy h0
    exact back_some x y n hx hy h0 w (by omega) (by omega)
end Go.Proofs.Ytmcfbcebjfeemaa
