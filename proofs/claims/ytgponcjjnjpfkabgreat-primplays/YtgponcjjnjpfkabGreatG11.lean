import Derived.Test.YtgponcjjnjpfkabGreatG10
import Derived.Deep.DeepCutAuto
namespace Go.Proofs.YtgponcjjnjpfkabGreat.C
open Go.RowKit

set_option maxHeartbeats 400000 in
theorem rbin_21 (x y : Int) (hx : C x) (hy : C y) (w : World) :
    Calls Tryz.prog 60 #[.int .i64 21, .int .u16 x, .int .u16 y] w fun e w' => e = .returned (.tuple #[.int .u16 (bi 21 x y), .bool true]) ∧ w' = w := by
  have hs := sg_range hx
  have ht := sg_range hy
  have kx := hx
  have ky := hy
  unfold C at kx ky
  go_enter Tryz.func60, Tryz.ntmps60
  go_wp2_with (first | (go_at_call 93; refine (rsigned_any _ ?_ _).mono ?_; rotate_left 1; rintro e w' ⟨rfl, rfl⟩; rotate_left 1; (first | exact hx | exact hy)) | (go_at_call 94; refine (rcell_any _ _).mono ?_; rintro e w' ⟨rfl, rfl⟩) | (go_at_call 96; refine (rflag_any _ _).mono ?_; rintro e w' ⟨rfl, rfl⟩) | (go_at_call 95; refine (half_any _ (by omega) _).mono ?_; rintro e w' ⟨rfl, rfl⟩) | (go_at_call 140; refine (rquot_any _ _ (by omega) (by omega) (by assumption) _).mono ?_; rintro e w' ⟨rfl, rfl⟩) | (go_at_call 99; refine (power_any _ (by omega) (by omega) _).mono ?_; rintro e w' ⟨rfl, rfl⟩))
  go_ret2
  exact ⟨ret_ib (rb_21 x y) rfl, rfl⟩
set_option maxHeartbeats 400000 in
theorem rbin_22 (x y : Int) (hx : C x) (hy : C y) (w : World) :
    Calls Tryz.prog 60 #[.int .i64 22, .int .u16 x, .int .u16 y] w fun e w' => e = .returned (.tuple #[.int .u16 (bi 22 x y), .bool true]) ∧ w' = w := by
  have hs := sg_range hx
  have ht := sg_range hy
  have kx := hx
  have ky := hy
  unfold C at kx ky
  go_enter Tryz.func60, Tryz.ntmps60
  go_wp2_with (first | (go_at_call 93; refine (rsigned_any _ ?_ _).mono ?_; rotate_left 1; rintro e w' ⟨rfl, rfl⟩; rotate_left 1; (first | exact hx | exact hy)) | (go_at_call 94; refine (rcell_any _ _).mono ?_; rintro e w' ⟨rfl, rfl⟩) | (go_at_call 96; refine (rflag_any _ _).mono ?_; rintro e w' ⟨rfl, rfl⟩) | (go_at_call 95; refine (half_any _ (by omega) _).mono ?_; rintro e w' ⟨rfl, rfl⟩) | (go_at_call 140; refine (rquot_any _ _ (by omega) (by omega) (by assumption) _).mono ?_; rintro e w' ⟨rfl, rfl⟩) | (go_at_call 99; refine (power_any _ (by omega) (by omega) _).mono ?_; rintro e w' ⟨rfl, rfl⟩))
  go_ret2
  exact ⟨ret_ib (rb_22 x y) rfl, rfl⟩
set_option maxHeartbeats 400000 in
theorem rbin_23 (x y : Int) (hx : C x) (hy : C y) (w : World) :
    Calls Tryz.prog 60 #[.int .i64 23, .int .u16 x, .int .u16 y] w fun e w' => e = .returned (.tuple #[.int .u16 (bi 23 x y), .bool true]) ∧ w' = w := by
  have hs := sg_range hx
  have ht := sg_range hy
  have kx := hx
  have ky := hy
  unfold C at kx ky
  have hm := mul_range x y (by omega) (by omega)
  go_enter Tryz.func60, Tryz.ntmps60
  go_wp2_with (first | (go_at_call 93; refine (rsigned_any _ ?_ _).mono ?_; rotate_left 1; rintro e w' ⟨rfl, rfl⟩; rotate_left 1; (first | exact hx | exact hy)) | (go_at_call 94; refine (rcell_any _ _).mono ?_; rintro e w' ⟨rfl, rfl⟩) | (go_at_call 96; refine (rflag_any _ _).mono ?_; rintro e w' ⟨rfl, rfl⟩) | (go_at_call 95; refine (half_any _ (by omega) _).mono ?_; rintro e w' ⟨rfl, rfl⟩) | (go_at_call 140; refine (rquot_any _ _ (by omega) (by omega) (by assumption) _).mono ?_; rintro e w' ⟨rfl, rfl⟩) | (go_at_call 99; refine (power_any _ (by omega) (by omega) _).mono ?_; rintro e w' ⟨rfl, rfl⟩))
  go_ret2
  exact ⟨ret_ib (rb_23 x y) rfl, rfl⟩
set_option maxHeartbeats 400000 in
theorem rbin_24z (x : Int) (hx : C x) (w : World) :
    Calls Tryz.prog 60 #[.int .i64 24, .int .u16 x, .int .u16 0] w fun e w' => e = .returned (.tuple #[.int .u16 (bi 24 x 0), .bool true]) ∧ w' = w := by
  have hy : C 0 := C_lit _ (by decide) (by decide)
  go_enter Tryz.func60, Tryz.ntmps60
  go_wp2_with (first | (go_at_call 93; refine (rsigned_any _ ?_ _).mono ?_; rotate_left 1; rintro e w' ⟨rfl, rfl⟩; rotate_left 1; (first | exact hx | exact hy)) | (go_at_call 94; refine (rcell_any _ _).mono ?_; rintro e w' ⟨rfl, rfl⟩) | (go_at_call 96; refine (rflag_any _ _).mono ?_; rintro e w' ⟨rfl, rfl⟩) | (go_at_call 95; refine (half_any _ (by omega) _).mono ?_; rintro e w' ⟨rfl, rfl⟩) | (go_at_call 140; refine (rquot_any _ _ (by omega) (by omega) (by assumption) _).mono ?_; rintro e w' ⟨rfl, rfl⟩) | (go_at_call 99; refine (power_any _ (by omega) (by omega) _).mono ?_; rintro e w' ⟨rfl, rfl⟩))
  go_ret2
  exact ⟨ret_ib (rb_dz 24 x (by decide)) rfl, rfl⟩
set_option maxHeartbeats 400000 in
theorem rbin_24n (x y : Int) (hx : C x) (hy : C y) (h0 : y ≠ 0) (w : World) :
    Calls Tryz.prog 60 #[.int .i64 24, .int .u16 x, .int .u16 y] w fun e w' => e = .returned (.tuple #[.int .u16 (bi 24 x y), .bool true]) ∧ w' = w := by
  have H0 : Hid (y ≠ 0) := h0
  have b0 : (y == 0) = false := by simpa using h0
  clear h0
  go_enter Tryz.func60, Tryz.ntmps60
  go_wp2_with (first | (go_at_call 93; refine (rsigned_any _ ?_ _).mono ?_; rotate_left 1; rintro e w' ⟨rfl, rfl⟩; rotate_left 1; (first | exact hx | exact hy)) | (go_at_call 94; refine (rcell_any _ _).mono ?_; rintro e w' ⟨rfl, rfl⟩) | (go_at_call 96; refine (rflag_any _ _).mono ?_; rintro e w' ⟨rfl, rfl⟩) | (go_at_call 95; refine (half_any _ (by omega) _).mono ?_; rintro e w' ⟨rfl, rfl⟩) | (go_at_call 140; refine (rquot_any _ _ (by omega) (by omega) (by assumption) _).mono ?_; rintro e w' ⟨rfl, rfl⟩) | (go_at_call 99; refine (power_any _ (by omega) (by omega) _).mono ?_; rintro e w' ⟨rfl, rfl⟩) | (go_at_call 97; refine (div_24 _ _ hx hy H0.out _).mono ?_; rintro e w' ⟨rfl, rfl⟩))
  go_ret2
  exact ⟨ret_ib (rfl) rfl, rfl⟩
set_option maxHeartbeats 400000 in
theorem rbin_25z (x : Int) (hx : C x) (w : World) :
    Calls Tryz.prog 60 #[.int .i64 25, .int .u16 x, .int .u16 0] w fun e w' => e = .returned (.tuple #[.int .u16 (bi 25 x 0), .bool true]) ∧ w' = w := by
  have hy : C 0 := C_lit _ (by decide) (by decide)
  go_enter Tryz.func60, Tryz.ntmps60
  go_wp2_with (first | (go_at_call 93; refine (rsigned_any _ ?_ _).mono ?_; rotate_left 1; rintro e w' ⟨rfl, rfl⟩; rotate_left 1; (first | exact hx | exact hy)) | (go_at_call 94; refine (rcell_any _ _).mono ?_; rintro e w' ⟨rfl, rfl⟩) | (go_at_call 96; refine (rflag_any _ _).mono ?_; rintro e w' ⟨rfl, rfl⟩) | (go_at_call 95; refine (half_any _ (by omega) _).mono ?_; rintro e w' ⟨rfl, rfl⟩) | (go_at_call 140; refine (rquot_any _ _ (by omega) (by omega) (by assumption) _).mono ?_; rintro e w' ⟨rfl, rfl⟩) | (go_at_call 99; refine (power_any _ (by omega) (by omega) _).mono ?_; rintro e w' ⟨rfl, rfl⟩))
  go_ret2
  exact ⟨ret_ib (rb_dz 25 x (by decide)) rfl, rfl⟩
set_option maxHeartbeats 400000 in
theorem rbin_25n (x y : Int) (hx : C x) (hy : C y) (h0 : y ≠ 0) (w : World) :
    Calls Tryz.prog 60 #[.int .i64 25, .int .u16 x, .int .u16 y] w fun e w' => e = .returned (.tuple #[.int .u16 (bi 25 x y), .bool true]) ∧ w' = w := by
  have H0 : Hid (y ≠ 0) := h0
  have b0 : (y == 0) = false := by simpa using h0
  clear h0
  go_enter Tryz.func60, Tryz.ntmps60
  go_wp2_with (first | (go_at_call 93; refine (rsigned_any _ ?_ _).mono ?_; rotate_left 1; rintro e w' ⟨rfl, rfl⟩; rotate_left 1; (first | exact hx | exact hy)) | (go_at_call 94; refine (rcell_any _ _).mono ?_; rintro e w' ⟨rfl, rfl⟩) | (go_at_call 96; refine (rflag_any _ _).mono ?_; rintro e w' ⟨rfl, rfl⟩) | (go_at_call 95; refine (half_any _ (by omega) _).mono ?_; rintro e w' ⟨rfl, rfl⟩) | (go_at_call 140; refine (rquot_any _ _ (by omega) (by omega) (by assumption) _).mono ?_; rintro e w' ⟨rfl, rfl⟩) | (go_at_call 99; refine (power_any _ (by omega) (by omega) _).mono ?_; rintro e w' ⟨rfl, rfl⟩) | (go_at_call 97; refine (div_25 _ _ hx hy H0.out _).mono ?_; rintro e w' ⟨rfl, rfl⟩))
  go_ret2
  exact ⟨ret_ib (rfl) rfl, rfl⟩
set_option maxHeartbeats 400000 in
theorem rbin_26z (x : Int) (hx : C x) (w : World) :
    Calls Tryz.prog 60 #[.int .i64 26, .int .u16 x, .int .u16 0] w fun e w' => e = .returned (.tuple #[.int .u16 (bi 26 x 0), .bool true]) ∧ w' = w := by
  have hy : C 0 := C_lit _ (by decide) (by decide)
  go_enter Tryz.func60, Tryz.ntmps60
  go_wp2_with (first | (go_at_call 93; refine (rsigned_any _ ?_ _).mono ?_; rotate_left 1; rintro e w' ⟨rfl, rfl⟩; rotate_left 1; (first | exact hx | exact hy)) | (go_at_call 94; refine (rcell_any _ _).mono ?_; rintro e w' ⟨rfl, rfl⟩) | (go_at_call 96; refine (rflag_any _ _).mono ?_; rintro e w' ⟨rfl, rfl⟩) | (go_at_call 95; refine (half_any _ (by omega) _).mono ?_; rintro e w' ⟨rfl, rfl⟩) | (go_at_call 140; refine (rquot_any _ _ (by omega) (by omega) (by assumption) _).mono ?_; rintro e w' ⟨rfl, rfl⟩) | (go_at_call 99; refine (power_any _ (by omega) (by omega) _).mono ?_; rintro e w' ⟨rfl, rfl⟩))
  go_ret2
  exact ⟨ret_ib (rb_dz 26 x (by decide)) rfl, rfl⟩
set_option maxHeartbeats 400000 in
theorem rbin_26n (x y : Int) (hx : C x) (hy : C y) (h0 : y ≠ 0) (w : World) :
    Calls Tryz.prog 60 #[.int .i64 26, .int .u16 x, .int .u16 y] w fun e w' => e = .returned (.tuple #[.int .u16 (bi 26 x y), .bool true]) ∧ w' = w := by
  have H0 : Hid (y ≠ 0) := h0
  have b0 : (y == 0) = false := by simpa using h0
  clear h0
  go_enter Tryz.func60, Tryz.ntmps60
  go_wp2_with (first | (go_at_call 93; refine (rsigned_any _ ?_ _).mono ?_; rotate_left 1; rintro e w' ⟨rfl, rfl⟩; rotate_left 1; (first | exact hx | exact hy)) | (go_at_call 94; refine (rcell_any _ _).mono ?_; rintro e w' ⟨rfl, rfl⟩) | (go_at_call 96; refine (rflag_any _ _).mono ?_; rintro e w' ⟨rfl, rfl⟩) | (go_at_call 95; refine (half_any _ (by omega) _).mono ?_; rintro e w' ⟨rfl, rfl⟩) | (go_at_call 140; refine (rquot_any _ _ (by omega) (by omega) (by assumption) _).mono ?_; rintro e w' ⟨rfl, rfl⟩) | (go_at_call 99; refine (power_any _ (by omega) (by omega) _).mono ?_; rintro e w' ⟨rfl, rfl⟩) | (go_at_call 97; refine (div_26 _ _ hx hy H0.out _).mono ?_; rintro e w' ⟨rfl, rfl⟩))
  go_ret2
  exact ⟨ret_ib (rfl) rfl, rfl⟩
set_option maxHeartbeats 400000 in
theorem rbin_27z (x : Int) (hx : C x) (w : World) :
    Calls Tryz.prog 60 #[.int .i64 27, .int .u16 x, .int .u16 0] w fun e w' => e = .returned (.tuple #[.int .u16 (bi 27 x 0), .bool true]) ∧ w' = w := by
  have hy : C 0 := C_lit _ (by decide) (by decide)
  go_enter Tryz.func60, Tryz.ntmps60
  go_wp2_with (first | (go_at_call 93; refine (rsigned_any _ ?_ _).mono ?_; rotate_left 1; rintro e w' ⟨rfl, rfl⟩; rotate_left 1; (first | exact hx | exact hy)) | (go_at_call 94; refine (rcell_any _ _).mono ?_; rintro e w' ⟨rfl, rfl⟩) | (go_at_call 96; refine (rflag_any _ _).mono ?_; rintro e w' ⟨rfl, rfl⟩) | (go_at_call 95; refine (half_any _ (by omega) _).mono ?_; rintro e w' ⟨rfl, rfl⟩) | (go_at_call 140; refine (rquot_any _ _ (by omega) (by omega) (by assumption) _).mono ?_; rintro e w' ⟨rfl, rfl⟩) | (go_at_call 99; refine (power_any _ (by omega) (by omega) _).mono ?_; rintro e w' ⟨rfl, rfl⟩))
  go_ret2
  exact ⟨ret_ib (rb_dz 27 x (by decide)) rfl, rfl⟩
set_option maxHeartbeats 400000 in
theorem rbin_27n (x y : Int) (hx : C x) (hy : C y) (h0 : y ≠ 0) (w : World) :
    Calls Tryz.prog 60 #[.int .i64 27, .int .u16 x, .int .u16 y] w fun e w' => e = .returned (.tuple #[.int .u16 (bi 27 x y), .bool true]) ∧ w' = w := by
  have H0 : Hid (y ≠ 0) := h0
  have b0 : (y == 0) = false := by simpa using h0
  clear h0
  go_enter Tryz.func60, Tryz.ntmps60
  go_wp2_with (first | (go_at_call 93; refine (rsigned_any _ ?_ _).mono ?_; rotate_left 1; rintro e w' ⟨rfl, rfl⟩; rotate_left 1; (first | exact hx | exact hy)) | (go_at_call 94; refine (rcell_any _ _).mono ?_; rintro e w' ⟨rfl, rfl⟩) | (go_at_call 96; refine (rflag_any _ _).mono ?_; rintro e w' ⟨rfl, rfl⟩) | (go_at_call 95; refine (half_any _ (by omega) _).mono ?_; rintro e w' ⟨rfl, rfl⟩) | (go_at_call 140; refine (rquot_any _ _ (by omega) (by omega) (by assumption) _).mono ?_; rintro e w' ⟨rfl, rfl⟩) | (go_at_call 99; refine (power_any _ (by omega) (by omega) _).mono ?_; rintro e w' ⟨rfl, rfl⟩) | (go_at_call 97; refine (div_27 _ _ hx hy H0.out _).mono ?_; rintro e w' ⟨rfl, rfl⟩))
  go_ret2
  exact ⟨ret_ib (rfl) rfl, rfl⟩
set_option maxHeartbeats 400000 in
theorem rbin_30l (x y : Int) (hx : C x) (hy : C y) (h : sg x ≤ sg y) (w : World) :
    Calls Tryz.prog 60 #[.int .i64 30, .int .u16 x, .int .u16 y] w fun e w' => e = .returned (.tuple #[.int .u16 (bi 30 x y), .bool true]) ∧ w' = w := by
  have hs := sg_range hx
  have ht := sg_range hy
  go_enter Tryz.func60, Tryz.ntmps60
  go_wp2_with (first | (go_at_call 93; refine (rsigned_any _ ?_ _).mono ?_; rotate_left 1; rintro e w' ⟨rfl, rfl⟩; rotate_left 1; (first | exact hx | exact hy)) | (go_at_call 94; refine (rcell_any _ _).mono ?_; rintro e w' ⟨rfl, rfl⟩) | (go_at_call 96; refine (rflag_any _ _).mono ?_; rintro e w' ⟨rfl, rfl⟩) | (go_at_call 95; refine (half_any _ (by omega) _).mono ?_; rintro e w' ⟨rfl, rfl⟩) | (go_at_call 140; refine (rquot_any _ _ (by omega) (by omega) (by assumption) _).mono ?_; rintro e w' ⟨rfl, rfl⟩) | (go_at_call 99; refine (power_any _ (by omega) (by omega) _).mono ?_; rintro e w' ⟨rfl, rfl⟩))
  go_ret2
  exact ⟨ret_ib (bi_30l x y h) rfl, rfl⟩
set_option maxHeartbeats 400000 in
theorem rbin_30g (x y : Int) (hx : C x) (hy : C y) (h : sg y < sg x) (w : World) :
    Calls Tryz.prog 60 #[.int .i64 30, .int .u16 x, .int .u16 y] w fun e w' => e = .returned (.tuple #[.int .u16 (bi 30 x y), .bool true]) ∧ w' = w := by
  have hs := sg_range hx
  have ht := sg_range hy
  go_enter Tryz.func60, Tryz.ntmps60
  go_wp2_with (first | (go_at_call 93; refine (rsigned_any _ ?_ _).mono ?_; rotate_left 1; rintro e w' ⟨rfl, rfl⟩; rotate_left 1; (first | exact hx | exact hy)) | (go_at_call 94; refine (rcell_any _ _).mono ?_; rintro e w' ⟨rfl, rfl⟩) | (go_at_call 96; refine (rflag_any _ _).mono ?_; rintro e w' ⟨rfl, rfl⟩) | (go_at_call 95; refine (half_any _ (by omega) _).mono ?_; rintro e w' ⟨rfl, rfl⟩) | (go_at_call 140; refine (rquot_any _ _ (by omega) (by omega) (by assumption) _).mono ?_; rintro e w' ⟨rfl, rfl⟩) | (go_at_call 99; refine (power_any _ (by omega) (by omega) _).mono ?_; rintro e w' ⟨rfl, rfl⟩))
  go_ret2
  exact ⟨ret_ib (bi_30g x y h) rfl, rfl⟩
set_option maxHeartbeats 400000 in
theorem rbin_31l (x y : Int) (hx : C x) (hy : C y) (h : sg x < sg y) (w : World) :
    Calls Tryz.prog 60 #[.int .i64 31, .int .u16 x, .int .u16 y] w fun e w' => e = .returned (.tuple #[.int .u16 (bi 31 x y), .bool true]) ∧ w' = w := by
  have hs := sg_range hx
  have ht := sg_range hy
  go_enter Tryz.func60, Tryz.ntmps60
  go_wp2_with (first | (go_at_call 93; refine (rsigned_any _ ?_ _).mono ?_; rotate_left 1; rintro e w' ⟨rfl, rfl⟩; rotate_left 1; (first | exact hx | exact hy)) | (go_at_call 94; refine (rcell_any _ _).mono ?_; rintro e w' ⟨rfl, rfl⟩) | (go_at_call 96; refine (rflag_any _ _).mono ?_; rintro e w' ⟨rfl, rfl⟩) | (go_at_call 95; refine (half_any _ (by omega) _).mono ?_; rintro e w' ⟨rfl, rfl⟩) | (go_at_call 140; refine (rquot_any _ _ (by omega) (by omega) (by assumption) _).mono ?_; rintro e w' ⟨rfl, rfl⟩) | (go_at_call 99; refine (power_any _ (by omega) (by omega) _).mono ?_; rintro e w' ⟨rfl, rfl⟩))
  go_ret2
  exact ⟨ret_ib (bi_31l x y h) rfl, rfl⟩
set_option maxHeartbeats 400000 in
theorem rbin_31g (x y : Int) (hx : C x) (hy : C y) (h : sg y ≤ sg x) (w : World) :
    Calls Tryz.prog 60 #[.int .i64 31, .int .u16 x, .int .u16 y] w fun e w' => e = .returned (.tuple #[.int .u16 (bi 31 x y), .bool true]) ∧ w' = w := by
  have hs := sg_range hx
  have ht := sg_range hy
  go_enter Tryz.func60, Tryz.ntmps60
  go_wp2_with (first | (go_at_call 93; refine (rsigned_any _ ?_ _).mono ?_; rotate_left 1; rintro e w' ⟨rfl, rfl⟩; rotate_left 1; (first | exact hx | exact hy)) | (go_at_call 94; refine (rcell_any _ _).mono ?_; rintro e w' ⟨rfl, rfl⟩) | (go_at_call 96; refine (rflag_any _ _).mono ?_; rintro e w' ⟨rfl, rfl⟩) | (go_at_call 95; refine (half_any _ (by omega) _).mono ?_; rintro e w' ⟨rfl, rfl⟩) | (go_at_call 140; refine (rquot_any _ _ (by omega) (by omega) (by assumption) _).mono ?_; rintro e w' ⟨rfl, rfl⟩) | (go_at_call 99; refine (power_any _ (by omega) (by omega) _).mono ?_; rintro e w' ⟨rfl, rfl⟩))
  go_ret2
  exact ⟨ret_ib (bi_31g x y h) rfl, rfl⟩
set_option maxHeartbeats 400000 in
theorem rbin_36 (x y : Int) (hx : C x) (hy : C y) (w : World) :
    Calls Tryz.prog 60 #[.int .i64 36, .int .u16 x, .int .u16 y] w fun e w' => e = .returned (.tuple #[.int .u16 (bi 36 x y), .bool true]) ∧ w' = w := by
  go_enter Tryz.func60, Tryz.ntmps60
  go_wp2_with (first | (go_at_call 93; refine (rsigned_any _ ?_ _).mono ?_; rotate_left 1; rintro e w' ⟨rfl, rfl⟩; rotate_left 1; (first | exact hx | exact hy)) | (go_at_call 94; refine (rcell_any _ _).mono ?_; rintro e w' ⟨rfl, rfl⟩) | (go_at_call 96; refine (rflag_any _ _).mono ?_; rintro e w' ⟨rfl, rfl⟩) | (go_at_call 95; refine (half_any _ (by omega) _).mono ?_; rintro e w' ⟨rfl, rfl⟩) | (go_at_call 140; refine (rquot_any _ _ (by omega) (by omega) (by assumption) _).mono ?_; rintro e w' ⟨rfl, rfl⟩) | (go_at_call 99; refine (power_any _ (by omega) (by omega) _).mono ?_; rintro e w' ⟨rfl, rfl⟩) | (go_at_call 98; refine (bits_36 _ _ hx hy _).mono ?_; rintro e w' ⟨rfl, rfl⟩))
  go_ret2
  exact ⟨ret_ib (rfl) rfl, rfl⟩
set_option maxHeartbeats 400000 in
theorem rbin_37 (x y : Int) (hx : C x) (hy : C y) (w : World) :
    Calls Tryz.prog 60 #[.int .i64 37, .int .u16 x, .int .u16 y] w fun e w' => e = .returned (.tuple #[.int .u16 (bi 37 x y), .bool true]) ∧ w' = w := by
  go_enter Tryz.func60, Tryz.ntmps60
  go_wp2_with (first | (go_at_call 93; refine (rsigned_any _ ?_ _).mono ?_; rotate_left 1; rintro e w' ⟨rfl, rfl⟩; rotate_left 1; (first | exact hx | exact hy)) | (go_at_call 94; refine (rcell_any _ _).mono ?_; rintro e w' ⟨rfl, rfl⟩) | (go_at_call 96; refine (rflag_any _ _).mono ?_; rintro e w' ⟨rfl, rfl⟩) | (go_at_call 95; refine (half_any _ (by omega) _).mono ?_; rintro e w' ⟨rfl, rfl⟩) | (go_at_call 140; refine (rquot_any _ _ (by omega) (by omega) (by assumption) _).mono ?_; rintro e w' ⟨rfl, rfl⟩) | (go_at_call 99; refine (power_any _ (by omega) (by omega) _).mono ?_; rintro e w' ⟨rfl, rfl⟩) | (go_at_call 98; refine (bits_37 _ _ hx hy _).mono ?_; rintro e w' ⟨rfl, rfl⟩))
  go_ret2
  exact ⟨ret_ib (rfl) rfl, rfl⟩
set_option maxHeartbeats 400000 in
theorem rbin_38 (x y : Int) (hx : C x) (hy : C y) (w : World) :
    Calls Tryz.prog 60 #[.int .i64 38, .int .u16 x, .int .u16 y] w fun e w' => e = .returned (.tuple #[.int .u16 (bi 38 x y), .bool true]) ∧ w' = w := by
  go_enter Tryz.func60, Tryz.ntmps60
  go_wp2_with (first | (go_at_call 93; refine (rsigned_any _ ?_ _).mono ?_; rotate_left 1; rintro e w' ⟨rfl, rfl⟩; rotate_left 1; (first | exact hx | exact hy)) | (go_at_call 94; refine (rcell_any _ _).mono ?_; rintro e w' ⟨rfl, rfl⟩) | (go_at_call 96; refine (rflag_any _ _).mono ?_; rintro e w' ⟨rfl, rfl⟩) | (go_at_call 95; refine (half_any _ (by omega) _).mono ?_; rintro e w' ⟨rfl, rfl⟩) | (go_at_call 140; refine (rquot_any _ _ (by omega) (by omega) (by assumption) _).mono ?_; rintro e w' ⟨rfl, rfl⟩) | (go_at_call 99; refine (power_any _ (by omega) (by omega) _).mono ?_; rintro e w' ⟨rfl, rfl⟩) | (go_at_call 98; refine (bits_38 _ _ hx hy _).mono ?_; rintro e w' ⟨rfl, rfl⟩))
  go_ret2
  exact ⟨ret_ib (rfl) rfl, rfl⟩
set_option maxHeartbeats 400000 in
theorem rbin_40g (x y : Int) (hx : C x) (hy : C y) (h : 15 < y) (w : World) :
    Calls Tryz.prog 60 #[.int .i64 40, .int .u16 x, .int .u16 y] w fun e w' => e = .returned (.tuple #[.int .u16 (bi 40 x y), .bool true]) ∧ w' = w := by
  have kx := hx
  have ky := hy
  unfold C at kx ky
  go_enter Tryz.func60, Tryz.ntmps60
  go_wp2_with (first | (go_at_call 93; refine (rsigned_any _ ?_ _).mono ?_; rotate_left 1; rintro e w' ⟨rfl, rfl⟩; rotate_left 1; (first | exact hx | exact hy)) | (go_at_call 94; refine (rcell_any _ _).mono ?_; rintro e w' ⟨rfl, rfl⟩) | (go_at_call 96; refine (rflag_any _ _).mono ?_; rintro e w' ⟨rfl, rfl⟩) | (go_at_call 95; refine (half_any _ (by omega) _).mono ?_; rintro e w' ⟨rfl, rfl⟩) | (go_at_call 140; refine (rquot_any _ _ (by omega) (by omega) (by assumption) _).mono ?_; rintro e w' ⟨rfl, rfl⟩) | (go_at_call 99; refine (power_any _ (by omega) (by omega) _).mono ?_; rintro e w' ⟨rfl, rfl⟩))
  go_ret2
  exact ⟨ret_ib (bi_40g x y h) rfl, rfl⟩
set_option maxHeartbeats 400000 in
theorem rbin_40l (x y : Int) (hx : C x) (hy : C y) (h : y ≤ 15) (w : World) :
    Calls Tryz.prog 60 #[.int .i64 40, .int .u16 x, .int .u16 y] w fun e w' => e = .returned (.tuple #[.int .u16 (bi 40 x y), .bool true]) ∧ w' = w := by
  have kx := hx
  have ky := hy
  unfold C at kx ky
  have hl := rshl_range x y hx (by unfold C at hy; omega) h
  obtain ⟨l1, l2, l3, l4⟩ := hl
  go_enter Tryz.func60, Tryz.ntmps60
  go_wp2_with (first | (go_at_call 93; refine (rsigned_any _ ?_ _).mono ?_; rotate_left 1; rintro e w' ⟨rfl, rfl⟩; rotate_left 1; (first | exact hx | exact hy)) | (go_at_call 94; refine (rcell_any _ _).mono ?_; rintro e w' ⟨rfl, rfl⟩) | (go_at_call 96; refine (rflag_any _ _).mono ?_; rintro e w' ⟨rfl, rfl⟩) | (go_at_call 95; refine (half_any _ (by omega) _).mono ?_; rintro e w' ⟨rfl, rfl⟩) | (go_at_call 140; refine (rquot_any _ _ (by omega) (by omega) (by assumption) _).mono ?_; rintro e w' ⟨rfl, rfl⟩) | (go_at_call 99; refine (power_any _ (by omega) (by omega) _).mono ?_; rintro e w' ⟨rfl, rfl⟩))
  go_ret2
  exact ⟨ret_ib (bi_40l x y (by omega)) rfl, rfl⟩
set_option maxHeartbeats 400000 in
theorem rbin_41g (x y : Int) (hx : C x) (hy : C y) (h : 15 < y) (w : World) :
    Calls Tryz.prog 60 #[.int .i64 41, .int .u16 x, .int .u16 y] w fun e w' => e = .returned (.tuple #[.int .u16 (bi 41 x y), .bool true]) ∧ w' = w := by
  have kx := hx
  have ky := hy
  unfold C at kx ky
  go_enter Tryz.func60, Tryz.ntmps60
  go_wp2_with (first | (go_at_call 93; refine (rsigned_any _ ?_ _).mono ?_; rotate_left 1; rintro e w' ⟨rfl, rfl⟩; rotate_left 1; (first | exact hx | exact hy)) | (go_at_call 94; refine (rcell_any _ _).mono ?_; rintro e w' ⟨rfl, rfl⟩) | (go_at_call 96; refine (rflag_any _ _).mono ?_; rintro e w' ⟨rfl, rfl⟩) | (go_at_call 95; refine (half_any _ (by omega) _).mono ?_; rintro e w' ⟨rfl, rfl⟩) | (go_at_call 140; refine (rquot_any _ _ (by omega) (by omega) (by assumption) _).mono ?_; rintro e w' ⟨rfl, rfl⟩) | (go_at_call 99; refine (power_any _ (by omega) (by omega) _).mono ?_; rintro e w' ⟨rfl, rfl⟩))
  go_ret2
  exact ⟨ret_ib (bi_41g x y h) rfl, rfl⟩
set_option maxHeartbeats 400000 in
theorem rbin_41l (x y : Int) (hx : C x) (hy : C y) (h : y ≤ 15) (w : World) :
    Calls Tryz.prog 60 #[.int .i64 41, .int .u16 x, .int .u16 y] w fun e w' => e = .returned (.tuple #[.int .u16 (bi 41 x y), .bool true]) ∧ w' = w := by
  have kx := hx
  have ky := hy
  unfold C at kx ky
  have hl := rshl_range x y hx (by unfold C at hy; omega) h
  obtain ⟨l1, l2, l3, l4⟩ := hl
  go_enter Tryz.func60, Tryz.ntmps60
  go_wp2_with (first | (go_at_call 93; refine (rsigned_any _ ?_ _).mono ?_; rotate_left 1; rintro e w' ⟨rfl, rfl⟩; rotate_left 1; (first | exact hx | exact hy)) | (go_at_call 94; refine (rcell_any _ _).mono ?_; rintro e w' ⟨rfl, rfl⟩) | (go_at_call 96; refine (rflag_any _ _).mono ?_; rintro e w' ⟨rfl, rfl⟩) | (go_at_call 95; refine (half_any _ (by omega) _).mono ?_; rintro e w' ⟨rfl, rfl⟩) | (go_at_call 140; refine (rquot_any _ _ (by omega) (by omega) (by assumption) _).mono ?_; rintro e w' ⟨rfl, rfl⟩) | (go_at_call 99; refine (power_any _ (by omega) (by omega) _).mono ?_; rintro e w' ⟨rfl, rfl⟩))
  go_ret2
  exact ⟨ret_ib (rb_41 x y (by omega)) rfl, rfl⟩
set_option maxHeartbeats 400000 in
theorem rbin_42 (x y : Int) (hx : C x) (hy : C y) (w : World) :
    Calls Tryz.prog 60 #[.int .i64 42, .int .u16 x, .int .u16 y] w fun e w' => e = .returned (.tuple #[.int .u16 (bi 42 x y), .bool true]) ∧ w' = w := by
  have hs := sg_range hx
  have ht := sg_range hy
  go_enter Tryz.func60, Tryz.ntmps60
  go_wp2_with (first | (go_at_call 93; refine (rsigned_any _ ?_ _).mono ?_; rotate_left 1; rintro e w' ⟨rfl, rfl⟩; rotate_left 1; (first | exact hx | exact hy)) | (go_at_call 94; refine (rcell_any _ _).mono ?_; rintro e w' ⟨rfl, rfl⟩) | (go_at_call 96; refine (rflag_any _ _).mono ?_; rintro e w' ⟨rfl, rfl⟩) | (go_at_call 95; refine (half_any _ (by omega) _).mono ?_; rintro e w' ⟨rfl, rfl⟩) | (go_at_call 140; refine (rquot_any _ _ (by omega) (by omega) (by assumption) _).mono ?_; rintro e w' ⟨rfl, rfl⟩) | (go_at_call 99; refine (power_any _ (by omega) (by omega) _).mono ?_; rintro e w' ⟨rfl, rfl⟩))
  go_ret2
  exact ⟨ret_ib (bi_42 x y) rfl, rfl⟩
set_option maxHeartbeats 400000 in
theorem rbin_43 (x y : Int) (hx : C x) (hy : C y) (w : World) :
    Calls Tryz.prog 60 #[.int .i64 43, .int .u16 x, .int .u16 y] w fun e w' => e = .returned (.tuple #[.int .u16 (bi 43 x y), .bool true]) ∧ w' = w := by
  have hs := sg_range hx
  have ht := sg_range hy
  go_enter Tryz.func60, Tryz.ntmps60
  go_wp2_with (first | (go_at_call 93; refine (rsigned_any _ ?_ _).mono ?_; rotate_left 1; rintro e w' ⟨rfl, rfl⟩; rotate_left 1; (first | exact hx | exact hy)) | (go_at_call 94; refine (rcell_any _ _).mono ?_; rintro e w' ⟨rfl, rfl⟩) | (go_at_call 96; refine (rflag_any _ _).mono ?_; rintro e w' ⟨rfl, rfl⟩) | (go_at_call 95; refine (half_any _ (by omega) _).mono ?_; rintro e w' ⟨rfl, rfl⟩) | (go_at_call 140; refine (rquot_any _ _ (by omega) (by omega) (by assumption) _).mono ?_; rintro e w' ⟨rfl, rfl⟩) | (go_at_call 99; refine (power_any _ (by omega) (by omega) _).mono ?_; rintro e w' ⟨rfl, rfl⟩))
  go_ret2
  exact ⟨ret_ib (bi_43 x y) rfl, rfl⟩
set_option maxHeartbeats 400000 in
theorem rbin_44 (x y : Int) (hx : C x) (hy : C y) (w : World) :
    Calls Tryz.prog 60 #[.int .i64 44, .int .u16 x, .int .u16 y] w fun e w' => e = .returned (.tuple #[.int .u16 (bi 44 x y), .bool true]) ∧ w' = w := by
  have hs := sg_range hx
  have ht := sg_range hy
  go_enter Tryz.func60, Tryz.ntmps60
  go_wp2_with (first | (go_at_call 93; refine (rsigned_any _ ?_ _).mono ?_; rotate_left 1; rintro e w' ⟨rfl, rfl⟩; rotate_left 1; (first | exact hx | exact hy)) | (go_at_call 94; refine (rcell_any _ _).mono ?_; rintro e w' ⟨rfl, rfl⟩) | (go_at_call 96; refine (rflag_any _ _).mono ?_; rintro e w' ⟨rfl, rfl⟩) | (go_at_call 95; refine (half_any _ (by omega) _).mono ?_; rintro e w' ⟨rfl, rfl⟩) | (go_at_call 140; refine (rquot_any _ _ (by omega) (by omega) (by assumption) _).mono ?_; rintro e w' ⟨rfl, rfl⟩) | (go_at_call 99; refine (power_any _ (by omega) (by omega) _).mono ?_; rintro e w' ⟨rfl, rfl⟩))
  go_ret2
  exact ⟨ret_ib (bi_44 x y) rfl, rfl⟩
set_option maxHeartbeats 400000 in
theorem rbin_45 (x y : Int) (hx : C x) (hy : C y) (w : World) :
    Calls Tryz.prog 60 #[.int .i64 45, .int .u16 x, .int .u16 y] w fun e w' => e = .returned (.tuple #[.int .u16 (bi 45 x y), .bool true]) ∧ w' = w := by
  have hs := sg_range hx
  have ht := sg_range hy
  go_enter Tryz.func60, Tryz.ntmps60
  go_wp2_with (first | (go_at_call 93; refine (rsigned_any _ ?_ _).mono ?_; rotate_left 1; rintro e w' ⟨rfl, rfl⟩; rotate_left 1; (first | exact hx | exact hy)) | (go_at_call 94; refine (rcell_any _ _).mono ?_; rintro e w' ⟨rfl, rfl⟩) | (go_at_call 96; refine (rflag_any _ _).mono ?_; rintro e w' ⟨rfl, rfl⟩) | (go_at_call 95; refine (half_any _ (by omega) _).mono ?_; rintro e w' ⟨rfl, rfl⟩) | (go_at_call 140; refine (rquot_any _ _ (by omega) (by omega) (by assumption) _).mono ?_; rintro e w' ⟨rfl, rfl⟩) | (go_at_call 99; refine (power_any _ (by omega) (by omega) _).mono ?_; rintro e w' ⟨rfl, rfl⟩))
  go_ret2
  exact ⟨ret_ib (bi_45 x y) rfl, rfl⟩
set_option maxHeartbeats 400000 in
theorem rbin_46 (x y : Int) (hx : C x) (hy : C y) (w : World) :
    Calls Tryz.prog 60 #[.int .i64 46, .int .u16 x, .int .u16 y] w fun e w' => e = .returned (.tuple #[.int .u16 (bi 46 x y), .bool true]) ∧ w' = w := by
  have hs := sg_range hx
  have ht := sg_range hy
  have kx := hx
  have ky := hy
  unfold C at kx ky
  go_enter Tryz.func60, Tryz.ntmps60
  go_wp2_with (first | (go_at_call 93; refine (rsigned_any _ ?_ _).mono ?_; rotate_left 1; rintro e w' ⟨rfl, rfl⟩; rotate_left 1; (first | exact hx | exact hy)) | (go_at_call 94; refine (rcell_any _ _).mono ?_; rintro e w' ⟨rfl, rfl⟩) | (go_at_call 96; refine (rflag_any _ _).mono ?_; rintro e w' ⟨rfl, rfl⟩) | (go_at_call 95; refine (half_any _ (by omega) _).mono ?_; rintro e w' ⟨rfl, rfl⟩) | (go_at_call 140; refine (rquot_any _ _ (by omega) (by omega) (by assumption) _).mono ?_; rintro e w' ⟨rfl, rfl⟩) | (go_at_call 99; refine (power_any _ (by omega) (by omega) _).mono ?_; rintro e w' ⟨rfl, rfl⟩))
  go_ret2
  exact ⟨ret_ib (bi_46 x y) rfl, rfl⟩
set_option maxHeartbeats 400000 in
theorem rbin_47 (x y : Int) (hx : C x) (hy : C y) (w : World) :
    Calls Tryz.prog 60 #[.int .i64 47, .int .u16 x, .int .u16 y] w fun e w' => e = .returned (.tuple #[.int .u16 (bi 47 x y), .bool true]) ∧ w' = w := by
  have hs := sg_range hx
  have ht := sg_range hy
  have kx := hx
  have ky := hy
  unfold C at kx ky
  go_enter Tryz.func60, Tryz.ntmps60
  go_wp2_with (first | (go_at_call 93; refine (rsigned_any _ ?_ _).mono ?_; rotate_left 1; rintro e w' ⟨rfl, rfl⟩; rotate_left 1; (first | exact hx | exact hy)) | (go_at_call 94; refine (rcell_any _ _).mono ?_; rintro e w' ⟨rfl, rfl⟩) | (go_at_call 96; refine (rflag_any _ _).mono ?_; rintro e w' ⟨rfl, rfl⟩) | (go_at_call 95; refine (half_any _ (by omega) _).mono ?_; rintro e w' ⟨rfl, rfl⟩) | (go_at_call 140; refine (rquot_any _ _ (by omega) (by omega) (by assumption) _).mono ?_; rintro e w' ⟨rfl, rfl⟩) | (go_at_call 99; refine (power_any _ (by omega) (by omega) _).mono ?_; rintro e w' ⟨rfl, rfl⟩))
  go_ret2
  exact ⟨ret_ib (bi_47 x y) rfl, rfl⟩
set_option maxHeartbeats 400000 in
theorem rbin_no (op x y : Int) (hx : C x) (hy : C y) (h : isBi op = false) (w : World) :
    Calls Tryz.prog 60 #[.int .i64 op, .int .u16 x, .int .u16 y] w fun e w' => e = .returned (.tuple #[.int .u16 (bi op x y), .bool (isBi op)]) ∧ w' = w := by
  have hz : Hid ((0 : Int) = bi op x y) := bi_no op x y h
  have hf : Hid (isBi op = false) := h
  have hh := h
  simp only [isBi, Bool.or_eq_false_iff] at hh
  obtain ⟨⟨⟨⟨⟨⟨⟨⟨⟨⟨⟨⟨⟨⟨⟨⟨⟨⟨⟨e0, e1⟩, e2⟩, e3⟩, e4⟩, e5⟩, e6⟩, e7⟩, e8⟩, e9⟩, e10⟩, e11⟩, e12⟩, e13⟩, e14⟩, e15⟩, e16⟩, e17⟩, e18⟩, e19⟩ := hh
  clear h
  go_enter Tryz.func60, Tryz.ntmps60
  go_wp2_with (first | (go_at_call 93; refine (rsigned_any _ ?_ _).mono ?_; rotate_left 1; rintro e w' ⟨rfl, rfl⟩; rotate_left 1; (first | exact hx | exact hy)) | (go_at_call 94; refine (rcell_any _ _).mono ?_; rintro e w' ⟨rfl, rfl⟩) | (go_at_call 96; refine (rflag_any _ _).mono ?_; rintro e w' ⟨rfl, rfl⟩) | (go_at_call 95; refine (half_any _ (by omega) _).mono ?_; rintro e w' ⟨rfl, rfl⟩) | (go_at_call 140; refine (rquot_any _ _ (by omega) (by omega) (by assumption) _).mono ?_; rintro e w' ⟨rfl, rfl⟩) | (go_at_call 99; refine (power_any _ (by omega) (by omega) _).mono ?_; rintro e w' ⟨rfl, rfl⟩))
  go_ret2
  exact ⟨ret_ib hz.out hf.out.symm, rfl⟩
theorem rbinary_any (op x y : Int) (hx : C x) (hy : C y) (w : World) :
    Calls Tryz.prog 60 #[.int .i64 op, .int .u16 x, .int .u16 y] w fun e w' => e = .returned (.tuple #[.int .u16 (bi op x y), .bool (isBi op)]) ∧ w' = w := by
  cases h : isBi op
  · rw [← h]; exact rbin_no op x y hx hy h w
  · simp only [isBi, Bool.or_eq_true, beq_iff_eq] at h
    rcases h with ((((((((((((((((((h | h) | h) | h) | h) | h) | h) | h) | h) | h) | h) | h) | h) | h) | h) | h) | h) | h) | h) | h <;> subst h
    · exact rbin_21 x y hx hy w
    · exact rbin_22 x y hx hy w
    · exact rbin_23 x y hx hy w
    · by_cases k : y = 0
      · subst k; exact rbin_24z x hx w
      · exact rbin_24n x y hx hy k w
    · by_cases k : y = 0
      · subst k; exact rbin_25z x hx w
      · exact rbin_25n x y hx hy k w
    · by_cases k : y = 0
      · subst k; exact rbin_26z x hx w
      · exact rbin_26n x y hx hy k w
    · by_cases k : y = 0
      · subst k; exact rbin_27z x hx w
      · exact rbin_27n x y hx hy k w
    · by_cases k : sg y < sg x
      · exact rbin_30g x y hx hy k w
      · exact rbin_30l x y hx hy (by omega) w
    · by_cases k : sg x < sg y
      · exact rbin_31l x y hx hy k w
      · exact rbin_31g x y hx hy (by omega) w
    · exact rbin_36 x y hx hy w
    · exact rbin_37 x y hx hy w
    · exact rbin_38 x y hx hy w
    · by_cases k : 15 < y
      · exact rbin_40g x y hx hy k w
      · exact rbin_40l x y hx hy (by omega) w
    · by_cases k : 15 < y
      · exact rbin_41g x y hx hy k w
      · exact rbin_41l x y hx hy (by omega) w
    · exact rbin_42 x y hx hy w
    · exact rbin_43 x y hx hy w
    · exact rbin_44 x y hx hy w
    · exact rbin_45 x y hx hy w
    · exact rbin_46 x y hx hy w
    · exact rbin_47 x y hx hy w
end Go.Proofs.YtgponcjjnjpfkabGreat.C
/-! The reference's side of the law's world; its groups at any op. -/
namespace Go.Proofs.YtgponcjjnjpfkabGreat.L
open Go.RowKit
open Go.Proofs
open P
set_option linter.unusedVariables false
set_option linter.unusedSimpArgs false
set_option maxHeartbeats 4000000
set_option maxRecDepth 100000
theorem rplain_any (op : Int) (w : World) : Calls Tryz.prog 53 #[.int .i64 op] w fun e w' => e = .returned (.bool (plain op)) ∧ Below w.heap.size w w' := by
  by_cases c1 : op = 6
  · subst c1
    go_enter Tryz.func53, Tryz.ntmps53
    go_wp2
    go_ret
    exact ⟨rfl, Below.refl _ _⟩
  · by_cases c2 : op = 9
    · subst c2
      go_enter Tryz.func53, Tryz.ntmps53
      go_wp2
      go_ret
      exact ⟨rfl, Below.refl _ _⟩
    · have e1 := beq_eq_false_iff_ne.2 c1
      have e2 := beq_eq_false_iff_ne.2 c2
      have hp : plain op = (decide (12 ≤ op) && decide (op ≤ 63)) := by unfold plain; rw [e1, e2]; rfl
      rw [hp]
      by_cases c3 : 12 ≤ op
      · have e3 := decide_eq_true c3
        rw [e3, Bool.true_and]
        by_cases c4 : op ≤ 63
        · have e4 := decide_eq_true c4
          go_enter Tryz.func53, Tryz.ntmps53
          go_wp2
          go_ret
          first | exact ⟨rfl, Below.refl _ _⟩ | exact ⟨by simp [c4], Below.refl _ _⟩
        · have e4 := decide_eq_false c4
          go_enter Tryz.func53, Tryz.ntmps53
          go_wp2
          go_ret
          first | exact ⟨rfl, Below.refl _ _⟩ | exact ⟨by simp [c4], Below.refl _ _⟩
      · have e3 := decide_eq_false c3
        rw [e3, Bool.false_and]
        go_enter Tryz.func53, Tryz.ntmps53
        go_wp2
        go_ret
        exact ⟨rfl, Below.refl _ _⟩
theorem elemU : Tryz.prog.underlying 22 = some (.slice (Tryz.prog.elem 22)) := by kernel_rfl
theorem sizeU (W : World) : (sizeOf (Tryz.prog.elem 22)).run Tryz.prog W = .ok 1 W := by
  have e : Tryz.prog.elem 22 = 31 := by kernel_rfl
  rw [e]
  simp [sizeOf]
  rfl
theorem slice_toU (W : World) (p : Option Addr) (n cap h : Nat) (hc : h ≤ cap) : (Instr.sliceAt 22 (.slice p n cap) none (some (.int .i64 (h : Int))) none).run Tryz.prog W = .ok (.slice p h cap) W := by
  have e0 : Option.map (fun x : Addr => x.add 0) p = p := by cases p <;> simp [Addr.add]
  rw [run_sliceAt_slice W 22 _ _ _ _ elemU, run_slice_h W 22 p n cap elemU .i64 (h : Int) (by omega) (by omega), sizeU]
  simp [Result.andThen, sliced, e0]
theorem put_len (op : Int) (hp : plain op = true) (x y z s : Int) (m : M.MS) : (putN op x y z s m).length = (rw_ op).o := by
  rcases plain_cases op hp with rfl | rfl | rfl | rfl | rfl | rfl | rfl | rfl | rfl | rfl | rfl | rfl | rfl | rfl | rfl | rfl | rfl | rfl | rfl | rfl | rfl | rfl | rfl | rfl | rfl | rfl | rfl | rfl | rfl | rfl | rfl | rfl | rfl | rfl | rfl | rfl | rfl | rfl | rfl | rfl | rfl | rfl | rfl | rfl | rfl | rfl | rfl | rfl | rfl | rfl | rfl | rfl | rfl | rfl <;> rfl
theorem retN_id (n : Nat) (h : n ≠ 6 ∧ n ≠ 55 ∧ n ≠ 56) (x y : Int) (R : List (Int × Int)) : retN (n : Int) x y R = R := by
  unfold retN; split <;> first | rfl | omega
theorem memN_id (n : Nat) (h : n ≠ 51 ∧ n ≠ 53 ∧ n ≠ 54 ∧ n ≠ 60 ∧ n ≠ 62 ∧ n ≠ 63) (x y z : Int) (m : M.MS) : memN (n : Int) x y z m = m := by
  unfold memN; split <;> first | rfl | omega
theorem un_put {op : Int} (h : C.isUn op = true) (x y z s : Int) (m : M.MS) : putN op x y z s m = [C.un op x] ∧ (rw_ op).i = 1 := by
  unfold C.isUn at h
  simp only [Bool.or_eq_true, beq_iff_eq] at h
  rcases h with (((((((rfl | rfl) | rfl) | rfl) | rfl) | rfl) | rfl) | rfl) | rfl <;> exact ⟨rfl, rfl⟩
theorem bi_put {op : Int} (hp : plain op = true) (h1 : 21 ≤ op) (h2 : op ≤ 49) (h : C.isUn op = false) (x y z s : Int) (m : M.MS) : putN op x y z s m = [C.bi op x y] ∧ (rw_ op).i = 2 := by
  rcases plain_cases op hp with rfl | rfl | rfl | rfl | rfl | rfl | rfl | rfl | rfl | rfl | rfl | rfl | rfl | rfl | rfl | rfl | rfl | rfl | rfl | rfl | rfl | rfl | rfl | rfl | rfl | rfl | rfl | rfl | rfl | rfl | rfl | rfl | rfl | rfl | rfl | rfl | rfl | rfl | rfl | rfl | rfl | rfl | rfl | rfl | rfl | rfl | rfl | rfl | rfl | rfl | rfl | rfl | rfl | rfl <;> first | (exact ⟨rfl, rfl⟩) | (exact absurd h (by decide)) | omega
theorem slice_fromU (W : World) (p : Option Addr) (n cap l : Nat) (hc : l ≤ n) : (Instr.sliceAt 22 (.slice p n cap) (some (.int .i64 (l : Int))) none none).run Tryz.prog W = .ok (.slice (if cap = l then p else p.map (·.add l)) (n - l) (cap - l)) W := by
  rw [run_sliceAt_slice W 22 _ _ _ _ elemU, run_slice_l W 22 p n cap elemU .i64 (l : Int) (by omega) (by omega), sizeU]
  simp [Result.andThen, sliced]
theorem ls_from {W : World} {p : Option Addr} {n c : Nat} {Q X : List Int} (h : S.Ls S.eU 1 W (.slice p n c) (Q ++ X)) : S.Ls S.eU 1 W (.slice (if c = Q.length then p else p.map (·.add Q.length)) X.length (c - Q.length)) X := by
  rcases h with ⟨e, f⟩ | ⟨x, c', e, hc, hs⟩
  · cases e
    obtain ⟨rfl, rfl⟩ := List.append_eq_nil_iff.1 f
    exact .inl ⟨rfl, rfl⟩
  · cases e
    rw [List.length_append] at hc
    by_cases k : c = Q.length
    · rw [if_pos k]
      have : X = [] := List.eq_nil_of_length_eq_zero (by omega)
      subst this
      exact .inr ⟨x, _, rfl, Nat.zero_le _, fun i a ha => by simp at ha⟩
    · rw [if_neg k]
      refine .inr ⟨x.add Q.length, _, rfl, by omega, fun i a ha => ?_⟩
      obtain ⟨b, o, e, f⟩ := hs (Q.length + i) a (by rw [List.getElem?_append_right (by omega), show Q.length + i - Q.length = i by omega]; exact ha)
      cases e
      refine ⟨b, o + Q.length, congrArg some (Addr.add_lit _ _ _), fun j u hj => ?_⟩
      have := f j u hj
      rw [show o + Q.length + i * 1 + j = o + (Q.length + i) * 1 + j by omega]
      exact this
theorem ls_to {W : World} {p : Option Addr} {n c : Nat} {Q X : List Int} (h : S.Ls S.eU 1 W (.slice p n c) (Q ++ X)) : S.Ls S.eU 1 W (.slice p Q.length c) Q := by
  rcases h with ⟨e, f⟩ | ⟨x, c', e, hc, hs⟩
  · cases e
    obtain ⟨rfl, rfl⟩ := List.append_eq_nil_iff.1 f
    exact .inl ⟨rfl, rfl⟩
  · cases e
    rw [List.length_append] at hc
    refine .inr ⟨x, _, rfl, by omega, fun i a ha => hs i a (by
      have := (List.getElem?_eq_some_iff.1 ha).1
      rw [List.getElem?_append_left this]; exact ha)⟩
/-- The reference's stacks and memory. -/
structure RF (W : World) (B bx bq bz : Nat) (G : Nat → Prop) (ev qv : Value) (D : List Int) (R : List (Int × Int)) (m : M.MS) : Prop where
  x : S.EV W B bx ev D
  y : S.QV W B bq qv R
  z : M.IsR W G bz m
  nx : ¬ G bx
  nq : ¬ G bq
  nev : ∀ k, ev.ownBlock = some k → ¬ G k
  nqv : ∀ k, qv.ownBlock = some k → ¬ G k
  gl : ∀ k, G k → k < W.heap.size
/-- What a call leaves of it. -/
def RXD (W W' : World) (B bx bq bz : Nat) (G : Nat → Prop) (ev qv : Value) (D : List Int) (R : List (Int × Int)) (m : M.MS) : Prop :=
  ∃ ev' qv' G', RF W' B bx bq bz G' ev' qv' D R m ∧ S.Tc (fun k => k = bx ∨ k = bq ∨ G k) W W' ∧ S.Nw W ev ev' ∧ S.Nw W qv qv' ∧ ∀ k, G' k → G k ∨ W.heap.size ≤ k
theorem RF.below {W W' : World} {B bx bq bz : Nat} {G : Nat → Prop} {ev qv : Value} {D : List Int} {R : List (Int × Int)} {m : M.MS} (h : RF W B bx bq bz G ev qv D R m) (k : Below W.heap.size W W') : RF W' B bx bq bz G ev qv D R m :=
  ⟨EVb h.x k, QVb h.y k, h.z.below k, h.nx, h.nq, h.nev, h.nqv, fun i e => Nat.lt_of_lt_of_le (h.gl i e) k.size⟩
theorem RF.same {W W' : World} {B bx bq bz : Nat} {G : Nat → Prop} {ev qv : Value} {D : List Int} {R : List (Int × Int)} {m : M.MS} (h : RF W B bx bq bz G ev qv D R m) (k : Below W.heap.size W W') : RXD W W' B bx bq bz G ev qv D R m :=
  ⟨ev, qv, G, h.below k, ⟨k.os, k.tape, k.output, k.size, fun i hi _ => k.block i hi⟩, Nwr _ _, Nwr _ _, fun _ e => .inl e⟩
theorem EVk {W W' : World} {B be : Nat} {ev : Value} {D : List Int} (h : S.EV W B be ev D) (k : ∀ i, i < W.heap.size → (i = be ∨ ev.ownBlock = some i) → W'.heap[i]? = W.heap[i]?) : S.EV W' B be ev D := ⟨(k _ (S.lt_of h.blk) (.inl rfl)).trans h.blk, S.own_kept h.row fun g e hg => k g hg (.inr e), h.hb, h.len⟩
theorem QVk {W W' : World} {B bq : Nat} {qv : Value} {R : List (Int × Int)} (h : S.QV W B bq qv R) (k : ∀ i, i < W.heap.size → (i = bq ∨ qv.ownBlock = some i) → W'.heap[i]? = W.heap[i]?) : S.QV W' B bq qv R := ⟨(k _ (S.lt_of h.blk) (.inl rfl)).trans h.blk, S.own_kept h.row fun g e hg => k g hg (.inr e), h.hb, h.len⟩
theorem xq_ne {W : World} {B bx bq : Nat} {ev qv : Value} {D : List Int} {R : List (Int × Int)} (h : S.EV W B bx ev D) (k : S.QV W B bq qv R) : bx ≠ bq ∧ (∀ g, ev.ownBlock = some g → g ≠ bx ∧ g ≠ bq) ∧ (∀ g, qv.ownBlock = some g → g ≠ bx ∧ g ≠ bq) :=
  ⟨fun e => by have := h.blk; rw [e, k.blk] at this; injection this with this; injection this with _ this; exact absurd this (by decide),
    fun g e => ⟨S.own_ne h.row h.blk (by decide) g e, S.own_ne h.row k.blk (by decide) g e⟩,
    fun g e => ⟨S.own_ne k.row h.blk (by decide) g e, S.own_ne k.row k.blk (by decide) g e⟩⟩
def xg (X : List Int) (j : Nat) : Int := (X[j]?).getD 0
theorem xg_C {X : List Int} (h : ∀ x ∈ X, C.C x) (j : Nat) : C.C (xg X j) := by
  unfold xg
  cases e : X[j]? with
  | none => exact ⟨by simp, by simp⟩
  | some a => exact h a (List.mem_of_getElem? e)
theorem xcell {W : World} {lo : Nat} {p : Option Addr} {c : Nat} {X : List Int} (h : S.RowU W lo (.slice p X.length c) X) (h0 : 0 < X.length) : ∃ g, p = some ⟨g, 0, none⟩ ∧ lo ≤ g ∧ X.length ≤ c ∧ ∀ j, j < X.length → W.cell? ⟨g, j, none⟩ = some (.int .u16 (xg X j)) := by
  obtain ⟨g, cap, e, hl, hc⟩ := S.rowU_pos h h0
  cases e
  refine ⟨g, rfl, hl, hc, fun j hj => ?_⟩
  obtain ⟨p', c', e, _, k⟩ := h.ls.ex
  cases e
  obtain ⟨b, o, e, f⟩ := k.u j X[j] (List.getElem?_eq_getElem hj)
  cases e
  rw [xg, List.getElem?_eq_getElem hj, Option.getD_some]
  rw [Nat.zero_add] at f
  exact f
theorem shuf_any (n : Nat) (h1 : 12 ≤ n) (h2 : n ≤ 20) (X : List Int) (hX : X.length = (rw_ (n : Int)).i) (p : Option Addr) (c lo : Nat) (s : Int) (m : M.MS) (w : World) (h : S.RowU w lo (.slice p X.length c) X) :
    Calls Tryz.prog 56 #[.int .i64 (n : Int), .slice p X.length c] w fun e w' => ∃ v, e = .returned v ∧ S.Ls S.eU 1 w' v (putN (n : Int) (xg X 0) (xg X 1) (xg X 2) s m) ∧ Below w.heap.size w w' := by
  have h0 : 0 < X.length := by
    rw [hX]
    obtain rfl | rfl | rfl | rfl | rfl | rfl | rfl | rfl | rfl : n = 12 ∨ n = 13 ∨ n = 14 ∨ n = 15 ∨ n = 16 ∨ n = 17 ∨ n = 18 ∨ n = 19 ∨ n = 20 := by omega
    all_goals decide
  obtain ⟨g, rfl, _, hc, hj⟩ := xcell h h0
  clear h
  by_cases e12 : n = 12
  · subst e12
    have hX' : X.length = 1 := hX
    rw [hX'] at hc ⊢
    exact sh_12 g c hc _ w (hj 0 (by rw [hX]; decide))
  by_cases e13 : n = 13
  · subst e13
    have hX' : X.length = 1 := hX
    rw [hX'] at hc ⊢
    exact sh_13 g c hc _ w (hj 0 (by rw [hX]; decide))
  by_cases e14 : n = 14
  · subst e14
    have hX' : X.length = 2 := hX
    rw [hX'] at hc ⊢
    exact sh_14 g c hc _ _ w (hj 0 (by rw [hX]; decide)) (hj 1 (by rw [hX]; decide))
  by_cases e15 : n = 15
  · subst e15
    have hX' : X.length = 2 := hX
    rw [hX'] at hc ⊢
    exact sh_15 g c hc _ _ w (hj 0 (by rw [hX]; decide)) (hj 1 (by rw [hX]; decide))
  by_cases e16 : n = 16
  · subst e16
    have hX' : X.length = 3 := hX
    rw [hX'] at hc ⊢
    exact sh_16 g c hc _ _ _ w (hj 0 (by rw [hX]; decide)) (hj 1 (by rw [hX]; decide)) (hj 2 (by rw [hX]; decide))
  by_cases e17 : n = 17
  · subst e17
    have hX' : X.length = 2 := hX
    rw [hX'] at hc ⊢
    exact sh_17 g c hc _ _ w (hj 0 (by rw [hX]; decide)) (hj 1 (by rw [hX]; decide))
  by_cases e18 : n = 18
  · subst e18
    have hX' : X.length = 2 := hX
    rw [hX'] at hc ⊢
    exact sh_18 g c hc _ _ w (hj 0 (by rw [hX]; decide)) (hj 1 (by rw [hX]; decide))
  by_cases e19 : n = 19
  · subst e19
    have hX' : X.length = 2 := hX
    rw [hX'] at hc ⊢
    exact sh_19 g c hc _ _ w (hj 0 (by rw [hX]; decide)) (hj 1 (by rw [hX]; decide))
  by_cases e20 : n = 20
  · subst e20
    have hX' : X.length = 2 := hX
    rw [hX'] at hc ⊢
    exact sh_20 g c hc _ _ w (hj 0 (by rw [hX]; decide)) (hj 1 (by rw [hX]; decide))
  omega
theorem ret_any (n : Nat) (hn : n = 6 ∨ (55 ≤ n ∧ n ≤ 59)) (X : List Int) (hX : X.length = (rw_ (n : Int)).i) (p : Option Addr) (c lo : Nat) (bq B : Nat) (qv : Value) (R : List (Int × Int)) (m : M.MS) (hlk : (lk (rw_ (n : Int)).k (rw_ (n : Int)).bl R).2 = 0) (hs : R.length + (rw_ (n : Int)).s ≤ 128) (w : World) (h : S.RowU w lo (.slice p X.length c) X) (hy : S.QV w B bq qv R) (hlo : bq < lo) :
    Calls Tryz.prog 57 #[.int .i64 (n : Int), .slice p X.length c, .pointer (some ⟨bq, 0, none⟩)] w fun e w' => ∃ v qv', e = .returned v ∧ S.Ls S.eU 1 w' v (putN (n : Int) (xg X 0) (xg X 1) (xg X 2) (lk (rw_ (n : Int)).k (rw_ (n : Int)).bl R).1 m) ∧ S.QV w' B bq qv' (retN (n : Int) (xg X 0) (xg X 1) R) ∧ S.Nw w qv qv' ∧ S.At bq w w' := by
  by_cases e57 : n = 57
  · subst e57; exact re_57 _ bq B qv R w hy
  by_cases e58 : n = 58
  · subst e58; exact re_58 _ bq B qv R w hy
  by_cases e59 : n = 59
  · subst e59; exact re_59 _ bq B qv R w hy
  by_cases e56 : n = 56
  · subst e56; exact re_56 _ bq B qv R hlk w hy
  have h0 : 0 < X.length := by
    rw [hX]
    obtain rfl | rfl : n = 6 ∨ n = 55 := by omega
    all_goals decide
  obtain ⟨g, rfl, hg, hc, hj⟩ := xcell h h0
  by_cases e55 : n = 55
  · subst e55
    have hX' : X.length = 1 := hX
    rw [hX'] at hc ⊢
    exact re_55 g c hc _ bq B qv R hs w (hj 0 (by omega)) hy
  by_cases e6 : n = 6
  · subst e6
    have hX' : X.length = 2 := hX
    rw [hX'] at hc ⊢
    exact re_6 g c hc _ _ bq B qv R hs w (hj 0 (by omega)) (hj 1 (by omega)) hy (by omega)
  omega
theorem mem_any (n : Nat) (h50 : 50 ≤ n) (h63 : n ≤ 63) (hn : n < 55 ∨ 59 < n) (X : List Int) (hC : ∀ x ∈ X, C.C x) (hX : X.length = (rw_ (n : Int)).i) (p : Option Addr) (c lo : Nat) (s : Int) (bz : Nat) {G : Nat → Prop} {m : M.MS} (w : World) (h : S.RowU w lo (.slice p X.length c) X) (hgG : ∀ k, lo ≤ k → ¬ G k) (hm : M.IsR w G bz m) (ht : m.tones.length ≤ 999000) :
    Calls Tryz.prog 58 #[.int .i64 (n : Int), .slice p X.length c, .pointer (some ⟨bz, 0, none⟩)] w fun e w' => ∃ v, e = .returned v ∧ S.Ls S.eU 1 w' v (putN (n : Int) (xg X 0) (xg X 1) (xg X 2) s m) ∧ M.RD w w' G bz (memN (n : Int) (xg X 0) (xg X 1) (xg X 2) m) := by
  by_cases e61 : n = 61
  · subst e61; exact me_61 _ bz w hm ht
  have h0 : 0 < X.length := by
    rw [hX]
    obtain rfl | rfl | rfl | rfl | rfl | rfl | rfl | rfl : n = 50 ∨ n = 51 ∨ n = 52 ∨ n = 53 ∨ n = 54 ∨ n = 60 ∨ n = 62 ∨ n = 63 := by omega
    all_goals decide
  obtain ⟨g, rfl, hg, hc, hj⟩ := xcell h h0
  clear h
  by_cases e50 : n = 50
  · subst e50
    have hX' : X.length = 1 := hX
    rw [hX'] at hc ⊢
    exact me_50 g c hc _ (xg_C hC 0) bz (hgG g hg) w (hj 0 (by rw [hX]; decide)) hm ht
  by_cases e51 : n = 51
  · subst e51
    have hX' : X.length = 2 := hX
    rw [hX'] at hc ⊢
    exact me_51 g c hc _ _ (xg_C hC 0) (xg_C hC 1) bz (hgG g hg) w (hj 0 (by rw [hX]; decide)) (hj 1 (by rw [hX]; decide)) hm ht
  by_cases e52 : n = 52
  · subst e52
    have hX' : X.length = 1 := hX
    rw [hX'] at hc ⊢
    exact me_52 g c hc _ (xg_C hC 0) bz (hgG g hg) w (hj 0 (by rw [hX]; decide)) hm ht
  by_cases e53 : n = 53
  · subst e53
    have hX' : X.length = 2 := hX
    rw [hX'] at hc ⊢
    exact me_53 g c hc _ _ (xg_C hC 0) (xg_C hC 1) bz (hgG g hg) w (hj 0 (by rw [hX]; decide)) (hj 1 (by rw [hX]; decide)) hm ht
  by_cases e54 : n = 54
  · subst e54
    have hX' : X.length = 2 := hX
    rw [hX'] at hc ⊢
    exact me_54 g c hc _ _ (xg_C hC 0) (xg_C hC 1) bz (hgG g hg) w (hj 0 (by rw [hX]; decide)) (hj 1 (by rw [hX]; decide)) hm ht
  by_cases e60 : n = 60
  · subst e60
    have hX' : X.length = 3 := hX
    rw [hX'] at hc ⊢
    exact me_60 g c hc _ _ _ (xg_C hC 0) (xg_C hC 1) (xg_C hC 2) bz (hgG g hg) w (hj 0 (by rw [hX]; decide)) (hj 1 (by rw [hX]; decide)) (hj 2 (by rw [hX]; decide)) hm ht
  by_cases e62 : n = 62
  · subst e62
    have hX' : X.length = 2 := hX
    rw [hX'] at hc ⊢
    exact me_62 g c hc _ _ (xg_C hC 0) (xg_C hC 1) bz (hgG g hg) w (hj 0 (by rw [hX]; decide)) (hj 1 (by rw [hX]; decide)) hm ht
  by_cases e63 : n = 63
  · subst e63
    have hX' : X.length = 1 := hX
    rw [hX'] at hc ⊢
    exact me_63 g c hc _ (xg_C hC 0) bz (hgG g hg) w (hj 0 (by rw [hX]; decide)) hm ht
  omega
end Go.Proofs.YtgponcjjnjpfkabGreat.L
/-! The reference's Do. -/
namespace Go.Proofs.YtgponcjjnjpfkabGreat.L
open Go.RowKit
open Go.Proofs
open P
set_option linter.unusedVariables false
set_option linter.unusedSimpArgs false
set_option maxHeartbeats 20000000
set_option maxRecDepth 100000
theorem w_sub (a b c : Nat) (hc : c = a + b) (h : a + b ≤ 1000) : wrap64 ((c : Int) - (b : Int)) = (a : Int) ∧ IntKind.i64.wrap ((c : Int) - (b : Int)) = (a : Int) := by
  rw [show (c : Int) - (b : Int) = (a : Int) by omega]
  simp [wrap64, IntKind.wrap, IntKind.bits, IntKind.signed]; omega
theorem field_pr (W : World) (a : Int) (b : ByteArray) (c d e : Int) (f : Bool) : (Instr.field 57 (.agg #[.int .i64 a, .string b, .int .i64 c, .int .i64 d, .int .i64 e, .bool f]) 2).run Tryz.prog W = .ok (.int .i64 c) W := by
  simp [Instr.field, run_underlying Tryz.underlying57, Value.cells, Tryz.sizeOf3, Tryz.sizeOf9, go_sem, asAgg]
/-- The reference's data stack with some cells taken, its call's own row of them. -/
structure TK (w W : World) (B bx bq bz : Nat) (G : Nat → Prop) (ev qv : Value) (Q X : List Int) (R : List (Int × Int)) (m : M.MS) (px : Option Addr) (cx lo : Nat) : Prop where
  ex : ∃ ev', S.EV W B bx ev' Q ∧ ∀ g, ev'.ownBlock = some g → lo ≤ g
  y : S.QV W B bq qv R
  z : M.IsR W G bz m
  row : S.RowU W lo (.slice px X.length cx) X
  at_ : S.At bx w W
  lo1 : w.heap.size ≤ lo
  lo2 : lo ≤ W.heap.size
  nx : ¬ G bx
  nq : ¬ G bq
  nqv : ∀ k, qv.ownBlock = some k → ¬ G k
  gl : ∀ k, G k → k < w.heap.size
  bxl : bx < w.heap.size
  bql : bq < w.heap.size
section
variable {w W W' W2 : World} {B bx bq bz : Nat} {G : Nat → Prop} {ev qv qv' : Value} {Q X O : List Int} {R R' : List (Int × Int)} {m m' : M.MS} {px : Option Addr} {cx lo : Nat}
theorem TK.nG (h : TK w W B bx bq bz G ev qv Q X R m px cx lo) (k : Nat) (e : lo ≤ k) : ¬ G k := fun g => by have := h.gl k g; have := h.lo1; omega
/-- The group's call made new blocks alone. -/
theorem TK.endS (h : TK w W B bx bq bz G ev qv Q X R m px cx lo) (k : Below W.heap.size W W') {ev0 ev' : Value} (h0 : ∀ g, ev0.ownBlock = some g → lo ≤ g ∧ g < W.heap.size) (hx' : S.EV W2 B bx ev' (Q ++ O)) (hn : S.Nw W' ev0 ev') (ha : S.At bx W' W2) : RXD w W2 B bx bq bz G ev qv (Q ++ O) R m := by
  obtain ⟨ev1, hx, hl⟩ := h.ex
  have hne := xq_ne hx h.y
  have hsz : w.heap.size ≤ W'.heap.size := Nat.le_trans h.at_.size k.size
  have kp : ∀ i, i < W.heap.size → i ≠ bx → W2.heap[i]? = W.heap[i]? := fun i hi hb => (ha.block i (Nat.lt_of_lt_of_le hi k.size) hb).trans (k.block i hi)
  have hk : ∀ g, ev'.ownBlock = some g → w.heap.size ≤ g := fun g e => (hn g e).elim (fun x => Nat.le_trans h.lo1 (h0 g x).1) fun x => Nat.le_trans hsz x
  refine ⟨ev', qv, G, ⟨hx', QVk h.y fun i hi e => kp i hi (by rcases e with rfl | e; exact hne.1.symm; exact (hne.2.2 i e).1), h.z.kept fun i hi e => kp i hi fun f => h.nx (f ▸ e), h.nx, h.nq, fun g e f => by have := hk g e; have := h.gl g f; omega, h.nqv, fun i e => Nat.lt_of_lt_of_le (h.gl i e) (Nat.le_trans hsz ha.size)⟩, ⟨ha.os.trans (k.os.trans h.at_.os), ha.tape.trans (k.tape.trans h.at_.tape), ha.output.trans (k.output.trans h.at_.output), Nat.le_trans hsz ha.size, fun i hi hn => (kp i (Nat.lt_of_lt_of_le hi h.at_.size) fun f => hn (.inl f)).trans (h.at_.block i hi fun f => hn (.inl f))⟩, fun g e => .inr (hk g e), Nwr _ _, fun _ e => .inl e⟩
theorem TK.evS (h : TK w W B bx bq bz G ev qv Q X R m px cx lo) (k : Below W.heap.size W W') : ∃ ev0, S.EV W' B bx ev0 Q ∧ ∀ g, ev0.ownBlock = some g → lo ≤ g ∧ g < W.heap.size := by
  obtain ⟨ev0, hx, hl⟩ := h.ex
  exact ⟨ev0, EVb hx k, fun g e => ⟨hl g e, (hx.row.lt g e).2⟩⟩
theorem TK.evR (h : TK w W B bx bq bz G ev qv Q X R m px cx lo) (k : S.At bq W W') : ∃ ev0, S.EV W' B bx ev0 Q ∧ ∀ g, ev0.ownBlock = some g → lo ≤ g ∧ g < W.heap.size := by
  obtain ⟨ev0, hx, hl⟩ := h.ex
  have hne := xq_ne hx h.y
  exact ⟨ev0, EVk hx fun i hi e => k.block i hi (by rcases e with rfl | e; exact hne.1; exact (hne.2.1 i e).2), fun g e => ⟨hl g e, (hx.row.lt g e).2⟩⟩
theorem TK.evM (h : TK w W B bx bq bz G ev qv Q X R m px cx lo) (k : M.RD W W' G bz m') : ∃ ev0, S.EV W' B bx ev0 Q ∧ ∀ g, ev0.ownBlock = some g → lo ≤ g ∧ g < W.heap.size := by
  obtain ⟨ev0, hx, hl⟩ := h.ex
  exact ⟨ev0, EVk hx fun i hi e => k.2.block i hi (by rcases e with rfl | e; exact h.nx; exact h.nG i (hl i e)), fun g e => ⟨hl g e, (hx.row.lt g e).2⟩⟩
/-- The group's call wrote the return stack. -/
theorem TK.endR (h : TK w W B bx bq bz G ev qv Q X R m px cx lo) (k : S.At bq W W') (hq : S.QV W' B bq qv' R') (hnq : S.Nw W qv qv') {ev0 ev' : Value} (h0 : ∀ g, ev0.ownBlock = some g → lo ≤ g ∧ g < W.heap.size) (hx' : S.EV W2 B bx ev' (Q ++ O)) (hn : S.Nw W' ev0 ev') (ha : S.At bx W' W2) : RXD w W2 B bx bq bz G ev qv (Q ++ O) R' m := by
  obtain ⟨ev1, hx, hl⟩ := h.ex
  have hne := xq_ne hx h.y
  have hsz : w.heap.size ≤ W'.heap.size := Nat.le_trans h.at_.size k.size
  have kp : ∀ i, i < W.heap.size → i ≠ bx → i ≠ bq → W2.heap[i]? = W.heap[i]? := fun i hi hb hc => (ha.block i (Nat.lt_of_lt_of_le hi k.size) hb).trans (k.block i hi hc)
  have hk : ∀ g, ev'.ownBlock = some g → w.heap.size ≤ g := fun g e => (hn g e).elim (fun x => Nat.le_trans h.lo1 (h0 g x).1) fun x => Nat.le_trans hsz x
  have hne2 := xq_ne hx' (show S.QV W2 B bq qv' R' from QVk hq fun i hi e => ha.block i hi (by
    rcases e with rfl | e
    · exact hne.1.symm
    · exact fun f => by
        have := S.own_ne hq.row (show W'.heap[bx]? = _ from (k.block bx (Nat.lt_of_lt_of_le h.bxl h.at_.size) hne.1).trans hx.blk) (by decide) i e
        exact this f))
  refine ⟨ev', qv', G, ⟨hx', QVk hq fun i hi e => ha.block i hi (by
      rcases e with rfl | e
      · exact hne.1.symm
      · exact (hne2.2.2 i e).1), h.z.kept fun i hi e => kp i hi (fun f => h.nx (f ▸ e)) (fun f => h.nq (f ▸ e)), h.nx, h.nq, fun g e f => by have := hk g e; have := h.gl g f; omega, fun g e f => (hnq g e).elim (fun x => h.nqv g x f) (fun x => by have := h.gl g f; have := h.at_.size; omega), fun i e => Nat.lt_of_lt_of_le (h.gl i e) (Nat.le_trans hsz ha.size)⟩, ⟨ha.os.trans (k.os.trans h.at_.os), ha.tape.trans (k.tape.trans h.at_.tape), ha.output.trans (k.output.trans h.at_.output), Nat.le_trans hsz ha.size, fun i hi hn => (kp i (Nat.lt_of_lt_of_le hi h.at_.size) (fun f => hn (.inl f)) (fun f => hn (.inr (.inl f)))).trans (h.at_.block i hi fun f => hn (.inl f))⟩, fun g e => .inr (hk g e), NwT h.at_.size hnq, fun _ e => .inl e⟩
/-- The group's call wrote the memory. -/
theorem TK.endM (h : TK w W B bx bq bz G ev qv Q X R m px cx lo) (k : M.RD W W' G bz m') {ev0 ev' : Value} (h0 : ∀ g, ev0.ownBlock = some g → lo ≤ g ∧ g < W.heap.size) (hx' : S.EV W2 B bx ev' (Q ++ O)) (hn : S.Nw W' ev0 ev') (ha : S.At bx W' W2) : RXD w W2 B bx bq bz G ev qv (Q ++ O) R m' := by
  obtain ⟨ev1, hx, hl⟩ := h.ex
  have hne := xq_ne hx h.y
  have hsz : w.heap.size ≤ W'.heap.size := Nat.le_trans h.at_.size k.2.size
  have hk : ∀ g, ev'.ownBlock = some g → (lo ≤ g ∧ g < W.heap.size) ∨ W'.heap.size ≤ g := fun g e => (hn g e).imp (fun x => h0 g x) id
  have hwz : ∀ i, M.gr G W W' i → i < W'.heap.size := fun i f => f.elim (fun x => Nat.lt_of_lt_of_le (h.gl i x) hsz) (fun x => x.2)
  have hG2 : ∀ i, i < w.heap.size → ¬ G i → ¬ M.gr G W W' i := fun i hi hn f => f.elim hn (fun x => by have := x.1; have := h.at_.size; omega)
  have hqx : ∀ i, i < W.heap.size → (i = bq ∨ qv.ownBlock = some i) → ¬ G i ∧ i ≠ bx := fun i hi e => by
    rcases e with rfl | e
    · exact ⟨h.nq, hne.1.symm⟩
    · exact ⟨h.nqv i e, (hne.2.2 i e).1⟩
  refine ⟨ev', qv, M.gr G W W', ⟨hx', QVk h.y fun i hi e => (ha.block i (Nat.lt_of_lt_of_le hi k.2.size) (hqx i hi e).2).trans (k.2.block i hi (hqx i hi e).1), k.1.kept fun i hi e => ha.block i hi fun f => ?_, hG2 _ h.bxl h.nx, hG2 _ h.bql h.nq, fun g e f => ?_, fun g e f => ?_, fun i e => Nat.lt_of_lt_of_le (hwz i e) ha.size⟩, ⟨ha.os.trans (k.2.os.trans h.at_.os), ha.tape.trans (k.2.tape.trans h.at_.tape), ha.output.trans (k.2.output.trans h.at_.output), Nat.le_trans hsz ha.size, fun i hi hn => ((ha.block i (Nat.lt_of_lt_of_le hi hsz) fun f => hn (.inl f)).trans (k.2.block i (Nat.lt_of_lt_of_le hi h.at_.size) fun f => hn (.inr (.inr f)))).trans (h.at_.block i hi fun f => hn (.inl f))⟩, fun g e => .inr ((hk g e).elim (fun x => Nat.le_trans h.lo1 x.1) (fun x => Nat.le_trans hsz x)), Nwr _ _, fun i e => e.imp id fun x => Nat.le_trans h.at_.size x.1⟩
  · subst f; exact hG2 _ h.bxl h.nx e
  · rcases f with f | f
    · rcases hk g e with x | x
      · exact h.nG g x.1 f
      · have := h.gl g f; omega
    · rcases hk g e with x | x
      · have := f.1; omega
      · have := f.2; omega
  · rcases f with f | f
    · exact h.nqv g e f
    · have := (h.y.row.lt g e).2; have := f.1; omega
end
theorem rdo_any (n : Nat) (hp : plain (n : Int) = true) (B bx bq bz : Nat) (G : Nat → Prop) (ev qv : Value) (D : List Int) (R : List (Int × Int)) (m : M.MS) (hC : ∀ x ∈ D, C.C x) (ht : m.tones.length ≤ 999000) (w : World) (h : RF w B bx bq bz G ev qv D R m) :
    Calls Tryz.prog 29 #[.int .i64 (n : Int), .pointer (some ⟨bx, 0, none⟩), .pointer (some ⟨bq, 0, none⟩), .pointer (some ⟨bz, 0, none⟩)] w fun e w' => e = .returned (.int .i64 (fl (n : Int) D R)) ∧ RXD w w' B bx bq bz G ev qv (xD (n : Int) D R m) (xR (n : Int) D R) (xM (n : Int) D R m) := by
  obtain ⟨hn6, hn64⟩ := plain_n n hp
  have kp := rplain_any (n : Int) w
  rw [hp] at kp
  have H := S.hid h
  have km := fun W (k : Below w.heap.size w W) => rmay_any n hp bx bq B ev qv D R W (EVb h.x k) (QVb h.y k)
  have HKM := S.hid km
  have HC := S.hid hC
  clear h km hC
  go_enter Tryz.func29, Tryz.ntmps29
  go_wp2_with fail
  refine kp.mono ?_
  rintro e w1 ⟨rfl, hb1⟩
  have km := HKM.out w1 hb1
  have HB1 := S.hid hb1
  clear kp hb1 HKM
  go_wp2_with fail
  refine km.mono ?_
  rintro e w2 ⟨rfl, hb2⟩
  have HB2 := S.hid (HB1.out.trans (hb2.mono HB1.out.size))
  clear km hb2 HB1
  by_cases hf : fl (n : Int) D R = 0
  case neg =>
    as_aux_lemma =>
      have e1 : xD (n : Int) D R m = D := by unfold xD; rw [if_neg hf]
      have e2 : xR (n : Int) D R = R := by unfold xR; rw [if_neg hf]
      have e3 : xM (n : Int) D R m = m := by unfold xM; rw [if_neg hf]
      have HE := S.hid (And.intro e1 (And.intro e2 e3))
      clear e1 e2 e3
      obtain ⟨f, hff⟩ : ∃ f, fl (n : Int) D R = f := ⟨_, rfl⟩
      rw [hff] at hf ⊢
      have HFF := S.hid hff
      clear hff
      have f1 : (f != 0) = true := by simpa using hf
      go_wp2
      go_ret
      refine ⟨(by rw [HFF.out] <;> rfl), ?_⟩
      rw [HE.out.1, HE.out.2.1, HE.out.2.2]
      exact H.out.same HB2.out
  have e1 : xD (n : Int) D R m = nD (n : Int) D R m := by unfold xD; rw [if_pos hf]
  have e2 : xR (n : Int) D R = nR (n : Int) D R := by unfold xR; rw [if_pos hf]
  have e3 : xM (n : Int) D R m = nM (n : Int) D m := by unfold xM; rw [if_pos hf]
  obtain ⟨q1, q2, q3, q4⟩ := flt0 hf
  obtain ⟨X, hX⟩ : ∃ X, X = tops D (rw_ (n : Int)).i := ⟨_, rfl⟩
  obtain ⟨Q, hQ⟩ : ∃ Q, Q = rest D (rw_ (n : Int)).i := ⟨_, rfl⟩
  have hD : D = Q ++ X := by rw [hX, hQ]; exact parts D _
  have hXl : X.length = (rw_ (n : Int)).i := by rw [hX]; exact tops_len D _ q1
  have e1' : xD (n : Int) D R m = Q ++ putN (n : Int) (xg X 0) (xg X 1) (xg X 2) (lk (rw_ (n : Int)).k (rw_ (n : Int)).bl R).1 m := by rw [e1, hX, hQ]; rfl
  have e2' : xR (n : Int) D R = retN (n : Int) (xg X 0) (xg X 1) R := by rw [e2, hX]; rfl
  have e3' : xM (n : Int) D R m = memN (n : Int) (xg X 0) (xg X 1) (xg X 2) m := by rw [e3, hX]; rfl
  have hQO : Q.length + (rw_ (n : Int)).o ≤ 256 := by rw [hQ]; exact q2
  have HE := S.hid (And.intro hf (And.intro e1' (And.intro e2' e3')))
  have HQ := S.hid (And.intro hXl (And.intro hQO (And.intro q3 q4)))
  rw [hf]
  clear e1 e2 e3 e1' e2' e3' q1 q2 q3 q4 hX hQ hXl hQO hf
  have hCX : ∀ x ∈ X, C.C x := fun x hx => HC.out x (by rw [hD]; exact List.mem_append.2 (.inr hx))
  have HCX := S.hid hCX
  subst hD
  have hDl : (Q ++ X).length ≤ 256 := H.out.x.len
  have hDe : (Q ++ X).length = Q.length + X.length := List.length_append
  obtain ⟨pe, ce, hev⟩ := S.ex_slice H.out.x.row
  obtain ⟨N, hN⟩ : ∃ N, (Q ++ X).length = N := ⟨_, rfl⟩
  rw [hN] at hev hDl hDe
  subst hev
  obtain ⟨y1, y2⟩ := w_sub Q.length X.length N hDe (by omega)
  have fp := field_pr
  have hQl : Q.length ≤ 256 := by omega
  have hXl2 : X.length ≤ 256 := by omega
  have HDE := S.hid (And.intro hN hDe)
  clear hN hDe
  have hri := (ri_is n hp).1
  rw [← HQ.out.1] at hri
  have hcell : ∀ W', Below w.heap.size w W' → (fun w' : World => w'.cell? ⟨bx, 0, none⟩ = some (.slice pe N ce)) W' := fun W' k => S.cell_of W' bx 0 _ 78 _ (EVb H.out.x k).blk rfl
  have HCL := S.hid hcell
  have s0 := hcell _ (HB2.out.drew)
  have kr := rrow_at n (by omega) hn64 w2.drew
  unfold rowN rowV at kr
  rw [hri] at kr
  have HBd := S.hid HB2.out.drew
  clear hri hcell hCX
  go_upto_region 7 with fail
  try simp only [Act.put, List.getElem_toArray, List.getElem_cons_zero, List.getElem_cons_succ, List.setIfInBounds_toArray, List.set_cons_zero, List.set_cons_succ]
  refine wp_region_held_drew (S := (fun w' : World => w'.cell? ⟨bx, 0, none⟩ = some (.slice pe N ce))) (by kernel_rfl) s0 (fun hHeld => ?_)
  clear s0
  refine wpAnyH_take (i := 0) (v := ?_) rfl (by kernel_rfl) (by kernel_rfl) (by kernel_rfl) (fun c a w h => h) (Or.inl ⟨by rfl, ?_⟩) hHeld ?_
  rotate_left
  · (intro w hSw; (try dsimp only at hSw); go_simp; try with_reducible rfl)
  simp only [Act.put, List.getElem_toArray, List.getElem_cons_zero, List.getElem_cons_succ, List.setIfInBounds_toArray, List.set_cons_zero, List.set_cons_succ]
  refine wpAnyH_take (i := 1) (v := ?_) rfl (by kernel_rfl) (by kernel_rfl) (by kernel_rfl) (fun c a w h => h) (Or.inl ⟨by rfl, ?_⟩) hHeld ?_
  rotate_left
  · (intro w hSw; (try dsimp only at hSw); go_simp; try with_reducible rfl)
  simp only [Act.put, List.getElem_toArray, List.getElem_cons_zero, List.getElem_cons_succ, List.setIfInBounds_toArray, List.set_cons_zero, List.set_cons_succ]
  refine wpAnyH_take (i := 2) (v := ?_) rfl (by kernel_rfl) (by kernel_rfl) (by kernel_rfl) (fun c a w h => h) (Or.inl ⟨by rfl, ?_⟩) hHeld ?_
  rotate_left
  · (intro w hSw; (try dsimp only at hSw); go_simp; try with_reducible rfl)
  simp only [Act.put, List.getElem_toArray, List.getElem_cons_zero, List.getElem_cons_succ, List.setIfInBounds_toArray, List.set_cons_zero, List.set_cons_succ]
  refine wpAnyH_take (i := 3) (v := ?_) rfl (by kernel_rfl) (by kernel_rfl) (by kernel_rfl) (fun c a w h => h) (Or.inl ⟨by rfl, ?_⟩) hHeld ?_
  rotate_left
  · (intro w hSw; (try dsimp only at hSw); go_simp; try with_reducible rfl)
  simp only [Act.put, List.getElem_toArray, List.getElem_cons_zero, List.getElem_cons_succ, List.setIfInBounds_toArray, List.set_cons_zero, List.set_cons_succ]
  refine wpAnyH_take (i := 4) (v := ?_) rfl (by kernel_rfl) (by kernel_rfl) (by kernel_rfl) (fun c a w h => h) (Or.inl ⟨by rfl, ?_⟩) hHeld ?_
  rotate_left
  · (intro w hSw; (try dsimp only at hSw); go_simp; try with_reducible rfl)
  simp only [Act.put, List.getElem_toArray, List.getElem_cons_zero, List.getElem_cons_succ, List.setIfInBounds_toArray, List.set_cons_zero, List.set_cons_succ]
  refine wpAnyH_take (i := 5) (v := ?_) rfl (by kernel_rfl) (by kernel_rfl) (by kernel_rfl) (fun c a w h => h) (Or.inl ⟨by rfl, ?_⟩) hHeld ?_
  rotate_left
  · (intro w hSw; (try dsimp only at hSw); go_simp; try with_reducible rfl)
  simp only [Act.put, List.getElem_toArray, List.getElem_cons_zero, List.getElem_cons_succ, List.setIfInBounds_toArray, List.set_cons_zero, List.set_cons_succ]
  refine wpAnyH_ready (rs := [6]) (by kernel_rfl) (by simp) ?_
  refine AllReadyH.cons rfl (fun K hK => ?_) AllReadyH.nil
  go_simp
  refine kr.mono ?_
  rintro e w3 ⟨rfl, hb3⟩
  have HB3 := S.hid (HBd.out.trans (hb3.mono HBd.out.size))
  have s3 := HCL.out w3 HB3.out
  clear kr hb3 HBd HB2
  refine hK.out _ _ s3 (fun hHeld => ?_)
  clear hK K
  try simp only [Act.put, List.getElem_toArray, List.getElem_cons_zero, List.getElem_cons_succ, List.setIfInBounds_toArray, List.set_cons_zero, List.set_cons_succ]
  refine wpAnyH_take (i := 7) (v := ?_) rfl (by kernel_rfl) (by kernel_rfl) (by kernel_rfl) (fun c a w h => h) (Or.inl ⟨by rfl, ?_⟩) hHeld ?_
  rotate_left
  · (intro w hSw; (try dsimp only at hSw); go_simp; try with_reducible rfl)
  simp only [Act.put, List.getElem_toArray, List.getElem_cons_zero, List.getElem_cons_succ, List.setIfInBounds_toArray, List.set_cons_zero, List.set_cons_succ]
  refine wpAnyH_take (i := 8) (v := ?_) rfl (by kernel_rfl) (by kernel_rfl) (by kernel_rfl) (fun c a w h => h) (Or.inl ⟨by rfl, ?_⟩) hHeld ?_
  rotate_left
  · (intro w hSw; (try dsimp only at hSw); go_simp; try with_reducible rfl)
  simp only [Act.put, List.getElem_toArray, List.getElem_cons_zero, List.getElem_cons_succ, List.setIfInBounds_toArray, List.set_cons_zero, List.set_cons_succ]
  refine wpAnyH_ready (rs := [9]) (by kernel_rfl) (by simp) ?_
  refine AllReadyH.cons rfl (fun K hK => ?_) AllReadyH.nil
  go_simp
  refine hK.out _ _ s3 (fun hHeld => ?_)
  clear hK K
  refine wpAnyH_done (by kernel_rfl) ?_ _
  clear hHeld
  try simp only [Act.put, List.getElem_toArray, List.getElem_cons_zero, List.getElem_cons_succ, List.setIfInBounds_toArray, List.set_cons_zero, List.set_cons_succ]
  have hr0 := S.own_empty w3 31 1
  have hb0 : Below w3.heap.size w3 (w3.alloc (.cells #[] 31)) := (Below.refl _ _).alloc (Nat.le_refl _) _
  have hB0 : Below w.heap.size w (w3.alloc (.cells #[] 31)) := HB3.out.trans (hb0.mono HB3.out.size)
  obtain ⟨vx, hvx⟩ : ∃ vx, vx = Value.slice (if ce = Q.length then pe else pe.map (·.add Q.length)) X.length (ce - Q.length) := ⟨_, rfl⟩
  have hsl : ∀ W, (Instr.sliceAt 22 (.slice pe N ce) (some (.int .i64 (Q.length : Int))) none none).run Tryz.prog W = .ok vx W := fun W => by
    rw [slice_fromU W pe N ce Q.length (by have := HDE.out.2; omega), hvx, show N - Q.length = X.length by have := HDE.out.2; omega]
  have hst : ∀ W, (Instr.sliceAt 22 (.slice pe N ce) none (some (.int .i64 (Q.length : Int))) none).run Tryz.prog W = .ok (.slice pe Q.length ce) W := fun W => slice_toU W pe N ce Q.length (by
    obtain ⟨p', c', e, hcap, _⟩ := H.out.x.row.ls.ex
    injection e with e1 e2 e3
    have := HDE.out
    omega)
  have hs0 : S.Cs (w3.alloc (.cells #[] 31)) vx 1 X.length (S.en S.eU X) := by rw [hvx]; exact (ls_from (H.out.x.row.ls.below hB0)).cs S.hU (by omega) S.oneU
  have c1 := HCL.out _ hB0
  clear hvx s3
  go_wp2_with (first | (at_builtin; refine S.wpList_append_row _ rfl _ _ 22 31 _ 1 2 Tryz.underlying22 S.info32 rfl (by decide) rfl w3.heap.size _ 0 [] rfl hr0 _ X.length (S.en S.eU X) rfl hs0 (by unfold S.room; omega) (by unfold maxLen; omega) hb0.size ?_))
  intro v1 w4 hr1 hg1
  have hb1 : Below w3.heap.size w3 w4 := hg1.belowAll (fun g e => (hr0.lt g e).1) hb0 (Nat.le_refl _)
  replace hr1 : w4.ownsRow w3.heap.size 31 1 v1 X.length (S.en S.eU X) := by simpa using hr1
  obtain ⟨px, cx, rfl⟩ := S.ex_slice hr1
  have HR1 := S.hid (show S.RowU w4 w3.heap.size (.slice px X.length cx) X from hr1)
  have HB4 := S.hid hb1
  have hB4 : Below w.heap.size w w4 := HB3.out.trans (hb1.mono HB3.out.size)
  clear hr0 hs0 hg1 hb0 hb1 hr1 hB0 hsl c1
  have hr0 := S.own_empty w4 31 1
  have hb0 : Below w4.heap.size w4 (w4.alloc (.cells #[] 31)) := (Below.refl _ _).alloc (Nat.le_refl _) _
  have hB0 : Below w.heap.size w (w4.alloc (.cells #[] 31)) := hB4.trans (hb0.mono hB4.size)
  have hs0 : S.Cs (w4.alloc (.cells #[] 31)) (.slice pe Q.length ce) 1 Q.length (S.en S.eU Q) := (ls_to (H.out.x.row.ls.below hB0)).cs S.hU (by omega) S.oneU
  have c1 := HCL.out _ hB0
  have HHB4 := S.hid hB4
  clear hB4 hB0
  go_wp2_with (first | (at_builtin; refine S.wpList_append_row _ rfl _ _ 22 31 _ 1 2 Tryz.underlying22 S.info32 rfl (by decide) rfl w4.heap.size _ 0 [] rfl hr0 _ Q.length (S.en S.eU Q) rfl hs0 (by unfold S.room; omega) (by unfold maxLen; omega) hb0.size ?_))
  intro v2 w5 hr2 hg2
  have hb5 : Below w4.heap.size w4 w5 := hg2.belowAll (fun g e => (hr0.lt g e).1) hb0 (Nat.le_refl _)
  replace hr2 : w5.ownsRow w4.heap.size 31 1 v2 Q.length (S.en S.eU Q) := by simpa using hr2
  obtain ⟨pr, cr, rfl⟩ := S.ex_slice hr2
  have hbx := S.lt_of H.out.x.blk
  have hbq := S.lt_of H.out.y.blk
  have hB5 : Below w.heap.size w w5 := HHB4.out.trans (hb5.mono HHB4.out.size)
  have hk5 := (EVb H.out.x hB5).blk
  have c5 := S.cell_of w5 bx 0 _ 78 _ hk5 rfl
  have z5 := S.frozen_of w5 bx 0 _ 78 hk5
  have hTK : TK w (w5.setCell ⟨bx, 0, none⟩ (.slice pr Q.length cr)) B bx bq bz G (.slice pe N ce) qv Q X R m px cx w3.heap.size := by
    have h34 := HB4.out.size
    have hw3 := HB3.out.size
    have so : ∀ i, i ≠ bx → (w5.setCell ⟨bx, 0, none⟩ (.slice pr Q.length cr)).heap[i]? = w5.heap[i]? := fun i hi => S.setCell_other _ _ _ _ _ hi
    have hne := xq_ne H.out.x H.out.y
    refine ⟨⟨.slice pr Q.length cr, ⟨by rw [S.setCell_heap w5 bx 0 _ 78 _ hk5]; rfl, S.own_mono (S.own_kept (show S.RowU w5 w4.heap.size (.slice pr Q.length cr) Q from hr2) fun g e _ => so g (by have := (hr2.lt g e).1; omega)) (by have := H.out.x.hb; omega), H.out.x.hb, by omega⟩, fun g e => by have := (hr2.lt g e).1; omega⟩, QVk (QVb H.out.y hB5) fun i hi e => so i (by rcases e with rfl | e; exact hne.1.symm; exact (hne.2.2 i e).1), (H.out.z.below hB5).kept fun i hi e => so i fun f => H.out.nx (f ▸ e), S.own_kept (S.own_kept HR1.out fun g e hg => hb5.block g hg) fun g e _ => so g (by have := (HR1.out.lt g e).1; omega), (S.atB bx hB5).setCell bx 0 rfl _, hw3, (by rw [(show (w5.setCell ⟨bx, 0, none⟩ (.slice pr Q.length cr)).heap.size = w5.heap.size from by simp)]; have := hb5.size; omega), H.out.nx, H.out.nq, H.out.nqv, H.out.gl, hbx, hbq⟩
  have HTK := S.hid hTK
  clear hr0 hs0 hg2 hb0 hb5 hr2 c1 hst hTK hk5 hB5 HR1 HB4 HHB4 HB3 HCL H HC y1 y2 fp
  go_upto_region 11 with fail
  try simp only [Act.put, List.getElem_toArray, List.getElem_cons_zero, List.getElem_cons_succ, List.setIfInBounds_toArray, List.set_cons_zero, List.set_cons_succ]
  generalize (w5.setCell ⟨bx, 0, none⟩ (.slice pr Q.length cr)) = W5 at *
  clear c5 z5 hbx hbq
  by_cases hA : 12 ≤ n ∧ n ≤ 20
  case pos =>
    as_aux_lemma =>
      have g0 : decide ((12 : Int) ≤ (n : Int)) = true := decide_eq_true (by omega)
      have g1 : decide ((n : Int) ≤ 20) = true := decide_eq_true (by omega)
      have kg := shuf_any n (by omega) (by omega) X HQ.out.1 px cx _ (lk (rw_ (n : Int)).k (rw_ (n : Int)).bl R).1 m W5 HTK.out.row
      go_wp2_with fail
      refine kg.mono ?_
      rintro e w6 ⟨v, rfl, hls, hb6⟩
      have HB6 := S.hid hb6
      clear kg hb6
      obtain ⟨ev6, hx6, h06⟩ := HTK.out.evS HB6.out
      have hol : Q.length + (putN (n : Int) (xg X 0) (xg X 1) (xg X 2) (lk (rw_ (n : Int)).k (rw_ (n : Int)).bl R).1 m).length ≤ 256 := by rw [put_len (n : Int) hp]; exact HQ.out.2.1
      have kq := S.epush_at bx B ev6 Q (putN (n : Int) (xg X 0) (xg X 1) (xg X 2) (lk (rw_ (n : Int)).k (rw_ (n : Int)).bl R).1 m) v w6 hx6 hls hol
      obtain ⟨pv, cv, hv, _, _⟩ := hls.ex
      subst hv
      have H06 := S.hid h06
      clear hx6 hls h06 hol
      go_wp2_with fail
      refine kq.mono ?_
      rintro e w7 ⟨rfl, ⟨ev7, hx7, hn7⟩, ha7⟩
      have HF := S.hid (And.intro hx7 (And.intro hn7 ha7))
      clear kq hx7 hn7 ha7
      go_wp2
      go_ret
      refine ⟨(by rw [HE.out.1] <;> rfl), ?_⟩
      rw [HE.out.2.1, HE.out.2.2.1, HE.out.2.2.2]
      rw [retN_id n (by omega), memN_id n (by omega)]
      exact HTK.out.endS HB6.out H06.out HF.out.1 HF.out.2.1 HF.out.2.2
  by_cases h6 : n = 6
  case pos =>
    as_aux_lemma =>
      subst h6
      have kg := ret_any 6 (by omega) X HQ.out.1 px cx _ bq B qv R m HQ.out.2.2.1 HQ.out.2.2.2 W5 HTK.out.row HTK.out.y (Nat.lt_of_lt_of_le HTK.out.bql HTK.out.lo1)
      have kg6 : Calls Tryz.prog 57 #[.int .i64 6, .slice px X.length cx, .pointer (some ⟨bq, 0, none⟩)] W5 _ := kg
      clear kg
      go_wp2_with fail
      refine kg6.mono ?_
      rintro e w6 ⟨v, qv6, rfl, hls, hq6, hnq6, ha6⟩
      have HB6 := S.hid (And.intro ha6 (And.intro hq6 hnq6))
      clear kg6 hq6 hnq6 ha6
      obtain ⟨ev6, hx6, h06⟩ := HTK.out.evR HB6.out.1
      have hol : Q.length + (putN ((6 : Nat) : Int) (xg X 0) (xg X 1) (xg X 2) (lk (rw_ ((6 : Nat) : Int)).k (rw_ ((6 : Nat) : Int)).bl R).1 m).length ≤ 256 := by rw [put_len ((6 : Nat) : Int) hp]; exact HQ.out.2.1
      have kq := S.epush_at bx B ev6 Q (putN ((6 : Nat) : Int) (xg X 0) (xg X 1) (xg X 2) (lk (rw_ ((6 : Nat) : Int)).k (rw_ ((6 : Nat) : Int)).bl R).1 m) v w6 hx6 hls hol
      obtain ⟨pv, cv, hv, _, _⟩ := hls.ex
      subst hv
      have H06 := S.hid h06
      clear hx6 hls h06 hol
      go_wp2_with fail
      refine kq.mono ?_
      rintro e w7 ⟨rfl, ⟨ev7, hx7, hn7⟩, ha7⟩
      have HF := S.hid (And.intro hx7 (And.intro hn7 ha7))
      clear kq hx7 hn7 ha7
      go_wp2
      go_ret
      refine ⟨(by rw [HE.out.1] <;> rfl), ?_⟩
      rw [HE.out.2.1, HE.out.2.2.1, HE.out.2.2.2]
      rw [memN_id 6 (by omega)]
      exact HTK.out.endR HB6.out.1 HB6.out.2.1 HB6.out.2.2 H06.out HF.out.1 HF.out.2.1 HF.out.2.2
  by_cases h55 : 55 ≤ n ∧ n ≤ 59
  case pos =>
    as_aux_lemma =>
      have g0 : decide ((12 : Int) ≤ (n : Int)) = true := decide_eq_true (by omega)
      have g1 : decide ((n : Int) ≤ 20) = false := decide_eq_false (by omega)
      have g2 : ((n : Int) == 6) = false := beq_eq_false_iff_ne.mpr (by omega)
      have g3 : decide ((55 : Int) ≤ (n : Int)) = true := decide_eq_true (by omega)
      have g4 : decide ((n : Int) ≤ 59) = true := decide_eq_true (by omega)
      have kg := ret_any n (by omega) X HQ.out.1 px cx _ bq B qv R m HQ.out.2.2.1 HQ.out.2.2.2 W5 HTK.out.row HTK.out.y (Nat.lt_of_lt_of_le HTK.out.bql HTK.out.lo1)
      go_wp2_with fail
      refine kg.mono ?_
      rintro e w6 ⟨v, qv6, rfl, hls, hq6, hnq6, ha6⟩
      have HB6 := S.hid (And.intro ha6 (And.intro hq6 hnq6))
      clear kg hq6 hnq6 ha6
      obtain ⟨ev6, hx6, h06⟩ := HTK.out.evR HB6.out.1
      have hol : Q.length + (putN (n : Int) (xg X 0) (xg X 1) (xg X 2) (lk (rw_ (n : Int)).k (rw_ (n : Int)).bl R).1 m).length ≤ 256 := by rw [put_len (n : Int) hp]; exact HQ.out.2.1
      have kq := S.epush_at bx B ev6 Q (putN (n : Int) (xg X 0) (xg X 1) (xg X 2) (lk (rw_ (n : Int)).k (rw_ (n : Int)).bl R).1 m) v w6 hx6 hls hol
      obtain ⟨pv, cv, hv, _, _⟩ := hls.ex
      subst hv
      have H06 := S.hid h06
      clear hx6 hls h06 hol
      go_wp2_with fail
      refine kq.mono ?_
      rintro e w7 ⟨rfl, ⟨ev7, hx7, hn7⟩, ha7⟩
      have HF := S.hid (And.intro hx7 (And.intro hn7 ha7))
      clear kq hx7 hn7 ha7
      go_wp2
      go_ret
      refine ⟨(by rw [HE.out.1] <;> rfl), ?_⟩
      rw [HE.out.2.1, HE.out.2.2.1, HE.out.2.2.2]
      rw [memN_id n (by omega)]
      exact HTK.out.endR HB6.out.1 HB6.out.2.1 HB6.out.2.2 H06.out HF.out.1 HF.out.2.1 HF.out.2.2
  by_cases h60 : 60 ≤ n
  case pos =>
    as_aux_lemma =>
      have g0 : decide ((12 : Int) ≤ (n : Int)) = true := decide_eq_true (by omega)
      have g1 : decide ((n : Int) ≤ 20) = false := decide_eq_false (by omega)
      have g2 : ((n : Int) == 6) = false := beq_eq_false_iff_ne.mpr (by omega)
      have g3 : decide ((55 : Int) ≤ (n : Int)) = true := decide_eq_true (by omega)
      have g4 : decide ((n : Int) ≤ 59) = false := decide_eq_false (by omega)
      have g5 : decide ((50 : Int) ≤ (n : Int)) = true := decide_eq_true (by omega)
      have kg := mem_any n (by omega) (by omega) (by omega) X HCX.out HQ.out.1 px cx _ (lk (rw_ (n : Int)).k (rw_ (n : Int)).bl R).1 bz W5 HTK.out.row HTK.out.nG HTK.out.z ht
      go_wp2_with fail
      refine kg.mono ?_
      rintro e w6 ⟨v, rfl, hls, hd6⟩
      have HB6 := S.hid hd6
      clear kg hd6
      obtain ⟨ev6, hx6, h06⟩ := HTK.out.evM HB6.out
      have hol : Q.length + (putN (n : Int) (xg X 0) (xg X 1) (xg X 2) (lk (rw_ (n : Int)).k (rw_ (n : Int)).bl R).1 m).length ≤ 256 := by rw [put_len (n : Int) hp]; exact HQ.out.2.1
      have kq := S.epush_at bx B ev6 Q (putN (n : Int) (xg X 0) (xg X 1) (xg X 2) (lk (rw_ (n : Int)).k (rw_ (n : Int)).bl R).1 m) v w6 hx6 hls hol
      obtain ⟨pv, cv, hv, _, _⟩ := hls.ex
      subst hv
      have H06 := S.hid h06
      clear hx6 hls h06 hol
      go_wp2_with fail
      refine kq.mono ?_
      rintro e w7 ⟨rfl, ⟨ev7, hx7, hn7⟩, ha7⟩
      have HF := S.hid (And.intro hx7 (And.intro hn7 ha7))
      clear kq hx7 hn7 ha7
      go_wp2
      go_ret
      refine ⟨(by rw [HE.out.1] <;> rfl), ?_⟩
      rw [HE.out.2.1, HE.out.2.2.1, HE.out.2.2.2]
      rw [retN_id n (by omega)]
      exact HTK.out.endM HB6.out H06.out HF.out.1 HF.out.2.1 HF.out.2.2
  by_cases h50 : 50 ≤ n
  case pos =>
    as_aux_lemma =>
      have g0 : decide ((12 : Int) ≤ (n : Int)) = true := decide_eq_true (by omega)
      have g1 : decide ((n : Int) ≤ 20) = false := decide_eq_false (by omega)
      have g2 : ((n : Int) == 6) = false := beq_eq_false_iff_ne.mpr (by omega)
      have g3 : decide ((55 : Int) ≤ (n : Int)) = false := decide_eq_false (by omega)
      have g4 : decide ((50 : Int) ≤ (n : Int)) = true := decide_eq_true (by omega)
      have kg := mem_any n (by omega) (by omega) (by omega) X HCX.out HQ.out.1 px cx _ (lk (rw_ (n : Int)).k (rw_ (n : Int)).bl R).1 bz W5 HTK.out.row HTK.out.nG HTK.out.z ht
      go_wp2_with fail
      refine kg.mono ?_
      rintro e w6 ⟨v, rfl, hls, hd6⟩
      have HB6 := S.hid hd6
      clear kg hd6
      obtain ⟨ev6, hx6, h06⟩ := HTK.out.evM HB6.out
      have hol : Q.length + (putN (n : Int) (xg X 0) (xg X 1) (xg X 2) (lk (rw_ (n : Int)).k (rw_ (n : Int)).bl R).1 m).length ≤ 256 := by rw [put_len (n : Int) hp]; exact HQ.out.2.1
      have kq := S.epush_at bx B ev6 Q (putN (n : Int) (xg X 0) (xg X 1) (xg X 2) (lk (rw_ (n : Int)).k (rw_ (n : Int)).bl R).1 m) v w6 hx6 hls hol
      obtain ⟨pv, cv, hv, _, _⟩ := hls.ex
      subst hv
      have H06 := S.hid h06
      clear hx6 hls h06 hol
      go_wp2_with fail
      refine kq.mono ?_
      rintro e w7 ⟨rfl, ⟨ev7, hx7, hn7⟩, ha7⟩
      have HF := S.hid (And.intro hx7 (And.intro hn7 ha7))
      clear kq hx7 hn7 ha7
      go_wp2
      go_ret
      refine ⟨(by rw [HE.out.1] <;> rfl), ?_⟩
      rw [HE.out.2.1, HE.out.2.2.1, HE.out.2.2.2]
      rw [retN_id n (by omega)]
      exact HTK.out.endM HB6.out H06.out HF.out.1 HF.out.2.1 HF.out.2.2
  by_cases h9 : n = 9
  case pos =>
    as_aux_lemma =>
      subst h9
      obtain ⟨ev6, hx6, h06⟩ := HTK.out.evS (Below.refl _ W5)
      have kq := S.epush_at bx B ev6 Q [] (.slice none 0 0) _ hx6 (nil_ls _) (by have := HQ.out.2.1; simp; omega)
      have H06 := S.hid h06
      clear hx6 h06
      go_wp2_with fail
      refine kq.mono ?_
      rintro e w7 ⟨rfl, ⟨ev7, hx7, hn7⟩, ha7⟩
      have HF := S.hid (And.intro hx7 (And.intro hn7 ha7))
      clear kq hx7 hn7 ha7
      go_wp2
      go_ret
      refine ⟨(by rw [HE.out.1] <;> rfl), ?_⟩
      rw [HE.out.2.1, HE.out.2.2.1, HE.out.2.2.2]
      exact HTK.out.endS (O := []) (Below.refl _ W5) H06.out HF.out.1 HF.out.2.1 HF.out.2.2
  have h21 : 21 ≤ n := by
    unfold plain at hp; simp at hp; omega
  by_cases hu : C.isUn (n : Int) = true
  case pos =>
    as_aux_lemma =>
      have g0 : decide ((12 : Int) ≤ (n : Int)) = true := decide_eq_true (by omega)
      have g1 : decide ((n : Int) ≤ 20) = false := decide_eq_false (by omega)
      have g2 : ((n : Int) == 6) = false := beq_eq_false_iff_ne.mpr (by omega)
      have g3 : decide ((55 : Int) ≤ (n : Int)) = false := decide_eq_false (by omega)
      have g4 : decide ((50 : Int) ≤ (n : Int)) = false := decide_eq_false (by omega)
      have g5 : decide ((20 : Int) < (n : Int)) = true := decide_eq_true (by omega)
      obtain ⟨hpu, hii⟩ := un_put hu (xg X 0) (xg X 1) (xg X 2) (lk (rw_ (n : Int)).k (rw_ (n : Int)).bl R).1 m
      have hX1 : X.length = 1 := HQ.out.1.trans hii
      obtain ⟨g, rfl, _, hcx, hj⟩ := xcell HTK.out.row (by omega)
      have hx0 := hj 0 (by omega)
      rw [hX1] at hcx ⊢
      have kg := C.runary_any (n : Int) (xg X 0) (xg_C HCX.out 0) W5
      generalize hxx : C.un (n : Int) (xg X 0) = xx at *
      have HPU := S.hid hpu
      have H1 := S.hid hX1
      clear hpu hii hj hX1
      go_wp2_with fail
      refine kg.mono ?_
      rintro e w5b ⟨rfl, hw5b⟩
      subst hw5b
      clear kg
      have hb6 : Below w5b.heap.size w5b (w5b.alloc (.cells #[.int .u16 xx] 31)) := (Below.refl _ _).alloc (Nat.le_refl _) _
      have HB6 := S.hid hb6
      obtain ⟨ev6, hx6, h06⟩ := HTK.out.evS hb6
      have hol : Q.length + [xx].length ≤ 256 := by
        have := put_len (n : Int) hp (xg X 0) (xg X 1) (xg X 2) (lk (rw_ (n : Int)).k (rw_ (n : Int)).bl R).1 m
        rw [HPU.out] at this
        rw [this]; exact HQ.out.2.1
      have kq := S.epush_at bx B ev6 Q [xx] (.slice (some ⟨w5b.heap.size, 0, none⟩) 1 1) _ hx6 (one_ls _ xx) hol
      have H06 := S.hid h06
      clear hb6 hx6 h06 hol
      go_wp2_with fail
      refine kq.mono ?_
      rintro e w7 ⟨rfl, ⟨ev7, hx7, hn7⟩, ha7⟩
      have HF := S.hid (And.intro hx7 (And.intro hn7 ha7))
      clear kq hx7 hn7 ha7
      go_wp2
      go_ret
      refine ⟨(by rw [HE.out.1] <;> rfl), ?_⟩
      rw [HE.out.2.1, HE.out.2.2.1, HE.out.2.2.2, retN_id n (by omega), memN_id n (by omega), HPU.out]
      exact HTK.out.endS HB6.out H06.out HF.out.1 HF.out.2.1 HF.out.2.2
  have hu' : C.isUn (n : Int) = false := by simpa using hu
  as_aux_lemma =>
    have g0 : decide ((12 : Int) ≤ (n : Int)) = true := decide_eq_true (by omega)
    have g1 : decide ((n : Int) ≤ 20) = false := decide_eq_false (by omega)
    have g2 : ((n : Int) == 6) = false := beq_eq_false_iff_ne.mpr (by omega)
    have g3 : decide ((55 : Int) ≤ (n : Int)) = false := decide_eq_false (by omega)
    have g4 : decide ((50 : Int) ≤ (n : Int)) = false := decide_eq_false (by omega)
    have g5 : decide ((20 : Int) < (n : Int)) = true := decide_eq_true (by omega)
    obtain ⟨hpu, hii⟩ := bi_put hp (by omega) (by omega) hu' (xg X 0) (xg X 1) (xg X 2) (lk (rw_ (n : Int)).k (rw_ (n : Int)).bl R).1 m
    have hX1 : X.length = 2 := HQ.out.1.trans hii
    obtain ⟨g, rfl, _, hcx, hj⟩ := xcell HTK.out.row (by omega)
    have hx0 := hj 0 (by omega)
    have hx1 := hj 1 (by omega)
    rw [hX1] at hcx ⊢
    have kg := C.rbinary_any (n : Int) (xg X 0) (xg X 1) (xg_C HCX.out 0) (xg_C HCX.out 1) W5.drew
    generalize hxx : C.bi (n : Int) (xg X 0) (xg X 1) = xx at *
    have HPU := S.hid hpu
    have H1 := S.hid hX1
    clear hpu hii hj hX1
    go_upto_region 21 with fail
    try simp only [Act.put, List.getElem_toArray, List.getElem_cons_zero, List.getElem_cons_succ, List.setIfInBounds_toArray, List.set_cons_zero, List.set_cons_succ]
    go_region_held (fun w' : World => w'.cell? ⟨g, 0, none⟩ = some (.int .u16 (xg X 0)) ∧ w'.cell? ⟨g, 1, none⟩ = some (.int .u16 (xg X 1)))
      (first | exact ⟨hx0, hx1⟩)
      (first | (go_at_call 60; refine kg.mono ?_; rintro e w5b ⟨rfl, rfl⟩))
    have hb6 : Below W5.heap.size W5 (W5.drew.alloc (.cells #[.int .u16 xx] 31)) := bda _ _
    have HB6 := S.hid hb6
    obtain ⟨ev6, hx6, h06⟩ := HTK.out.evS hb6
    have hol : Q.length + [xx].length ≤ 256 := by
      have := put_len (n : Int) hp (xg X 0) (xg X 1) (xg X 2) (lk (rw_ (n : Int)).k (rw_ (n : Int)).bl R).1 m
      rw [HPU.out] at this
      rw [this]; exact HQ.out.2.1
    have kq := S.epush_at bx B ev6 Q [xx] (.slice (some ⟨W5.drew.heap.size, 0, none⟩) 1 1) _ hx6 (one_ls _ xx) hol
    have H06 := S.hid h06
    clear hb6 hx6 h06 hol
    go_wp2_with fail
    refine kq.mono ?_
    rintro e w7 ⟨rfl, ⟨ev7, hx7, hn7⟩, ha7⟩
    have HF := S.hid (And.intro hx7 (And.intro hn7 ha7))
    clear kq hx7 hn7 ha7
    go_wp2
    go_ret
    refine ⟨(by rw [HE.out.1] <;> rfl), ?_⟩
    rw [HE.out.2.1, HE.out.2.2.1, HE.out.2.2.2, retN_id n (by omega), memN_id n (by omega), HPU.out]
    exact HTK.out.endS HB6.out H06.out HF.out.1 HF.out.2.1 HF.out.2.2
end Go.Proofs.YtgponcjjnjpfkabGreat.L
