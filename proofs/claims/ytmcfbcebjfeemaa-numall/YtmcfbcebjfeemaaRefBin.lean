import Derived.Test.YtmcfbcebjfeemaaRefUn
namespace Go.Proofs.Ytmcfbcebjfeemaa
open Go.RowKit

set_option maxHeartbeats 400000 in
theorem rbin_21 (x y : Int) (hx : C x) (hy : C y) (w : World) :
    Calls Try.prog 20 #[.int .i64 21, .int .u16 x, .int .u16 y] w fun e w' => e = .returned (.tuple #[.int .u16 (bi 21 x y), .bool true]) ∧ w' = w := by
  have hs := sg_range hx
  have ht := sg_range hy
  have kx := hx
  have ky := hy
  unfold C at kx ky
  go_enter Try.func20, Try.ntmps20
  go_wp2_with (first | (go_at_call 15; refine (rsigned_any _ ?_ _).mono ?_; rotate_left 1; rintro e w' ⟨rfl, rfl⟩; rotate_left 1; (first | exact hx | exact hy)) | (go_at_call 16; refine (rcell_any _ _).mono ?_; rintro e w' ⟨rfl, rfl⟩) | (go_at_call 18; refine (rflag_any _ _).mono ?_; rintro e w' ⟨rfl, rfl⟩) | (go_at_call 24; refine (half_any _ (by omega) _).mono ?_; rintro e w' ⟨rfl, rfl⟩) | (go_at_call 30; refine (rquot_any _ _ (by omega) (by omega) (by assumption) _).mono ?_; rintro e w' ⟨rfl, rfl⟩) | (go_at_call 27; refine (power_any _ (by omega) (by omega) _).mono ?_; rintro e w' ⟨rfl, rfl⟩))
  go_ret2
  exact ⟨ret_ib (rb_21 x y) rfl, rfl⟩
set_option maxHeartbeats 400000 in
theorem rbin_22 (x y : Int) (hx : C x) (hy : C y) (w : World) :
    Calls Try.prog 20 #[.int .i64 22, .int .u16 x, .int .u16 y] w fun e w' => e = .returned (.tuple #[.int .u16 (bi 22 x y), .bool true]) ∧ w' = w := by
  have hs := sg_range hx
  have ht := sg_range hy
  have kx := hx
  have ky := hy
  unfold C at kx ky
  go_enter Try.func20, Try.ntmps20
  go_wp2_with (first | (go_at_call 15; refine (rsigned_any _ ?_ _).mono ?_; rotate_left 1; rintro e w' ⟨rfl, rfl⟩; rotate_left 1; (first | exact hx | exact hy)) | (go_at_call 16; refine (rcell_any _ _).mono ?_; rintro e w' ⟨rfl, rfl⟩) | (go_at_call 18; refine (rflag_any _ _).mono ?_; rintro e w' ⟨rfl, rfl⟩) | (go_at_call 24; refine (half_any _ (by omega) _).mono ?_; rintro e w' ⟨rfl, rfl⟩) | (go_at_call 30; refine (rquot_any _ _ (by omega) (by omega) (by assumption) _).mono ?_; rintro e w' ⟨rfl, rfl⟩) | (go_at_call 27; refine (power_any _ (by omega) (by omega) _).mono ?_; rintro e w' ⟨rfl, rfl⟩))
  go_ret2
  exact ⟨ret_ib (rb_22 x y) rfl, rfl⟩
set_option maxHeartbeats 400000 in
theorem rbin_23 (x y : Int) (hx : C x) (hy : C y) (w : World) :
    Calls Try.prog 20 #[.int .i64 23, .int .u16 x, .int .u16 y] w fun e w' => e = .returned (.tuple #[.int .u16 (bi 23 x y), .bool true]) ∧ w' = w := by
  have hs := sg_range hx
  have ht := sg_range hy
  have kx := hx
  have ky := hy
  unfold C at kx ky
  have hm := mul_range x y (by omega) (by omega)
  go_enter Try.func20, Try.ntmps20
  go_wp2_with (first | (go_at_call 15; refine (rsigned_any _ ?_ _).mono ?_; rotate_left 1; rintro e w' ⟨rfl, rfl⟩; rotate_left 1; (first | exact hx | exact hy)) | (go_at_call 16; refine (rcell_any _ _).mono ?_; rintro e w' ⟨rfl, rfl⟩) | (go_at_call 18; refine (rflag_any _ _).mono ?_; rintro e w' ⟨rfl, rfl⟩) | (go_at_call 24; refine (half_any _ (by omega) _).mono ?_; rintro e w' ⟨rfl, rfl⟩) | (go_at_call 30; refine (rquot_any _ _ (by omega) (by omega) (by assumption) _).mono ?_; rintro e w' ⟨rfl, rfl⟩) | (go_at_call 27; refine (power_any _ (by omega) (by omega) _).mono ?_; rintro e w' ⟨rfl, rfl⟩))
  go_ret2
  exact ⟨ret_ib (rb_23 x y) rfl, rfl⟩
set_option maxHeartbeats 400000 in
theorem rbin_24z (x : Int) (hx : C x) (w : World) :
    Calls Try.prog 20 #[.int .i64 24, .int .u16 x, .int .u16 0] w fun e w' => e = .returned (.tuple #[.int .u16 (bi 24 x 0), .bool true]) ∧ w' = w := by
  have hy : C 0 := C_lit _ (by decide) (by decide)
  go_enter Try.func20, Try.ntmps20
  go_wp2_with (first | (go_at_call 15; refine (rsigned_any _ ?_ _).mono ?_; rotate_left 1; rintro e w' ⟨rfl, rfl⟩; rotate_left 1; (first | exact hx | exact hy)) | (go_at_call 16; refine (rcell_any _ _).mono ?_; rintro e w' ⟨rfl, rfl⟩) | (go_at_call 18; refine (rflag_any _ _).mono ?_; rintro e w' ⟨rfl, rfl⟩) | (go_at_call 24; refine (half_any _ (by omega) _).mono ?_; rintro e w' ⟨rfl, rfl⟩) | (go_at_call 30; refine (rquot_any _ _ (by omega) (by omega) (by assumption) _).mono ?_; rintro e w' ⟨rfl, rfl⟩) | (go_at_call 27; refine (power_any _ (by omega) (by omega) _).mono ?_; rintro e w' ⟨rfl, rfl⟩))
  go_ret2
  exact ⟨ret_ib (rb_dz 24 x (by decide)) rfl, rfl⟩
set_option maxHeartbeats 400000 in
theorem rbin_24n (x y : Int) (hx : C x) (hy : C y) (h0 : y ≠ 0) (w : World) :
    Calls Try.prog 20 #[.int .i64 24, .int .u16 x, .int .u16 y] w fun e w' => e = .returned (.tuple #[.int .u16 (bi 24 x y), .bool true]) ∧ w' = w := by
  have H0 : Hid (y ≠ 0) := h0
  have b0 : (y == 0) = false := by simpa using h0
  clear h0
  go_enter Try.func20, Try.ntmps20
  go_wp2_with (first | (go_at_call 15; refine (rsigned_any _ ?_ _).mono ?_; rotate_left 1; rintro e w' ⟨rfl, rfl⟩; rotate_left 1; (first | exact hx | exact hy)) | (go_at_call 16; refine (rcell_any _ _).mono ?_; rintro e w' ⟨rfl, rfl⟩) | (go_at_call 18; refine (rflag_any _ _).mono ?_; rintro e w' ⟨rfl, rfl⟩) | (go_at_call 24; refine (half_any _ (by omega) _).mono ?_; rintro e w' ⟨rfl, rfl⟩) | (go_at_call 30; refine (rquot_any _ _ (by omega) (by omega) (by assumption) _).mono ?_; rintro e w' ⟨rfl, rfl⟩) | (go_at_call 27; refine (power_any _ (by omega) (by omega) _).mono ?_; rintro e w' ⟨rfl, rfl⟩) | (go_at_call 25; refine (div_24 _ _ hx hy H0.out _).mono ?_; rintro e w' ⟨rfl, rfl⟩))
  go_ret2
  exact ⟨ret_ib (rfl) rfl, rfl⟩
set_option maxHeartbeats 400000 in
theorem rbin_25z (x : Int) (hx : C x) (w : World) :
    Calls Try.prog 20 #[.int .i64 25, .int .u16 x, .int .u16 0] w fun e w' => e = .returned (.tuple #[.int .u16 (bi 25 x 0), .bool true]) ∧ w' = w := by
  have hy : C 0 := C_lit _ (by decide) (by decide)
  go_enter Try.func20, Try.ntmps20
  go_wp2_with (first | (go_at_call 15; refine (rsigned_any _ ?_ _).mono ?_; rotate_left 1; rintro e w' ⟨rfl, rfl⟩; rotate_left 1; (first | exact hx | exact hy)) | (go_at_call 16; refine (rcell_any _ _).mono ?_; rintro e w' ⟨rfl, rfl⟩) | (go_at_call 18; refine (rflag_any _ _).mono ?_; rintro e w' ⟨rfl, rfl⟩) | (go_at_call 24; refine (half_any _ (by omega) _).mono ?_; rintro e w' ⟨rfl, rfl⟩) | (go_at_call 30; refine (rquot_any _ _ (by omega) (by omega) (by assumption) _).mono ?_; rintro e w' ⟨rfl, rfl⟩) | (go_at_call 27; refine (power_any _ (by omega) (by omega) _).mono ?_; rintro e w' ⟨rfl, rfl⟩))
  go_ret2
  exact ⟨ret_ib (rb_dz 25 x (by decide)) rfl, rfl⟩
set_option maxHeartbeats 400000 in
theorem rbin_25n (x y : Int) (hx : C x) (hy : C y) (h0 : y ≠ 0) (w : World) :
    Calls Try.prog 20 #[.int .i64 25, .int .u16 x, .int .u16 y] w fun e w' => e = .returned (.tuple #[.int .u16 (bi 25 x y), .bool true]) ∧ w' = w := by
  have H0 : Hid (y ≠ 0) := h0
  have b0 : (y == 0) = false := by simpa using h0
  clear h0
  go_enter Try.func20, Try.ntmps20
  go_wp2_with (first | (go_at_call 15; refine (rsigned_any _ ?_ _).mono ?_; rotate_left 1; rintro e w' ⟨rfl, rfl⟩; rotate_left 1; (first | exact hx | exact hy)) | (go_at_call 16; refine (rcell_any _ _).mono ?_; rintro e w' ⟨rfl, rfl⟩) | (go_at_call 18; refine (rflag_any _ _).mono ?_; rintro e w' ⟨rfl, rfl⟩) | (go_at_call 24; refine (half_any _ (by omega) _).mono ?_; rintro e w' ⟨rfl, rfl⟩) | (go_at_call 30; refine (rquot_any _ _ (by omega) (by omega) (by assumption) _).mono ?_; rintro e w' ⟨rfl, rfl⟩) | (go_at_call 27; refine (power_any _ (by omega) (by omega) _).mono ?_; rintro e w' ⟨rfl, rfl⟩) | (go_at_call 25; refine (div_25 _ _ hx hy H0.out _).mono ?_; rintro e w' ⟨rfl, rfl⟩))
  go_ret2
  exact ⟨ret_ib (rfl) rfl, rfl⟩
set_option maxHeartbeats 400000 in
theorem rbin_26z (x : Int) (hx : C x) (w : World) :
    Calls Try.prog 20 #[.int .i64 26, .int .u16 x, .int .u16 0] w fun e w' => e = .returned (.tuple #[.int .u16 (bi 26 x 0), .bool true]) ∧ w' = w := by
  have hy : C 0 := C_lit _ (by decide) (by decide)
  go_enter Try.func20, Try.ntmps20
  go_wp2_with (first | (go_at_call 15; refine (rsigned_any _ ?_ _).mono ?_; rotate_left 1; rintro e w' ⟨rfl, rfl⟩; rotate_left 1; (first | exact hx | exact hy)) | (go_at_call 16; refine (rcell_any _ _).mono ?_; rintro e w' ⟨rfl, rfl⟩) | (go_at_call 18; refine (rflag_any _ _).mono ?_; rintro e w' ⟨rfl, rfl⟩) | (go_at_call 24; refine (half_any _ (by omega) _).mono ?_; rintro e w' ⟨rfl, rfl⟩) | (go_at_call 30; refine (rquot_any _ _ (by omega) (by omega) (by assumption) _).mono ?_; rintro e w' ⟨rfl, rfl⟩) | (go_at_call 27; refine (power_any _ (by omega) (by omega) _).mono ?_; rintro e w' ⟨rfl, rfl⟩))
  go_ret2
  exact ⟨ret_ib (rb_dz 26 x (by decide)) rfl, rfl⟩
set_option maxHeartbeats 400000 in
theorem rbin_26n (x y : Int) (hx : C x) (hy : C y) (h0 : y ≠ 0) (w : World) :
    Calls Try.prog 20 #[.int .i64 26, .int .u16 x, .int .u16 y] w fun e w' => e = .returned (.tuple #[.int .u16 (bi 26 x y), .bool true]) ∧ w' = w := by
  have H0 : Hid (y ≠ 0) := h0
  have b0 : (y == 0) = false := by simpa using h0
  clear h0
  go_enter Try.func20, Try.ntmps20
  go_wp2_with (first | (go_at_call 15; refine (rsigned_any _ ?_ _).mono ?_; rotate_left 1; rintro e w' ⟨rfl, rfl⟩; rotate_left 1; (first | exact hx | exact hy)) | (go_at_call 16; refine (rcell_any _ _).mono ?_; rintro e w' ⟨rfl, rfl⟩) | (go_at_call 18; refine (rflag_any _ _).mono ?_; rintro e w' ⟨rfl, rfl⟩) | (go_at_call 24; refine (half_any _ (by omega) _).mono ?_; rintro e w' ⟨rfl, rfl⟩) | (go_at_call 30; refine (rquot_any _ _ (by omega) (by omega) (by assumption) _).mono ?_; rintro e w' ⟨rfl, rfl⟩) | (go_at_call 27; refine (power_any _ (by omega) (by omega) _).mono ?_; rintro e w' ⟨rfl, rfl⟩) | (go_at_call 25; refine (div_26 _ _ hx hy H0.out _).mono ?_; rintro e w' ⟨rfl, rfl⟩))
  go_ret2
  exact ⟨ret_ib (rfl) rfl, rfl⟩
set_option maxHeartbeats 400000 in
theorem rbin_27z (x : Int) (hx : C x) (w : World) :
    Calls Try.prog 20 #[.int .i64 27, .int .u16 x, .int .u16 0] w fun e w' => e = .returned (.tuple #[.int .u16 (bi 27 x 0), .bool true]) ∧ w' = w := by
  have hy : C 0 := C_lit _ (by decide) (by decide)
  go_enter Try.func20, Try.ntmps20
  go_wp2_with (first | (go_at_call 15; refine (rsigned_any _ ?_ _).mono ?_; rotate_left 1; rintro e w' ⟨rfl, rfl⟩; rotate_left 1; (first | exact hx | exact hy)) | (go_at_call 16; refine (rcell_any _ _).mono ?_; rintro e w' ⟨rfl, rfl⟩) | (go_at_call 18; refine (rflag_any _ _).mono ?_; rintro e w' ⟨rfl, rfl⟩) | (go_at_call 24; refine (half_any _ (by omega) _).mono ?_; rintro e w' ⟨rfl, rfl⟩) | (go_at_call 30; refine (rquot_any _ _ (by omega) (by omega) (by assumption) _).mono ?_; rintro e w' ⟨rfl, rfl⟩) | (go_at_call 27; refine (power_any _ (by omega) (by omega) _).mono ?_; rintro e w' ⟨rfl, rfl⟩))
  go_ret2
  exact ⟨ret_ib (rb_dz 27 x (by decide)) rfl, rfl⟩
set_option maxHeartbeats 400000 in
theorem rbin_27n (x y : Int) (hx : C x) (hy : C y) (h0 : y ≠ 0) (w : World) :
    Calls Try.prog 20 #[.int .i64 27, .int .u16 x, .int .u16 y] w fun e w' => e = .returned (.tuple #[.int .u16 (bi 27 x y), .bool true]) ∧ w' = w := by
  have H0 : Hid (y ≠ 0) := h0
  have b0 : (y == 0) = false := by simpa using h0
  clear h0
  go_enter Try.func20, Try.ntmps20
  go_wp2_with (first | (go_at_call 15; refine (rsigned_any _ ?_ _).mono ?_; rotate_left 1; rintro e w' ⟨rfl, rfl⟩; rotate_left 1; (first | exact hx | exact hy)) | (go_at_call 16; refine (rcell_any _ _).mono ?_; rintro e w' ⟨rfl, rfl⟩) | (go_at_call 18; refine (rflag_any _ _).mono ?_; rintro e w' ⟨rfl, rfl⟩) | (go_at_call 24; refine (half_any _ (by omega) _).mono ?_; rintro e w' ⟨rfl, rfl⟩) | (go_at_call 30; refine (rquot_any _ _ (by omega) (by omega) (by assumption) _).mono ?_; rintro e w' ⟨rfl, rfl⟩) | (go_at_call 27; refine (power_any _ (by omega) (by omega) _).mono ?_; rintro e w' ⟨rfl, rfl⟩) | (go_at_call 25; refine (div_27 _ _ hx hy H0.out _).mono ?_; rintro e w' ⟨rfl, rfl⟩))
  go_ret2
  exact ⟨ret_ib (rfl) rfl, rfl⟩
set_option maxHeartbeats 400000 in
theorem rbin_30l (x y : Int) (hx : C x) (hy : C y) (h : sg x ≤ sg y) (w : World) :
    Calls Try.prog 20 #[.int .i64 30, .int .u16 x, .int .u16 y] w fun e w' => e = .returned (.tuple #[.int .u16 (bi 30 x y), .bool true]) ∧ w' = w := by
  have hs := sg_range hx
  have ht := sg_range hy
  go_enter Try.func20, Try.ntmps20
  go_wp2_with (first | (go_at_call 15; refine (rsigned_any _ ?_ _).mono ?_; rotate_left 1; rintro e w' ⟨rfl, rfl⟩; rotate_left 1; (first | exact hx | exact hy)) | (go_at_call 16; refine (rcell_any _ _).mono ?_; rintro e w' ⟨rfl, rfl⟩) | (go_at_call 18; refine (rflag_any _ _).mono ?_; rintro e w' ⟨rfl, rfl⟩) | (go_at_call 24; refine (half_any _ (by omega) _).mono ?_; rintro e w' ⟨rfl, rfl⟩) | (go_at_call 30; refine (rquot_any _ _ (by omega) (by omega) (by assumption) _).mono ?_; rintro e w' ⟨rfl, rfl⟩) | (go_at_call 27; refine (power_any _ (by omega) (by omega) _).mono ?_; rintro e w' ⟨rfl, rfl⟩))
  go_ret2
  exact ⟨ret_ib (bi_30l x y h) rfl, rfl⟩
set_option maxHeartbeats 400000 in
theorem rbin_30g (x y : Int) (hx : C x) (hy : C y) (h : sg y < sg x) (w : World) :
    Calls Try.prog 20 #[.int .i64 30, .int .u16 x, .int .u16 y] w fun e w' => e = .returned (.tuple #[.int .u16 (bi 30 x y), .bool true]) ∧ w' = w := by
  have hs := sg_range hx
  have ht := sg_range hy
  go_enter Try.func20, Try.ntmps20
  go_wp2_with (first | (go_at_call 15; refine (rsigned_any _ ?_ _).mono ?_; rotate_left 1; rintro e w' ⟨rfl, rfl⟩; rotate_left 1; (first | exact hx | exact hy)) | (go_at_call 16; refine (rcell_any _ _).mono ?_; rintro e w' ⟨rfl, rfl⟩) | (go_at_call 18; refine (rflag_any _ _).mono ?_; rintro e w' ⟨rfl, rfl⟩) | (go_at_call 24; refine (half_any _ (by omega) _).mono ?_; rintro e w' ⟨rfl, rfl⟩) | (go_at_call 30; refine (rquot_any _ _ (by omega) (by omega) (by assumption) _).mono ?_; rintro e w' ⟨rfl, rfl⟩) | (go_at_call 27; refine (power_any _ (by omega) (by omega) _).mono ?_; rintro e w' ⟨rfl, rfl⟩))
  go_ret2
  exact ⟨ret_ib (bi_30g x y h) rfl, rfl⟩
set_option maxHeartbeats 400000 in
theorem rbin_31l (x y : Int) (hx : C x) (hy : C y) (h : sg x < sg y) (w : World) :
    Calls Try.prog 20 #[.int .i64 31, .int .u16 x, .int .u16 y] w fun e w' => e = .returned (.tuple #[.int .u16 (bi 31 x y), .bool true]) ∧ w' = w := by
  have hs := sg_range hx
  have ht := sg_range hy
  go_enter Try.func20, Try.ntmps20
  go_wp2_with (first | (go_at_call 15; refine (rsigned_any _ ?_ _).mono ?_; rotate_left 1; rintro e w' ⟨rfl, rfl⟩; rotate_left 1; (first | exact hx | exact hy)) | (go_at_call 16; refine (rcell_any _ _).mono ?_; rintro e w' ⟨rfl, rfl⟩) | (go_at_call 18; refine (rflag_any _ _).mono ?_; rintro e w' ⟨rfl, rfl⟩) | (go_at_call 24; refine (half_any _ (by omega) _).mono ?_; rintro e w' ⟨rfl, rfl⟩) | (go_at_call 30; refine (rquot_any _ _ (by omega) (by omega) (by assumption) _).mono ?_; rintro e w' ⟨rfl, rfl⟩) | (go_at_call 27; refine (power_any _ (by omega) (by omega) _).mono ?_; rintro e w' ⟨rfl, rfl⟩))
  go_ret2
  exact ⟨ret_ib (bi_31l x y h) rfl, rfl⟩
set_option maxHeartbeats 400000 in
theorem rbin_31g (x y : Int) (hx : C x) (hy : C y) (h : sg y ≤ sg x) (w : World) :
    Calls Try.prog 20 #[.int .i64 31, .int .u16 x, .int .u16 y] w fun e w' => e = .returned (.tuple #[.int .u16 (bi 31 x y), .bool true]) ∧ w' = w := by
  have hs := sg_range hx
  have ht := sg_range hy
  go_enter Try.func20, Try.ntmps20
  go_wp2_with (first | (go_at_call 15; refine (rsigned_any _ ?_ _).mono ?_; rotate_left 1; rintro e w' ⟨rfl, rfl⟩; rotate_left 1; (first | exact hx | exact hy)) | (go_at_call 16; refine (rcell_any _ _).mono ?_; rintro e w' ⟨rfl, rfl⟩) | (go_at_call 18; refine (rflag_any _ _).mono ?_; rintro e w' ⟨rfl, rfl⟩) | (go_at_call 24; refine (half_any _ (by omega) _).mono ?_; rintro e w' ⟨rfl, rfl⟩) | (go_at_call 30; refine (rquot_any _ _ (by omega) (by omega) (by assumption) _).mono ?_; rintro e w' ⟨rfl, rfl⟩) | (go_at_call 27; refine (power_any _ (by omega) (by omega) _).mono ?_; rintro e w' ⟨rfl, rfl⟩))
  go_ret2
  exact ⟨ret_ib (bi_31g x y h) rfl, rfl⟩
set_option maxHeartbeats 400000 in
theorem rbin_36 (x y : Int) (hx : C x) (hy : C y) (w : World) :
    Calls Try.prog 20 #[.int .i64 36, .int .u16 x, .int .u16 y] w fun e w' => e = .returned (.tuple #[.int .u16 (bi 36 x y), .bool true]) ∧ w' = w := by
  go_enter Try.func20, Try.ntmps20
  go_wp2_with (first | (go_at_call 15; refine (rsigned_any _ ?_ _).mono ?_; rotate_left 1; rintro e w' ⟨rfl, rfl⟩; rotate_left 1; (first | exact hx | exact hy)) | (go_at_call 16; refine (rcell_any _ _).mono ?_; rintro e w' ⟨rfl, rfl⟩) | (go_at_call 18; refine (rflag_any _ _).mono ?_; rintro e w' ⟨rfl, rfl⟩) | (go_at_call 24; refine (half_any _ (by omega) _).mono ?_; rintro e w' ⟨rfl, rfl⟩) | (go_at_call 30; refine (rquot_any _ _ (by omega) (by omega) (by assumption) _).mono ?_; rintro e w' ⟨rfl, rfl⟩) | (go_at_call 27; refine (power_any _ (by omega) (by omega) _).mono ?_; rintro e w' ⟨rfl, rfl⟩) | (go_at_call 26; refine (bits_36 _ _ hx hy _).mono ?_; rintro e w' ⟨rfl, rfl⟩))
  go_ret2
  exact ⟨ret_ib (rfl) rfl, rfl⟩
set_option maxHeartbeats 400000 in
theorem rbin_37 (x y : Int) (hx : C x) (hy : C y) (w : World) :
    Calls Try.prog 20 #[.int .i64 37, .int .u16 x, .int .u16 y] w fun e w' => e = .returned (.tuple #[.int .u16 (bi 37 x y), .bool true]) ∧ w' = w := by
  go_enter Try.func20, Try.ntmps20
  go_wp2_with (first | (go_at_call 15; refine (rsigned_any _ ?_ _).mono ?_; rotate_left 1; rintro e w' ⟨rfl, rfl⟩; rotate_left 1; (first | exact hx | exact hy)) | (go_at_call 16; refine (rcell_any _ _).mono ?_; rintro e w' ⟨rfl, rfl⟩) | (go_at_call 18; refine (rflag_any _ _).mono ?_; rintro e w' ⟨rfl, rfl⟩) | (go_at_call 24; refine (half_any _ (by omega) _).mono ?_; rintro e w' ⟨rfl, rfl⟩) | (go_at_call 30; refine (rquot_any _ _ (by omega) (by omega) (by assumption) _).mono ?_; rintro e w' ⟨rfl, rfl⟩) | (go_at_call 27; refine (power_any _ (by omega) (by omega) _).mono ?_; rintro e w' ⟨rfl, rfl⟩) | (go_at_call 26; refine (bits_37 _ _ hx hy _).mono ?_; rintro e w' ⟨rfl, rfl⟩))
  go_ret2
  exact ⟨ret_ib (rfl) rfl, rfl⟩
set_option maxHeartbeats 400000 in
theorem rbin_38 (x y : Int) (hx : C x) (hy : C y) (w : World) :
    Calls Try.prog 20 #[.int .i64 38, .int .u16 x, .int .u16 y] w fun e w' => e = .returned (.tuple #[.int .u16 (bi 38 x y), .bool true]) ∧ w' = w := by
  go_enter Try.func20, Try.ntmps20
  go_wp2_with (first | (go_at_call 15; refine (rsigned_any _ ?_ _).mono ?_; rotate_left 1; rintro e w' ⟨rfl, rfl⟩; rotate_left 1; (first | exact hx | exact hy)) | (go_at_call 16; refine (rcell_any _ _).mono ?_; rintro e w' ⟨rfl, rfl⟩) | (go_at_call 18; refine (rflag_any _ _).mono ?_; rintro e w' ⟨rfl, rfl⟩) | (go_at_call 24; refine (half_any _ (by omega) _).mono ?_; rintro e w' ⟨rfl, rfl⟩) | (go_at_call 30; refine (rquot_any _ _ (by omega) (by omega) (by assumption) _).mono ?_; rintro e w' ⟨rfl, rfl⟩) | (go_at_call 27; refine (power_any _ (by omega) (by omega) _).mono ?_; rintro e w' ⟨rfl, rfl⟩) | (go_at_call 26; refine (bits_38 _ _ hx hy _).mono ?_; rintro e w' ⟨rfl, rfl⟩))
  go_ret2
  exact ⟨ret_ib (rfl) rfl, rfl⟩
set_option maxHeartbeats 400000 in
theorem rbin_40g (x y : Int) (hx : C x) (hy : C y) (h : 15 < y) (w : World) :
    Calls Try.prog 20 #[.int .i64 40, .int .u16 x, .int .u16 y] w fun e w' => e = .returned (.tuple #[.int .u16 (bi 40 x y), .bool true]) ∧ w' = w := by
  have kx := hx
  have ky := hy
  unfold C at kx ky
  go_enter Try.func20, Try.ntmps20
  go_wp2_with (first | (go_at_call 15; refine (rsigned_any _ ?_ _).mono ?_; rotate_left 1; rintro e w' ⟨rfl, rfl⟩; rotate_left 1; (first | exact hx | exact hy)) | (go_at_call 16; refine (rcell_any _ _).mono ?_; rintro e w' ⟨rfl, rfl⟩) | (go_at_call 18; refine (rflag_any _ _).mono ?_; rintro e w' ⟨rfl, rfl⟩) | (go_at_call 24; refine (half_any _ (by omega) _).mono ?_; rintro e w' ⟨rfl, rfl⟩) | (go_at_call 30; refine (rquot_any _ _ (by omega) (by omega) (by assumption) _).mono ?_; rintro e w' ⟨rfl, rfl⟩) | (go_at_call 27; refine (power_any _ (by omega) (by omega) _).mono ?_; rintro e w' ⟨rfl, rfl⟩))
  go_ret2
  exact ⟨ret_ib (bi_40g x y h) rfl, rfl⟩
set_option maxHeartbeats 400000 in
theorem rbin_40l (x y : Int) (hx : C x) (hy : C y) (h : y ≤ 15) (w : World) :
    Calls Try.prog 20 #[.int .i64 40, .int .u16 x, .int .u16 y] w fun e w' => e = .returned (.tuple #[.int .u16 (bi 40 x y), .bool true]) ∧ w' = w := by
  have kx := hx
  have ky := hy
  unfold C at kx ky
  have hl := rshl_range x y hx (by unfold C at hy; omega) h
  obtain ⟨l1, l2, l3, l4⟩ := hl
  go_enter Try.func20, Try.ntmps20
  go_wp2_with (first | (go_at_call 15; refine (rsigned_any _ ?_ _).mono ?_; rotate_left 1; rintro e w' ⟨rfl, rfl⟩; rotate_left 1; (first | exact hx | exact hy)) | (go_at_call 16; refine (rcell_any _ _).mono ?_; rintro e w' ⟨rfl, rfl⟩) | (go_at_call 18; refine (rflag_any _ _).mono ?_; rintro e w' ⟨rfl, rfl⟩) | (go_at_call 24; refine (half_any _ (by omega) _).mono ?_; rintro e w' ⟨rfl, rfl⟩) | (go_at_call 30; refine (rquot_any _ _ (by omega) (by omega) (by assumption) _).mono ?_; rintro e w' ⟨rfl, rfl⟩) | (go_at_call 27; refine (power_any _ (by omega) (by omega) _).mono ?_; rintro e w' ⟨rfl, rfl⟩))
  go_ret2
  exact ⟨ret_ib (bi_40l x y (by omega)) rfl, rfl⟩
set_option maxHeartbeats 400000 in
theorem rbin_41g (x y : Int) (hx : C x) (hy : C y) (h : 15 < y) (w : World) :
    Calls Try.prog 20 #[.int .i64 41, .int .u16 x, .int .u16 y] w fun e w' => e = .returned (.tuple #[.int .u16 (bi 41 x y), .bool true]) ∧ w' = w := by
  have kx := hx
  have ky := hy
  unfold C at kx ky
  go_enter Try.func20, Try.ntmps20
  go_wp2_with (first | (go_at_call 15; refine (rsigned_any _ ?_ _).mono ?_; rotate_left 1; rintro e w' ⟨rfl, rfl⟩; rotate_left 1; (first | exact hx | exact hy)) | (go_at_call 16; refine (rcell_any _ _).mono ?_; rintro e w' ⟨rfl, rfl⟩) | (go_at_call 18; refine (rflag_any _ _).mono ?_; rintro e w' ⟨rfl, rfl⟩) | (go_at_call 24; refine (half_any _ (by omega) _).mono ?_; rintro e w' ⟨rfl, rfl⟩) | (go_at_call 30; refine (rquot_any _ _ (by omega) (by omega) (by assumption) _).mono ?_; rintro e w' ⟨rfl, rfl⟩) | (go_at_call 27; refine (power_any _ (by omega) (by omega) _).mono ?_; rintro e w' ⟨rfl, rfl⟩))
  go_ret2
  exact ⟨ret_ib (bi_41g x y h) rfl, rfl⟩
set_option maxHeartbeats 400000 in
theorem rbin_41l (x y : Int) (hx : C x) (hy : C y) (h : y ≤ 15) (w : World) :
    Calls Try.prog 20 #[.int .i64 41, .int .u16 x, .int .u16 y] w fun e w' => e = .returned (.tuple #[.int .u16 (bi 41 x y), .bool true]) ∧ w' = w := by
  have kx := hx
  have ky := hy
  unfold C at kx ky
  have hl := rshl_range x y hx (by unfold C at hy; omega) h
  obtain ⟨l1, l2, l3, l4⟩ := hl
  go_enter Try.func20, Try.ntmps20
  go_wp2_with (first | (go_at_call 15; refine (rsigned_any _ ?_ _).mono ?_; rotate_left 1; rintro e w' ⟨rfl, rfl⟩; rotate_left 1; (first | exact hx | exact hy)) | (go_at_call 16; refine (rcell_any _ _).mono ?_; rintro e w' ⟨rfl, rfl⟩) | (go_at_call 18; refine (rflag_any _ _).mono ?_; rintro e w' ⟨rfl, rfl⟩) | (go_at_call 24; refine (half_any _ (by omega) _).mono ?_; rintro e w' ⟨rfl, rfl⟩) | (go_at_call 30; refine (rquot_any _ _ (by omega) (by omega) (by assumption) _).mono ?_; rintro e w' ⟨rfl, rfl⟩) | (go_at_call 27; refine (power_any _ (by omega) (by omega) _).mono ?_; rintro e w' ⟨rfl, rfl⟩))
  go_ret2
  exact ⟨ret_ib (rb_41 x y (by omega)) rfl, rfl⟩
set_option maxHeartbeats 400000 in
theorem rbin_42 (x y : Int) (hx : C x) (hy : C y) (w : World) :
    Calls Try.prog 20 #[.int .i64 42, .int .u16 x, .int .u16 y] w fun e w' => e = .returned (.tuple #[.int .u16 (bi 42 x y), .bool true]) ∧ w' = w := by
  have hs := sg_range hx
  have ht := sg_range hy
  go_enter Try.func20, Try.ntmps20
  go_wp2_with (first | (go_at_call 15; refine (rsigned_any _ ?_ _).mono ?_; rotate_left 1; rintro e w' ⟨rfl, rfl⟩; rotate_left 1; (first | exact hx | exact hy)) | (go_at_call 16; refine (rcell_any _ _).mono ?_; rintro e w' ⟨rfl, rfl⟩) | (go_at_call 18; refine (rflag_any _ _).mono ?_; rintro e w' ⟨rfl, rfl⟩) | (go_at_call 24; refine (half_any _ (by omega) _).mono ?_; rintro e w' ⟨rfl, rfl⟩) | (go_at_call 30; refine (rquot_any _ _ (by omega) (by omega) (by assumption) _).mono ?_; rintro e w' ⟨rfl, rfl⟩) | (go_at_call 27; refine (power_any _ (by omega) (by omega) _).mono ?_; rintro e w' ⟨rfl, rfl⟩))
  go_ret2
  exact ⟨ret_ib (bi_42 x y) rfl, rfl⟩
set_option maxHeartbeats 400000 in
theorem rbin_43 (x y : Int) (hx : C x) (hy : C y) (w : World) :
    Calls Try.prog 20 #[.int .i64 43, .int .u16 x, .int .u16 y] w fun e w' => e = .returned (.tuple #[.int .u16 (bi 43 x y), .bool true]) ∧ w' = w := by
  have hs := sg_range hx
  have ht := sg_range hy
  go_enter Try.func20, Try.ntmps20
  go_wp2_with (first | (go_at_call 15; refine (rsigned_any _ ?_ _).mono ?_; rotate_left 1; rintro e w' ⟨rfl, rfl⟩; rotate_left 1; (first | exact hx | exact hy)) | (go_at_call 16; refine (rcell_any _ _).mono ?_; rintro e w' ⟨rfl, rfl⟩) | (go_at_call 18; refine (rflag_any _ _).mono ?_; rintro e w' ⟨rfl, rfl⟩) | (go_at_call 24; refine (half_any _ (by omega) _).mono ?_; rintro e w' ⟨rfl, rfl⟩) | (go_at_call 30; refine (rquot_any _ _ (by omega) (by omega) (by assumption) _).mono ?_; rintro e w' ⟨rfl, rfl⟩) | (go_at_call 27; refine (power_any _ (by omega) (by omega) _).mono ?_; rintro e w' ⟨rfl, rfl⟩))
  go_ret2
  exact ⟨ret_ib (bi_43 x y) rfl, rfl⟩
set_option maxHeartbeats 400000 in
theorem rbin_44 (x y : Int) (hx : C x) (hy : C y) (w : World) :
    Calls Try.prog 20 #[.int .i64 44, .int .u16 x, .int .u16 y] w fun e w' => e = .returned (.tuple #[.int .u16 (bi 44 x y), .bool true]) ∧ w' = w := by
  have hs := sg_range hx
  have ht := sg_range hy
  go_enter Try.func20, Try.ntmps20
  go_wp2_with (first | (go_at_call 15; refine (rsigned_any _ ?_ _).mono ?_; rotate_left 1; rintro e w' ⟨rfl, rfl⟩; rotate_left 1; (first | exact hx | exact hy)) | (go_at_call 16; refine (rcell_any _ _).mono ?_; rintro e w' ⟨rfl, rfl⟩) | (go_at_call 18; refine (rflag_any _ _).mono ?_; rintro e w' ⟨rfl, rfl⟩) | (go_at_call 24; refine (half_any _ (by omega) _).mono ?_; rintro e w' ⟨rfl, rfl⟩) | (go_at_call 30; refine (rquot_any _ _ (by omega) (by omega) (by assumption) _).mono ?_; rintro e w' ⟨rfl, rfl⟩) | (go_at_call 27; refine (power_any _ (by omega) (by omega) _).mono ?_; rintro e w' ⟨rfl, rfl⟩))
  go_ret2
  exact ⟨ret_ib (bi_44 x y) rfl, rfl⟩
set_option maxHeartbeats 400000 in
theorem rbin_45 (x y : Int) (hx : C x) (hy : C y) (w : World) :
    Calls Try.prog 20 #[.int .i64 45, .int .u16 x, .int .u16 y] w fun e w' => e = .returned (.tuple #[.int .u16 (bi 45 x y), .bool true]) ∧ w' = w := by
  have hs := sg_range hx
  have ht := sg_range hy
  go_enter Try.func20, Try.ntmps20
  go_wp2_with (first | (go_at_call 15; refine (rsigned_any _ ?_ _).mono ?_; rotate_left 1; rintro e w' ⟨rfl, rfl⟩; rotate_left 1; (first | exact hx | exact hy)) | (go_at_call 16; refine (rcell_any _ _).mono ?_; rintro e w' ⟨rfl, rfl⟩) | (go_at_call 18; refine (rflag_any _ _).mono ?_; rintro e w' ⟨rfl, rfl⟩) | (go_at_call 24; refine (half_any _ (by omega) _).mono ?_; rintro e w' ⟨rfl, rfl⟩) | (go_at_call 30; refine (rquot_any _ _ (by omega) (by omega) (by assumption) _).mono ?_; rintro e w' ⟨rfl, rfl⟩) | (go_at_call 27; refine (power_any _ (by omega) (by omega) _).mono ?_; rintro e w' ⟨rfl, rfl⟩))
  go_ret2
  exact ⟨ret_ib (bi_45 x y) rfl, rfl⟩
set_option maxHeartbeats 400000 in
theorem rbin_46 (x y : Int) (hx : C x) (hy : C y) (w : World) :
    Calls Try.prog 20 #[.int .i64 46, .int .u16 x, .int .u16 y] w fun e w' => e = .returned (.tuple #[.int .u16 (bi 46 x y), .bool true]) ∧ w' = w := by
  have hs := sg_range hx
  have ht := sg_range hy
  have kx := hx
  have ky := hy
  unfold C at kx ky
  go_enter Try.func20, Try.ntmps20
  go_wp2_with (first | (go_at_call 15; refine (rsigned_any _ ?_ _).mono ?_; rotate_left 1; rintro e w' ⟨rfl, rfl⟩; rotate_left 1; (first | exact hx | exact hy)) | (go_at_call 16; refine (rcell_any _ _).mono ?_; rintro e w' ⟨rfl, rfl⟩) | (go_at_call 18; refine (rflag_any _ _).mono ?_; rintro e w' ⟨rfl, rfl⟩) | (go_at_call 24; refine (half_any _ (by omega) _).mono ?_; rintro e w' ⟨rfl, rfl⟩) | (go_at_call 30; refine (rquot_any _ _ (by omega) (by omega) (by assumption) _).mono ?_; rintro e w' ⟨rfl, rfl⟩) | (go_at_call 27; refine (power_any _ (by omega) (by omega) _).mono ?_; rintro e w' ⟨rfl, rfl⟩))
  go_ret2
  exact ⟨ret_ib (bi_46 x y) rfl, rfl⟩
set_option maxHeartbeats 400000 in
theorem rbin_47 (x y : Int) (hx : C x) (hy : C y) (w : World) :
    Calls Try.prog 20 #[.int .i64 47, .int .u16 x, .int .u16 y] w fun e w' => e = .returned (.tuple #[.int .u16 (bi 47 x y), .bool true]) ∧ w' = w := by
  have hs := sg_range hx
  have ht := sg_range hy
  have kx := hx
  have ky := hy
  unfold C at kx ky
  go_enter Try.func20, Try.ntmps20
  go_wp2_with (first | (go_at_call 15; refine (rsigned_any _ ?_ _).mono ?_; rotate_left 1; rintro e w' ⟨rfl, rfl⟩; rotate_left 1; (first | exact hx | exact hy)) | (go_at_call 16; refine (rcell_any _ _).mono ?_; rintro e w' ⟨rfl, rfl⟩) | (go_at_call 18; refine (rflag_any _ _).mono ?_; rintro e w' ⟨rfl, rfl⟩) | (go_at_call 24; refine (half_any _ (by omega) _).mono ?_; rintro e w' ⟨rfl, rfl⟩) | (go_at_call 30; refine (rquot_any _ _ (by omega) (by omega) (by assumption) _).mono ?_; rintro e w' ⟨rfl, rfl⟩) | (go_at_call 27; refine (power_any _ (by omega) (by omega) _).mono ?_; rintro e w' ⟨rfl, rfl⟩))
  go_ret2
  exact ⟨ret_ib (bi_47 x y) rfl, rfl⟩
set_option maxHeartbeats 400000 in
theorem rbin_no (op x y : Int) (hx : C x) (hy : C y) (h : isBi op = false) (w : World) :
    Calls Try.prog 20 #[.int .i64 op, .int .u16 x, .int .u16 y] w fun e w' => e = .returned (.tuple #[.int .u16 (bi op x y), .bool (isBi op)]) ∧ w' = w := by
  have hz : Hid ((0 : Int) = bi op x y) := bi_no op x y h
  have hf : Hid (isBi op = false) := h
  have hh := h
  simp only [isBi, Bool.or_eq_false_iff] at hh
  obtain ⟨⟨⟨⟨⟨⟨⟨⟨⟨⟨⟨⟨⟨⟨⟨⟨⟨⟨⟨e0, e1⟩, e2⟩, e3⟩, e4⟩, e5⟩, e6⟩, e7⟩, e8⟩, e9⟩, e10⟩, e11⟩, e12⟩, e13⟩, e14⟩, e15⟩, e16⟩, e17⟩, e18⟩, e19⟩ := hh
  clear h
  go_enter Try.func20, Try.ntmps20
  go_wp2_with (first | (go_at_call 15; refine (rsigned_any _ ?_ _).mono ?_; rotate_left 1; rintro e w' ⟨rfl, rfl⟩; rotate_left 1; (first | exact hx | exact hy)) | (go_at_call 16; refine (rcell_any _ _).mono ?_; rintro e w' ⟨rfl, rfl⟩) | (go_at_call 18; refine (rflag_any _ _).mono ?_; rintro e w' ⟨rfl, rfl⟩) | (go_at_call 24; refine (half_any _ (by omega) _).mono ?_; rintro e w' ⟨rfl, rfl⟩) | (go_at_call 30; refine (rquot_any _ _ (by omega) (by omega) (by assumption) _).mono ?_; rintro e w' ⟨rfl, rfl⟩) | (go_at_call 27; refine (power_any _ (by omega) (by omega) _).mono ?_; rintro e w' ⟨rfl, rfl⟩))
  go_ret2
  exact ⟨ret_ib hz.out hf.out.symm, rfl⟩
theorem rbinary_any (op x y : Int) (hx : C x) (hy : C y) (w : World) :
    Calls Try.prog 20 #[.int .i64 op, .int .u16 x, .int .u16 y] w fun e w' => e = .returned (.tuple #[.int .u16 (bi op x y), .bool (isBi op)]) ∧ w' = w := by
  cases h : isBi op
  · rw [← h]; exact rbin_no op x y hx hy h w
  · simp only [isBi, Bool.or_eq_true, beq_iff_eq] at h
    rcases h with ((((((((((((((((((h | h) | h) | h) | h) | h) | h) | h) | h) | h) | h) | h) | h) | h) | h) | h) | h) | h) | h) | h <;> subst h
    · exact rbin_21 x y hx hy w
    · exact rbin_22 x y hx hy w
    · exact rbin_23 x y hx hy w
    · by_cases k : y = 0
      · subst k; exact rbin_24z x hx w
      · exact rbin_24n x y hx hy k w
    · by_cases k : y = 0
      · subst k; exact rbin_25z x hx w
      · exact rbin_25n x y hx hy k w
    · by_cases k : y = 0
      · subst k; exact rbin_26z x hx w
      · exact rbin_26n x y hx hy k w
    · by_cases k : y = 0
      · subst k; exact rbin_27z x hx w
      · exact rbin_27n x y hx hy k w
    · by_cases k : sg y < sg x
      · exact rbin_30g x y hx hy k w
      · exact rbin_30l x y hx hy (by omega) w
    · by_cases k : sg x < sg y
      · exact rbin_31l x y hx hy k w
      · exact rbin_31g x y hx hy (by omega) w
    · exact rbin_36 x y hx hy w
    · exact rbin_37 x y hx hy w
    · exact rbin_38 x y hx hy w
    · by_cases k : 15 < y
      · exact rbin_40g x y hx hy k w
      · exact rbin_40l x y hx hy (by omega) w
    · by_cases k : 15 < y
      · exact rbin_41g x y hx hy k w
      · exact rbin_41l x y hx hy (by omega) w
    · exact rbin_42 x y hx hy w
    · exact rbin_43 x y hx hy w
    · exact rbin_44 x y hx hy w
    · exact rbin_45 x y hx hy w
    · exact rbin_46 x y hx hy w
    · exact rbin_47 x y hx hy w
end Go.Proofs.Ytmcfbcebjfeemaa
