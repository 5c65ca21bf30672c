import Derived.Test.YtmcfbcebjfeemaaRefBits
namespace Go.Proofs.Ytmcfbcebjfeemaa
open Go.RowKit

theorem ru_28 (x : Int) : cl (-x) = un 28 x := by simp [un, unRaw]
theorem ru_29n (x : Int) (h : 32768 ≤ x) : cl (-sg x) = un 29 x := un_29n x h
theorem ru_32 (x : Int) : cl (x + 1) = un 32 x := by simp [un, unRaw]
theorem ru_33 (x : Int) : cl (x - 1) = un 33 x := by simp [un, unRaw]
theorem ru_34 (x : Int) : cl (2 * x) = un 34 x := by simp [un, unRaw, cl]; omega
theorem ru_39 (x : Int) : cl (65535 - x) = un 39 x := by simp [un, unRaw]
theorem rb_21 (x y : Int) : cl (x + y) = bi 21 x y := by simp [bi, biRaw]
theorem rb_22 (x y : Int) : cl (x - y) = bi 22 x y := by simp [bi, biRaw]
theorem rb_23 (x y : Int) : cl (x * y) = bi 23 x y := by simp [bi, biRaw]
theorem rb_24 (x y : Int) (h : y ≠ 0) : cl ((sg x).tdiv (sg y)) = bi 24 x y := by simp [bi, biRaw, h]
theorem rb_25 (x y : Int) (h : y ≠ 0) : cl (sg x - (sg x).tdiv (sg y) * sg y) = bi 25 x y := by
  have e := Int.tmod_add_tdiv_mul (sg x) (sg y)
  have e2 : sg x - (sg x).tdiv (sg y) * sg y = (sg x).tmod (sg y) := by
    generalize (sg x).tdiv (sg y) * sg y = q at *
    omega
  rw [e2]; simp [bi, biRaw, h]
theorem rb_26 (x y : Int) (h : y ≠ 0) : cl (x / y) = bi 26 x y := by simp [bi, biRaw, h]
theorem rb_27 (x y : Int) (h : y ≠ 0) : cl (x - x / y * y) = bi 27 x y := by
  have e := Int.emod_add_ediv_mul x y
  have e2 : x - x / y * y = x % y := by
    generalize x / y * y = q at *
    omega
  rw [e2]; simp [bi, biRaw, h]
theorem rb_dz (op x : Int) (h : op = 24 ∨ op = 25 ∨ op = 26 ∨ op = 27) : (0 : Int) = bi op x 0 := by
  rcases h with h | h | h | h <;> subst h <;> simp [bi, biRaw, cl]
theorem rb_41 (x y : Int) (h : ¬ 15 < y) : cl (x / 2 ^ y.toNat) = bi 41 x y := by simp [bi, biRaw, h]
theorem rshl_range (x y : Int) (hx : C x) (h0 : 0 ≤ y) (h : y ≤ 15) : 0 ≤ x * 2 ^ y.toNat ∧ x * 2 ^ y.toNat ≤ 4294967296 ∧ 1 ≤ (2 : Int) ^ y.toNat ∧ (2 : Int) ^ y.toNat ≤ 32768 := by
  have hp := pow_le y.toNat (by omega)
  unfold C at hx
  have hm := mul_range x (2 ^ y.toNat) (by omega) (by omega)
  exact ⟨Int.mul_nonneg hx.1 (by omega), hm.2, hp.1, hp.2⟩
set_option maxHeartbeats 400000 in
theorem runary_28 (x : Int) (hx : C x) (w : World) :
    Calls Try.prog 19 #[.int .i64 28, .int .u16 x] w fun e w' => e = .returned (.tuple #[.int .u16 (un 28 x), .bool true]) ∧ w' = w := by
  have hs := sg_range hx
  have kx := hx
  unfold C at kx
  go_enter Try.func19, Try.ntmps19
  go_wp2_with (first | (go_at_call 15; refine (rsigned_any _ ?_ _).mono ?_; rotate_left 1; rintro e w' ⟨rfl, rfl⟩; rotate_left 1; (first | exact hx | exact hy)) | (go_at_call 16; refine (rcell_any _ _).mono ?_; rintro e w' ⟨rfl, rfl⟩) | (go_at_call 18; refine (rflag_any _ _).mono ?_; rintro e w' ⟨rfl, rfl⟩) | (go_at_call 24; refine (half_any _ (by omega) _).mono ?_; rintro e w' ⟨rfl, rfl⟩) | (go_at_call 30; refine (rquot_any _ _ (by omega) (by omega) (by assumption) _).mono ?_; rintro e w' ⟨rfl, rfl⟩) | (go_at_call 27; refine (power_any _ (by omega) (by omega) _).mono ?_; rintro e w' ⟨rfl, rfl⟩))
  go_ret2
  exact ⟨ret_ib (ru_28 x) rfl, rfl⟩
set_option maxHeartbeats 400000 in
theorem runary_32 (x : Int) (hx : C x) (w : World) :
    Calls Try.prog 19 #[.int .i64 32, .int .u16 x] w fun e w' => e = .returned (.tuple #[.int .u16 (un 32 x), .bool true]) ∧ w' = w := by
  have hs := sg_range hx
  have kx := hx
  unfold C at kx
  go_enter Try.func19, Try.ntmps19
  go_wp2_with (first | (go_at_call 15; refine (rsigned_any _ ?_ _).mono ?_; rotate_left 1; rintro e w' ⟨rfl, rfl⟩; rotate_left 1; (first | exact hx | exact hy)) | (go_at_call 16; refine (rcell_any _ _).mono ?_; rintro e w' ⟨rfl, rfl⟩) | (go_at_call 18; refine (rflag_any _ _).mono ?_; rintro e w' ⟨rfl, rfl⟩) | (go_at_call 24; refine (half_any _ (by omega) _).mono ?_; rintro e w' ⟨rfl, rfl⟩) | (go_at_call 30; refine (rquot_any _ _ (by omega) (by omega) (by assumption) _).mono ?_; rintro e w' ⟨rfl, rfl⟩) | (go_at_call 27; refine (power_any _ (by omega) (by omega) _).mono ?_; rintro e w' ⟨rfl, rfl⟩))
  go_ret2
  exact ⟨ret_ib (ru_32 x) rfl, rfl⟩
set_option maxHeartbeats 400000 in
theorem runary_33 (x : Int) (hx : C x) (w : World) :
    Calls Try.prog 19 #[.int .i64 33, .int .u16 x] w fun e w' => e = .returned (.tuple #[.int .u16 (un 33 x), .bool true]) ∧ w' = w := by
  have hs := sg_range hx
  have kx := hx
  unfold C at kx
  go_enter Try.func19, Try.ntmps19
  go_wp2_with (first | (go_at_call 15; refine (rsigned_any _ ?_ _).mono ?_; rotate_left 1; rintro e w' ⟨rfl, rfl⟩; rotate_left 1; (first | exact hx | exact hy)) | (go_at_call 16; refine (rcell_any _ _).mono ?_; rintro e w' ⟨rfl, rfl⟩) | (go_at_call 18; refine (rflag_any _ _).mono ?_; rintro e w' ⟨rfl, rfl⟩) | (go_at_call 24; refine (half_any _ (by omega) _).mono ?_; rintro e w' ⟨rfl, rfl⟩) | (go_at_call 30; refine (rquot_any _ _ (by omega) (by omega) (by assumption) _).mono ?_; rintro e w' ⟨rfl, rfl⟩) | (go_at_call 27; refine (power_any _ (by omega) (by omega) _).mono ?_; rintro e w' ⟨rfl, rfl⟩))
  go_ret2
  exact ⟨ret_ib (ru_33 x) rfl, rfl⟩
set_option maxHeartbeats 400000 in
theorem runary_34 (x : Int) (hx : C x) (w : World) :
    Calls Try.prog 19 #[.int .i64 34, .int .u16 x] w fun e w' => e = .returned (.tuple #[.int .u16 (un 34 x), .bool true]) ∧ w' = w := by
  have hs := sg_range hx
  have kx := hx
  unfold C at kx
  go_enter Try.func19, Try.ntmps19
  go_wp2_with (first | (go_at_call 15; refine (rsigned_any _ ?_ _).mono ?_; rotate_left 1; rintro e w' ⟨rfl, rfl⟩; rotate_left 1; (first | exact hx | exact hy)) | (go_at_call 16; refine (rcell_any _ _).mono ?_; rintro e w' ⟨rfl, rfl⟩) | (go_at_call 18; refine (rflag_any _ _).mono ?_; rintro e w' ⟨rfl, rfl⟩) | (go_at_call 24; refine (half_any _ (by omega) _).mono ?_; rintro e w' ⟨rfl, rfl⟩) | (go_at_call 30; refine (rquot_any _ _ (by omega) (by omega) (by assumption) _).mono ?_; rintro e w' ⟨rfl, rfl⟩) | (go_at_call 27; refine (power_any _ (by omega) (by omega) _).mono ?_; rintro e w' ⟨rfl, rfl⟩))
  go_ret2
  exact ⟨ret_ib (ru_34 x) rfl, rfl⟩
set_option maxHeartbeats 400000 in
theorem runary_39 (x : Int) (hx : C x) (w : World) :
    Calls Try.prog 19 #[.int .i64 39, .int .u16 x] w fun e w' => e = .returned (.tuple #[.int .u16 (un 39 x), .bool true]) ∧ w' = w := by
  have hs := sg_range hx
  have kx := hx
  unfold C at kx
  go_enter Try.func19, Try.ntmps19
  go_wp2_with (first | (go_at_call 15; refine (rsigned_any _ ?_ _).mono ?_; rotate_left 1; rintro e w' ⟨rfl, rfl⟩; rotate_left 1; (first | exact hx | exact hy)) | (go_at_call 16; refine (rcell_any _ _).mono ?_; rintro e w' ⟨rfl, rfl⟩) | (go_at_call 18; refine (rflag_any _ _).mono ?_; rintro e w' ⟨rfl, rfl⟩) | (go_at_call 24; refine (half_any _ (by omega) _).mono ?_; rintro e w' ⟨rfl, rfl⟩) | (go_at_call 30; refine (rquot_any _ _ (by omega) (by omega) (by assumption) _).mono ?_; rintro e w' ⟨rfl, rfl⟩) | (go_at_call 27; refine (power_any _ (by omega) (by omega) _).mono ?_; rintro e w' ⟨rfl, rfl⟩))
  go_ret2
  exact ⟨ret_ib (ru_39 x) rfl, rfl⟩
set_option maxHeartbeats 400000 in
theorem runary_35 (x : Int) (hx : C x) (w : World) :
    Calls Try.prog 19 #[.int .i64 35, .int .u16 x] w fun e w' => e = .returned (.tuple #[.int .u16 (un 35 x), .bool true]) ∧ w' = w := by
  have hs := sg_range hx
  have kx := hx
  unfold C at kx
  go_enter Try.func19, Try.ntmps19
  go_wp2_with (first | (go_at_call 15; refine (rsigned_any _ ?_ _).mono ?_; rotate_left 1; rintro e w' ⟨rfl, rfl⟩; rotate_left 1; (first | exact hx | exact hy)) | (go_at_call 16; refine (rcell_any _ _).mono ?_; rintro e w' ⟨rfl, rfl⟩) | (go_at_call 18; refine (rflag_any _ _).mono ?_; rintro e w' ⟨rfl, rfl⟩) | (go_at_call 24; refine (half_any _ (by omega) _).mono ?_; rintro e w' ⟨rfl, rfl⟩) | (go_at_call 30; refine (rquot_any _ _ (by omega) (by omega) (by assumption) _).mono ?_; rintro e w' ⟨rfl, rfl⟩) | (go_at_call 27; refine (power_any _ (by omega) (by omega) _).mono ?_; rintro e w' ⟨rfl, rfl⟩))
  go_ret2
  exact ⟨ret_ib (un_35 x) rfl, rfl⟩
set_option maxHeartbeats 400000 in
theorem runary_48 (x : Int) (hx : C x) (w : World) :
    Calls Try.prog 19 #[.int .i64 48, .int .u16 x] w fun e w' => e = .returned (.tuple #[.int .u16 (un 48 x), .bool true]) ∧ w' = w := by
  have hs := sg_range hx
  have kx := hx
  unfold C at kx
  go_enter Try.func19, Try.ntmps19
  go_wp2_with (first | (go_at_call 15; refine (rsigned_any _ ?_ _).mono ?_; rotate_left 1; rintro e w' ⟨rfl, rfl⟩; rotate_left 1; (first | exact hx | exact hy)) | (go_at_call 16; refine (rcell_any _ _).mono ?_; rintro e w' ⟨rfl, rfl⟩) | (go_at_call 18; refine (rflag_any _ _).mono ?_; rintro e w' ⟨rfl, rfl⟩) | (go_at_call 24; refine (half_any _ (by omega) _).mono ?_; rintro e w' ⟨rfl, rfl⟩) | (go_at_call 30; refine (rquot_any _ _ (by omega) (by omega) (by assumption) _).mono ?_; rintro e w' ⟨rfl, rfl⟩) | (go_at_call 27; refine (power_any _ (by omega) (by omega) _).mono ?_; rintro e w' ⟨rfl, rfl⟩))
  go_ret2
  exact ⟨ret_ib (un_48 x) rfl, rfl⟩
set_option maxHeartbeats 400000 in
theorem runary_49 (x : Int) (hx : C x) (w : World) :
    Calls Try.prog 19 #[.int .i64 49, .int .u16 x] w fun e w' => e = .returned (.tuple #[.int .u16 (un 49 x), .bool true]) ∧ w' = w := by
  have hs := sg_range hx
  have kx := hx
  unfold C at kx
  go_enter Try.func19, Try.ntmps19
  go_wp2_with (first | (go_at_call 15; refine (rsigned_any _ ?_ _).mono ?_; rotate_left 1; rintro e w' ⟨rfl, rfl⟩; rotate_left 1; (first | exact hx | exact hy)) | (go_at_call 16; refine (rcell_any _ _).mono ?_; rintro e w' ⟨rfl, rfl⟩) | (go_at_call 18; refine (rflag_any _ _).mono ?_; rintro e w' ⟨rfl, rfl⟩) | (go_at_call 24; refine (half_any _ (by omega) _).mono ?_; rintro e w' ⟨rfl, rfl⟩) | (go_at_call 30; refine (rquot_any _ _ (by omega) (by omega) (by assumption) _).mono ?_; rintro e w' ⟨rfl, rfl⟩) | (go_at_call 27; refine (power_any _ (by omega) (by omega) _).mono ?_; rintro e w' ⟨rfl, rfl⟩))
  go_ret2
  exact ⟨ret_ib (un_49 x) rfl, rfl⟩
set_option maxHeartbeats 400000 in
theorem runary_29p (x : Int) (hx : C x) (h : x < 32768) (w : World) :
    Calls Try.prog 19 #[.int .i64 29, .int .u16 x] w fun e w' => e = .returned (.tuple #[.int .u16 (un 29 x), .bool true]) ∧ w' = w := by
  have hs := sg_range hx
  have kx := hx
  unfold C at kx
  have h0 : 0 ≤ sg x := by unfold sg; rw [if_pos h]; omega
  go_enter Try.func19, Try.ntmps19
  go_wp2_with (first | (go_at_call 15; refine (rsigned_any _ ?_ _).mono ?_; rotate_left 1; rintro e w' ⟨rfl, rfl⟩; rotate_left 1; (first | exact hx | exact hy)) | (go_at_call 16; refine (rcell_any _ _).mono ?_; rintro e w' ⟨rfl, rfl⟩) | (go_at_call 18; refine (rflag_any _ _).mono ?_; rintro e w' ⟨rfl, rfl⟩) | (go_at_call 24; refine (half_any _ (by omega) _).mono ?_; rintro e w' ⟨rfl, rfl⟩) | (go_at_call 30; refine (rquot_any _ _ (by omega) (by omega) (by assumption) _).mono ?_; rintro e w' ⟨rfl, rfl⟩) | (go_at_call 27; refine (power_any _ (by omega) (by omega) _).mono ?_; rintro e w' ⟨rfl, rfl⟩))
  go_ret2
  exact ⟨ret_ib (un_29p x hx h) rfl, rfl⟩
set_option maxHeartbeats 400000 in
theorem runary_29n (x : Int) (hx : C x) (h : 32768 ≤ x) (w : World) :
    Calls Try.prog 19 #[.int .i64 29, .int .u16 x] w fun e w' => e = .returned (.tuple #[.int .u16 (un 29 x), .bool true]) ∧ w' = w := by
  have hs := sg_range hx
  have kx := hx
  unfold C at kx
  have h0 : sg x < 0 := by unfold sg; rw [if_neg (by omega)]; omega
  go_enter Try.func19, Try.ntmps19
  go_wp2_with (first | (go_at_call 15; refine (rsigned_any _ ?_ _).mono ?_; rotate_left 1; rintro e w' ⟨rfl, rfl⟩; rotate_left 1; (first | exact hx | exact hy)) | (go_at_call 16; refine (rcell_any _ _).mono ?_; rintro e w' ⟨rfl, rfl⟩) | (go_at_call 18; refine (rflag_any _ _).mono ?_; rintro e w' ⟨rfl, rfl⟩) | (go_at_call 24; refine (half_any _ (by omega) _).mono ?_; rintro e w' ⟨rfl, rfl⟩) | (go_at_call 30; refine (rquot_any _ _ (by omega) (by omega) (by assumption) _).mono ?_; rintro e w' ⟨rfl, rfl⟩) | (go_at_call 27; refine (power_any _ (by omega) (by omega) _).mono ?_; rintro e w' ⟨rfl, rfl⟩))
  go_ret2
  exact ⟨ret_ib (un_29n x h) rfl, rfl⟩
set_option maxHeartbeats 400000 in
theorem runary_no (op x : Int) (hx : C x) (h : isUn op = false) (w : World) :
    Calls Try.prog 19 #[.int .i64 op, .int .u16 x] w fun e w' => e = .returned (.tuple #[.int .u16 (un op x), .bool (isUn op)]) ∧ w' = w := by
  have hz : Hid ((0 : Int) = un op x) := un_no op x h
  have hf : Hid (isUn op = false) := h
  have hh := h
  simp only [isUn, Bool.or_eq_false_iff] at hh
  obtain ⟨⟨⟨⟨⟨⟨⟨⟨e28, e29⟩, e32⟩, e33⟩, e34⟩, e35⟩, e39⟩, e48⟩, e49⟩ := hh
  clear h
  go_enter Try.func19, Try.ntmps19
  go_wp2_with (first | (go_at_call 15; refine (rsigned_any _ ?_ _).mono ?_; rotate_left 1; rintro e w' ⟨rfl, rfl⟩; rotate_left 1; (first | exact hx | exact hy)) | (go_at_call 16; refine (rcell_any _ _).mono ?_; rintro e w' ⟨rfl, rfl⟩) | (go_at_call 18; refine (rflag_any _ _).mono ?_; rintro e w' ⟨rfl, rfl⟩) | (go_at_call 24; refine (half_any _ (by omega) _).mono ?_; rintro e w' ⟨rfl, rfl⟩) | (go_at_call 30; refine (rquot_any _ _ (by omega) (by omega) (by assumption) _).mono ?_; rintro e w' ⟨rfl, rfl⟩) | (go_at_call 27; refine (power_any _ (by omega) (by omega) _).mono ?_; rintro e w' ⟨rfl, rfl⟩))
  go_ret2
  exact ⟨ret_ib hz.out hf.out.symm, rfl⟩
theorem runary_any (op x : Int) (hx : C x) (w : World) :
    Calls Try.prog 19 #[.int .i64 op, .int .u16 x] w fun e w' => e = .returned (.tuple #[.int .u16 (un op x), .bool (isUn op)]) ∧ w' = w := by
  cases h : isUn op
  · rw [← h]; exact runary_no op x hx h w
  · simp only [isUn, Bool.or_eq_true, beq_iff_eq] at h
    rcases h with (((((((h | h) | h) | h) | h) | h) | h) | h) | h <;> subst h
    · exact runary_28 x hx w
    · by_cases k : x < 32768
      · exact runary_29p x hx k w
      · exact runary_29n x hx (by omega) w
    · exact runary_32 x hx w
    · exact runary_33 x hx w
    · exact runary_34 x hx w
    · exact runary_35 x hx w
    · exact runary_39 x hx w
    · exact runary_48 x hx w
    · exact runary_49 x hx w
set_option maxHeartbeats 400000 in
theorem div_24 (x y : Int) (hx : C x) (hy : C y) (h0 : y ≠ 0) (w : World) :
    Calls Try.prog 25 #[.int .i64 24, .int .u16 x, .int .u16 y] w fun e w' => e = .returned (.int .u16 (bi 24 x y)) ∧ w' = w := by
  have hs := sg_range hx
  have ht := sg_range hy
  have kx := hx
  have ky := hy
  unfold C at kx ky
  have ht0 : sg y ≠ 0 := fun e => h0 ((sg_zero hy).1 e)
  have hq := tdiv_range (sg x) (sg y) (by omega)
  have hm := mul_range ((sg x).tdiv (sg y)) (sg y) hq (by omega)
  have hq2 := ediv_range x y (by omega) (by omega) (by omega)
  have hm2 := mul_range (x / y) y (by omega) (by omega)
  have h1 : 1 ≤ y := by omega
  have H0 : Hid (y ≠ 0) := h0
  have b0 : (y == 0) = false := by simpa using h0
  clear h0
  go_enter Try.func25, Try.ntmps25
  go_wp2_with (first | (go_at_call 15; refine (rsigned_any _ ?_ _).mono ?_; rotate_left 1; rintro e w' ⟨rfl, rfl⟩; rotate_left 1; (first | exact hx | exact hy)) | (go_at_call 16; refine (rcell_any _ _).mono ?_; rintro e w' ⟨rfl, rfl⟩) | (go_at_call 18; refine (rflag_any _ _).mono ?_; rintro e w' ⟨rfl, rfl⟩) | (go_at_call 24; refine (half_any _ (by omega) _).mono ?_; rintro e w' ⟨rfl, rfl⟩) | (go_at_call 30; refine (rquot_any _ _ (by omega) (by omega) (by assumption) _).mono ?_; rintro e w' ⟨rfl, rfl⟩) | (go_at_call 27; refine (power_any _ (by omega) (by omega) _).mono ?_; rintro e w' ⟨rfl, rfl⟩))
  go_ret
  exact ⟨ret_int (rb_24 x y H0.out), rfl⟩
set_option maxHeartbeats 400000 in
theorem div_25 (x y : Int) (hx : C x) (hy : C y) (h0 : y ≠ 0) (w : World) :
    Calls Try.prog 25 #[.int .i64 25, .int .u16 x, .int .u16 y] w fun e w' => e = .returned (.int .u16 (bi 25 x y)) ∧ w' = w := by
  have hs := sg_range hx
  have ht := sg_range hy
  have kx := hx
  have ky := hy
  unfold C at kx ky
  have ht0 : sg y ≠ 0 := fun e => h0 ((sg_zero hy).1 e)
  have hq := tdiv_range (sg x) (sg y) (by omega)
  have hm := mul_range ((sg x).tdiv (sg y)) (sg y) hq (by omega)
  have hq2 := ediv_range x y (by omega) (by omega) (by omega)
  have hm2 := mul_range (x / y) y (by omega) (by omega)
  have h1 : 1 ≤ y := by omega
  have H0 : Hid (y ≠ 0) := h0
  have b0 : (y == 0) = false := by simpa using h0
  clear h0
  go_enter Try.func25, Try.ntmps25
  go_wp2_with (first | (go_at_call 15; refine (rsigned_any _ ?_ _).mono ?_; rotate_left 1; rintro e w' ⟨rfl, rfl⟩; rotate_left 1; (first | exact hx | exact hy)) | (go_at_call 16; refine (rcell_any _ _).mono ?_; rintro e w' ⟨rfl, rfl⟩) | (go_at_call 18; refine (rflag_any _ _).mono ?_; rintro e w' ⟨rfl, rfl⟩) | (go_at_call 24; refine (half_any _ (by omega) _).mono ?_; rintro e w' ⟨rfl, rfl⟩) | (go_at_call 30; refine (rquot_any _ _ (by omega) (by omega) (by assumption) _).mono ?_; rintro e w' ⟨rfl, rfl⟩) | (go_at_call 27; refine (power_any _ (by omega) (by omega) _).mono ?_; rintro e w' ⟨rfl, rfl⟩))
  go_ret
  exact ⟨ret_int (rb_25 x y H0.out), rfl⟩
set_option maxHeartbeats 400000 in
theorem div_26 (x y : Int) (hx : C x) (hy : C y) (h0 : y ≠ 0) (w : World) :
    Calls Try.prog 25 #[.int .i64 26, .int .u16 x, .int .u16 y] w fun e w' => e = .returned (.int .u16 (bi 26 x y)) ∧ w' = w := by
  have hs := sg_range hx
  have ht := sg_range hy
  have kx := hx
  have ky := hy
  unfold C at kx ky
  have ht0 : sg y ≠ 0 := fun e => h0 ((sg_zero hy).1 e)
  have hq := tdiv_range (sg x) (sg y) (by omega)
  have hm := mul_range ((sg x).tdiv (sg y)) (sg y) hq (by omega)
  have hq2 := ediv_range x y (by omega) (by omega) (by omega)
  have hm2 := mul_range (x / y) y (by omega) (by omega)
  have h1 : 1 ≤ y := by omega
  have H0 : Hid (y ≠ 0) := h0
  have b0 : (y == 0) = false := by simpa using h0
  clear h0
  go_enter Try.func25, Try.ntmps25
  go_wp2_with (first | (go_at_call 15; refine (rsigned_any _ ?_ _).mono ?_; rotate_left 1; rintro e w' ⟨rfl, rfl⟩; rotate_left 1; (first | exact hx | exact hy)) | (go_at_call 16; refine (rcell_any _ _).mono ?_; rintro e w' ⟨rfl, rfl⟩) | (go_at_call 18; refine (rflag_any _ _).mono ?_; rintro e w' ⟨rfl, rfl⟩) | (go_at_call 24; refine (half_any _ (by omega) _).mono ?_; rintro e w' ⟨rfl, rfl⟩) | (go_at_call 30; refine (rquot_any _ _ (by omega) (by omega) (by assumption) _).mono ?_; rintro e w' ⟨rfl, rfl⟩) | (go_at_call 27; refine (power_any _ (by omega) (by omega) _).mono ?_; rintro e w' ⟨rfl, rfl⟩))
  go_ret
  exact ⟨ret_int (rb_26 x y H0.out), rfl⟩
set_option maxHeartbeats 400000 in
theorem div_27 (x y : Int) (hx : C x) (hy : C y) (h0 : y ≠ 0) (w : World) :
    Calls Try.prog 25 #[.int .i64 27, .int .u16 x, .int .u16 y] w fun e w' => e = .returned (.int .u16 (bi 27 x y)) ∧ w' = w := by
  have hs := sg_range hx
  have ht := sg_range hy
  have kx := hx
  have ky := hy
  unfold C at kx ky
  have ht0 : sg y ≠ 0 := fun e => h0 ((sg_zero hy).1 e)
  have hq := tdiv_range (sg x) (sg y) (by omega)
  have hm := mul_range ((sg x).tdiv (sg y)) (sg y) hq (by omega)
  have hq2 := ediv_range x y (by omega) (by omega) (by omega)
  have hm2 := mul_range (x / y) y (by omega) (by omega)
  have h1 : 1 ≤ y := by omega
  have H0 : Hid (y ≠ 0) := h0
  have b0 : (y == 0) = false := by simpa using h0
  clear h0
  go_enter Try.func25, Try.ntmps25
  go_wp2_with (first | (go_at_call 15; refine (rsigned_any _ ?_ _).mono ?_; rotate_left 1; rintro e w' ⟨rfl, rfl⟩; rotate_left 1; (first | exact hx | exact hy)) | (go_at_call 16; refine (rcell_any _ _).mono ?_; rintro e w' ⟨rfl, rfl⟩) | (go_at_call 18; refine (rflag_any _ _).mono ?_; rintro e w' ⟨rfl, rfl⟩) | (go_at_call 24; refine (half_any _ (by omega) _).mono ?_; rintro e w' ⟨rfl, rfl⟩) | (go_at_call 30; refine (rquot_any _ _ (by omega) (by omega) (by assumption) _).mono ?_; rintro e w' ⟨rfl, rfl⟩) | (go_at_call 27; refine (power_any _ (by omega) (by omega) _).mono ?_; rintro e w' ⟨rfl, rfl⟩))
  go_ret
  exact ⟨ret_int (rb_27 x y H0.out), rfl⟩
end Go.Proofs.Ytmcfbcebjfeemaa
