import Derived.Test.YteldjmecomngeaaGreatVTks
import Derived.Test.YteldjmecomngeaaGreatCMath
import Derived.Test.YteldjmecomngeaaGreatSKit
import Derived.Test.YteldjmecomngeaaGreatVROne
import Derived.Test.YteldjmecomngeaaGreatCLeaf
namespace Go.Proofs.YteldjmecomngeaaGreat.V
open Go.RowKit
open Go.Proofs
set_option linter.unusedVariables false
set_option linter.unusedSimpArgs false
set_option maxHeartbeats 1000000
set_option maxRecDepth 100000
theorem w64 (z : Int) (h1 : -9000000000000000000 <= z) (h2 : z <= 9000000000000000000) : wrap64 z = z := by
 exact IntWalk.wrap64_in z (by omega)
theorem t24 (x y : Int) (hx : C.C x) (h : y ≠ 0) : IntKind.u16.wrap ((wrap64 (wrap64 ((C.sg x).tdiv (C.sg y)) + 65536)).tmod 65536) = C.bi 24 x y := by
 have a := C.sg_range hx
 have q := C.tdiv_range (C.sg x) (C.sg y) (by omega)
 have e : C.bi 24 x y = (C.sg x).tdiv (C.sg y) % 65536 := by simp [C.bi, C.biRaw, C.cl, h]
 rw [e]
 generalize (C.sg x).tdiv (C.sg y) = z at *
 rw [w64 z (by omega) (by omega), w64 _ (by omega) (by omega), Int.tmod_eq_emod_of_nonneg (by omega), u16w]
 omega
theorem t25 (x y : Int) (hx : C.C x) (h : y ≠ 0) : IntKind.u16.wrap ((wrap64 (wrap64 ((C.sg x).tmod (C.sg y)) + 65536)).tmod 65536) = C.bi 25 x y := by
 have a := C.sg_range hx
 have q := C.tmod_range (C.sg x) (C.sg y) (by omega)
 have e : C.bi 25 x y = (C.sg x).tmod (C.sg y) % 65536 := by simp [C.bi, C.biRaw, C.cl, h]
 rw [e]
 generalize (C.sg x).tmod (C.sg y) = z at *
 rw [w64 z (by omega) (by omega), w64 _ (by omega) (by omega), Int.tmod_eq_emod_of_nonneg (by omega), u16w]
 omega
theorem t25' (x y : Int) (hx : C.C x) (h : y ≠ 0) : IntKind.u16.wrap ((wrap64 ((C.sg x).tmod (C.sg y) + 65536)).tmod 65536) = C.bi 25 x y := by
 have a := C.sg_range hx
 have q := C.tmod_range (C.sg x) (C.sg y) (by omega)
 have e : C.bi 25 x y = (C.sg x).tmod (C.sg y) % 65536 := by simp [C.bi, C.biRaw, C.cl, h]
 rw [e]
 generalize (C.sg x).tmod (C.sg y) = z at *
 rw [w64 _ (by omega) (by omega), Int.tmod_eq_emod_of_nonneg (by omega), u16w]
 omega
theorem two_21 (x y : Int) (hx : C.C x) (hy : C.C y) (w : World) : Calls Tryz.prog 83 #[.int .i64 21, .int .u16 x, .int .u16 y] w fun e w' => e = .returned (.int .u16 (C.bi 21 x y)) /\ w' = w := by
 have kx := hx
 have ky := hy
 unfold C.C at kx ky
 go_enter Tryz.func83, Tryz.ntmps83
 go_wp2_with (first | refine V.kw (rsg_any _ (by assumption) _) ?_ | refine V.kw (rfl_any _ _) ?_)
 go_ret
 exact ⟨ri (by rw [u16w]; simp [C.bi, C.biRaw, C.cl]), rfl⟩
theorem two_22 (x y : Int) (hx : C.C x) (hy : C.C y) (w : World) : Calls Tryz.prog 83 #[.int .i64 22, .int .u16 x, .int .u16 y] w fun e w' => e = .returned (.int .u16 (C.bi 22 x y)) /\ w' = w := by
 have kx := hx
 have ky := hy
 unfold C.C at kx ky
 go_enter Tryz.func83, Tryz.ntmps83
 go_wp2_with (first | refine V.kw (rsg_any _ (by assumption) _) ?_ | refine V.kw (rfl_any _ _) ?_)
 go_ret
 exact ⟨ri (by rw [u16w]; simp [C.bi, C.biRaw, C.cl]), rfl⟩
theorem two_23 (x y : Int) (hx : C.C x) (hy : C.C y) (w : World) : Calls Tryz.prog 83 #[.int .i64 23, .int .u16 x, .int .u16 y] w fun e w' => e = .returned (.int .u16 (C.bi 23 x y)) /\ w' = w := by
 have kx := hx
 have ky := hy
 unfold C.C at kx ky
 go_enter Tryz.func83, Tryz.ntmps83
 go_wp2_with (first | refine V.kw (rsg_any _ (by assumption) _) ?_ | refine V.kw (rfl_any _ _) ?_)
 go_ret
 exact ⟨ri (by rw [u16w]; simp [C.bi, C.biRaw, C.cl]), rfl⟩
theorem two_24z (x y : Int) (hx : C.C x) (hy : C.C y) (h : y = 0) (w : World) : Calls Tryz.prog 83 #[.int .i64 24, .int .u16 x, .int .u16 y] w fun e w' => e = .returned (.int .u16 (C.bi 24 x y)) /\ w' = w := by
 have kx := hx
 have ky := hy
 unfold C.C at kx ky
 have z0 := (C.sg_zero hy).2 h
 have z1 : (C.sg y == 0) = true := by rw [z0]; rfl
 subst h
 go_enter Tryz.func83, Tryz.ntmps83
 go_wp2_with (first | refine V.kw (rsg_any _ (by assumption) _) ?_ | refine V.kw (rfl_any _ _) ?_)
 go_ret
 exact ⟨ri (by simp [C.bi, C.biRaw, C.cl]), rfl⟩
theorem two_25z (x y : Int) (hx : C.C x) (hy : C.C y) (h : y = 0) (w : World) : Calls Tryz.prog 83 #[.int .i64 25, .int .u16 x, .int .u16 y] w fun e w' => e = .returned (.int .u16 (C.bi 25 x y)) /\ w' = w := by
 have kx := hx
 have ky := hy
 unfold C.C at kx ky
 have z0 := (C.sg_zero hy).2 h
 have z1 : (C.sg y == 0) = true := by rw [z0]; rfl
 subst h
 go_enter Tryz.func83, Tryz.ntmps83
 go_wp2_with (first | refine V.kw (rsg_any _ (by assumption) _) ?_ | refine V.kw (rfl_any _ _) ?_)
 go_ret
 exact ⟨ri (by simp [C.bi, C.biRaw, C.cl]), rfl⟩
theorem two_26z (x y : Int) (hx : C.C x) (hy : C.C y) (h : y = 0) (w : World) : Calls Tryz.prog 83 #[.int .i64 26, .int .u16 x, .int .u16 y] w fun e w' => e = .returned (.int .u16 (C.bi 26 x y)) /\ w' = w := by
 have kx := hx
 have ky := hy
 unfold C.C at kx ky
 have z0 := (C.sg_zero hy).2 h
 have z1 : (C.sg y == 0) = true := by rw [z0]; rfl
 subst h
 go_enter Tryz.func83, Tryz.ntmps83
 go_wp2_with (first | refine V.kw (rsg_any _ (by assumption) _) ?_ | refine V.kw (rfl_any _ _) ?_)
 go_ret
 exact ⟨ri (by simp [C.bi, C.biRaw, C.cl]), rfl⟩
theorem two_27z (x y : Int) (hx : C.C x) (hy : C.C y) (h : y = 0) (w : World) : Calls Tryz.prog 83 #[.int .i64 27, .int .u16 x, .int .u16 y] w fun e w' => e = .returned (.int .u16 (C.bi 27 x y)) /\ w' = w := by
 have kx := hx
 have ky := hy
 unfold C.C at kx ky
 have z0 := (C.sg_zero hy).2 h
 have z1 : (C.sg y == 0) = true := by rw [z0]; rfl
 subst h
 go_enter Tryz.func83, Tryz.ntmps83
 go_wp2_with (first | refine V.kw (rsg_any _ (by assumption) _) ?_ | refine V.kw (rfl_any _ _) ?_)
 go_ret
 exact ⟨ri (by simp [C.bi, C.biRaw, C.cl]), rfl⟩
theorem two_24n (x y : Int) (hx : C.C x) (hy : C.C y) (h : y ≠ 0) (w : World) : Calls Tryz.prog 83 #[.int .i64 24, .int .u16 x, .int .u16 y] w fun e w' => e = .returned (.int .u16 (C.bi 24 x y)) /\ w' = w := by
 have kx := hx
 have ky := hy
 unfold C.C at kx ky
 have z0 : ¬ C.sg y = 0 := fun e => h ((C.sg_zero hy).1 e)
 have z1 : (C.sg y == 0) = false := by simpa using z0
 have z2 : (y == 0) = false := by simpa using h
 have H0 : Hid (y ≠ 0) := h
 go_enter Tryz.func83, Tryz.ntmps83
 go_wp2_with (first | refine V.kw (rsg_any _ (by assumption) _) ?_ | refine V.kw (rfl_any _ _) ?_)
 go_ret
 exact ⟨ri (t24 x y hx H0.out), rfl⟩
theorem two_25n (x y : Int) (hx : C.C x) (hy : C.C y) (h : y ≠ 0) (w : World) : Calls Tryz.prog 83 #[.int .i64 25, .int .u16 x, .int .u16 y] w fun e w' => e = .returned (.int .u16 (C.bi 25 x y)) /\ w' = w := by
 have kx := hx
 have ky := hy
 unfold C.C at kx ky
 have z0 : ¬ C.sg y = 0 := fun e => h ((C.sg_zero hy).1 e)
 have z1 : (C.sg y == 0) = false := by simpa using z0
 have z2 : (y == 0) = false := by simpa using h
 have H0 : Hid (y ≠ 0) := h
 go_enter Tryz.func83, Tryz.ntmps83
 go_wp2_with (first | refine V.kw (rsg_any _ (by assumption) _) ?_ | refine V.kw (rfl_any _ _) ?_)
 go_ret
 exact ⟨ri (by first | exact t25 x y hx H0.out | exact t25' x y hx H0.out), rfl⟩
theorem two_26n (x y : Int) (hx : C.C x) (hy : C.C y) (h : y ≠ 0) (w : World) : Calls Tryz.prog 83 #[.int .i64 26, .int .u16 x, .int .u16 y] w fun e w' => e = .returned (.int .u16 (C.bi 26 x y)) /\ w' = w := by
 have kx := hx
 have ky := hy
 unfold C.C at kx ky
 have z0 : ¬ C.sg y = 0 := fun e => h ((C.sg_zero hy).1 e)
 have z1 : (C.sg y == 0) = false := by simpa using z0
 have z2 : (y == 0) = false := by simpa using h
 have H0 : Hid (y ≠ 0) := h
 go_enter Tryz.func83, Tryz.ntmps83
 go_wp2_with (first | refine V.kw (rsg_any _ (by assumption) _) ?_ | refine V.kw (rfl_any _ _) ?_)
 go_ret
 exact ⟨ri (by rw [u16w, Int.tdiv_eq_ediv_of_nonneg kx.1]; simp [C.bi, C.biRaw, C.cl, H0.out]), rfl⟩
theorem two_27n (x y : Int) (hx : C.C x) (hy : C.C y) (h : y ≠ 0) (w : World) : Calls Tryz.prog 83 #[.int .i64 27, .int .u16 x, .int .u16 y] w fun e w' => e = .returned (.int .u16 (C.bi 27 x y)) /\ w' = w := by
 have kx := hx
 have ky := hy
 unfold C.C at kx ky
 have z0 : ¬ C.sg y = 0 := fun e => h ((C.sg_zero hy).1 e)
 have z1 : (C.sg y == 0) = false := by simpa using z0
 have z2 : (y == 0) = false := by simpa using h
 have H0 : Hid (y ≠ 0) := h
 go_enter Tryz.func83, Tryz.ntmps83
 go_wp2_with (first | refine V.kw (rsg_any _ (by assumption) _) ?_ | refine V.kw (rfl_any _ _) ?_)
 go_ret
 exact ⟨ri (by have := H0.out; (have e := Int.emod_lt_of_pos x (show 0 < y by omega); have e2 := Int.emod_nonneg x this; simp [C.bi, C.biRaw, C.cl, this]; omega)), rfl⟩
theorem two_30l (x y : Int) (hx : C.C x) (hy : C.C y) (h : C.sg x < C.sg y) (w : World) : Calls Tryz.prog 83 #[.int .i64 30, .int .u16 x, .int .u16 y] w fun e w' => e = .returned (.int .u16 (C.bi 30 x y)) /\ w' = w := by
 have kx := hx
 have ky := hy
 unfold C.C at kx ky
 go_enter Tryz.func83, Tryz.ntmps83
 go_wp2_with (first | refine V.kw (rsg_any _ (by assumption) _) ?_ | refine V.kw (rfl_any _ _) ?_)
 go_ret
 exact ⟨ri (by have := C.cl_sg hx; simp [C.bi, C.biRaw, Int.min_eq_left (show C.sg x <= C.sg y by omega), this]), rfl⟩
theorem two_30g (x y : Int) (hx : C.C x) (hy : C.C y) (h : ¬ C.sg x < C.sg y) (w : World) : Calls Tryz.prog 83 #[.int .i64 30, .int .u16 x, .int .u16 y] w fun e w' => e = .returned (.int .u16 (C.bi 30 x y)) /\ w' = w := by
 have kx := hx
 have ky := hy
 unfold C.C at kx ky
 go_enter Tryz.func83, Tryz.ntmps83
 go_wp2_with (first | refine V.kw (rsg_any _ (by assumption) _) ?_ | refine V.kw (rfl_any _ _) ?_)
 go_ret
 exact ⟨ri (by have := C.cl_sg hy; simp [C.bi, C.biRaw, Int.min_eq_right (show C.sg y <= C.sg x by omega), this]), rfl⟩
theorem two_31g (x y : Int) (hx : C.C x) (hy : C.C y) (h : C.sg y < C.sg x) (w : World) : Calls Tryz.prog 83 #[.int .i64 31, .int .u16 x, .int .u16 y] w fun e w' => e = .returned (.int .u16 (C.bi 31 x y)) /\ w' = w := by
 have kx := hx
 have ky := hy
 unfold C.C at kx ky
 go_enter Tryz.func83, Tryz.ntmps83
 go_wp2_with (first | refine V.kw (rsg_any _ (by assumption) _) ?_ | refine V.kw (rfl_any _ _) ?_)
 go_ret
 exact ⟨ri (by have := C.cl_sg hx; simp [C.bi, C.biRaw, Int.max_eq_left (show C.sg y <= C.sg x by omega), this]), rfl⟩
theorem two_31l (x y : Int) (hx : C.C x) (hy : C.C y) (h : ¬ C.sg y < C.sg x) (w : World) : Calls Tryz.prog 83 #[.int .i64 31, .int .u16 x, .int .u16 y] w fun e w' => e = .returned (.int .u16 (C.bi 31 x y)) /\ w' = w := by
 have kx := hx
 have ky := hy
 unfold C.C at kx ky
 go_enter Tryz.func83, Tryz.ntmps83
 go_wp2_with (first | refine V.kw (rsg_any _ (by assumption) _) ?_ | refine V.kw (rfl_any _ _) ?_)
 go_ret
 exact ⟨ri (by have := C.cl_sg hy; simp [C.bi, C.biRaw, Int.max_eq_right (show C.sg x <= C.sg y by omega), this]), rfl⟩
theorem two_36 (x y : Int) (hx : C.C x) (hy : C.C y) (w : World) : Calls Tryz.prog 83 #[.int .i64 36, .int .u16 x, .int .u16 y] w fun e w' => e = .returned (.int .u16 (C.bi 36 x y)) /\ w' = w := by
 have kx := hx
 have ky := hy
 unfold C.C at kx ky
 go_enter Tryz.func83, Tryz.ntmps83
 go_wp2_with (first | refine V.kw (rsg_any _ (by assumption) _) ?_ | refine V.kw (rfl_any _ _) ?_)
 go_ret
 exact ⟨ri (C.b_36 x y hx hy), rfl⟩
theorem two_37 (x y : Int) (hx : C.C x) (hy : C.C y) (w : World) : Calls Tryz.prog 83 #[.int .i64 37, .int .u16 x, .int .u16 y] w fun e w' => e = .returned (.int .u16 (C.bi 37 x y)) /\ w' = w := by
 have kx := hx
 have ky := hy
 unfold C.C at kx ky
 go_enter Tryz.func83, Tryz.ntmps83
 go_wp2_with (first | refine V.kw (rsg_any _ (by assumption) _) ?_ | refine V.kw (rfl_any _ _) ?_)
 go_ret
 exact ⟨ri (C.b_37 x y hx hy), rfl⟩
theorem two_38 (x y : Int) (hx : C.C x) (hy : C.C y) (w : World) : Calls Tryz.prog 83 #[.int .i64 38, .int .u16 x, .int .u16 y] w fun e w' => e = .returned (.int .u16 (C.bi 38 x y)) /\ w' = w := by
 have kx := hx
 have ky := hy
 unfold C.C at kx ky
 go_enter Tryz.func83, Tryz.ntmps83
 go_wp2_with (first | refine V.kw (rsg_any _ (by assumption) _) ?_ | refine V.kw (rfl_any _ _) ?_)
 go_ret
 exact ⟨ri (C.b_38 x y hx hy), rfl⟩
theorem two_42 (x y : Int) (hx : C.C x) (hy : C.C y) (w : World) : Calls Tryz.prog 83 #[.int .i64 42, .int .u16 x, .int .u16 y] w fun e w' => e = .returned (.int .u16 (C.bi 42 x y)) /\ w' = w := by
 have kx := hx
 have ky := hy
 unfold C.C at kx ky
 go_enter Tryz.func83, Tryz.ntmps83
 go_wp2_with (first | refine V.kw (rsg_any _ (by assumption) _) ?_ | refine V.kw (rfl_any _ _) ?_)
 go_ret
 exact ⟨ri (by first | (simp [C.bi, C.biRaw, C.cl_id (C.C_fl _)]; done) | (simp [C.bi, C.biRaw, C.cl_id (C.C_fl _)]; rfl) | (rw [C.bi]; simp [C.biRaw, C.cl_id (C.C_fl _)]; congr 1; simp [bne]) | trace_state), rfl⟩
theorem two_43 (x y : Int) (hx : C.C x) (hy : C.C y) (w : World) : Calls Tryz.prog 83 #[.int .i64 43, .int .u16 x, .int .u16 y] w fun e w' => e = .returned (.int .u16 (C.bi 43 x y)) /\ w' = w := by
 have kx := hx
 have ky := hy
 unfold C.C at kx ky
 go_enter Tryz.func83, Tryz.ntmps83
 go_wp2_with (first | refine V.kw (rsg_any _ (by assumption) _) ?_ | refine V.kw (rfl_any _ _) ?_)
 go_ret
 exact ⟨ri (by first | (simp [C.bi, C.biRaw, C.cl_id (C.C_fl _)]; done) | (simp [C.bi, C.biRaw, C.cl_id (C.C_fl _)]; rfl) | (rw [C.bi]; simp [C.biRaw, C.cl_id (C.C_fl _)]; congr 1; simp [bne]) | trace_state), rfl⟩
theorem two_44 (x y : Int) (hx : C.C x) (hy : C.C y) (w : World) : Calls Tryz.prog 83 #[.int .i64 44, .int .u16 x, .int .u16 y] w fun e w' => e = .returned (.int .u16 (C.bi 44 x y)) /\ w' = w := by
 have kx := hx
 have ky := hy
 unfold C.C at kx ky
 go_enter Tryz.func83, Tryz.ntmps83
 go_wp2_with (first | refine V.kw (rsg_any _ (by assumption) _) ?_ | refine V.kw (rfl_any _ _) ?_)
 go_ret
 exact ⟨ri (by first | (simp [C.bi, C.biRaw, C.cl_id (C.C_fl _)]; done) | (simp [C.bi, C.biRaw, C.cl_id (C.C_fl _)]; rfl) | (rw [C.bi]; simp [C.biRaw, C.cl_id (C.C_fl _)]; congr 1; simp [bne]) | trace_state), rfl⟩
theorem two_45 (x y : Int) (hx : C.C x) (hy : C.C y) (w : World) : Calls Tryz.prog 83 #[.int .i64 45, .int .u16 x, .int .u16 y] w fun e w' => e = .returned (.int .u16 (C.bi 45 x y)) /\ w' = w := by
 have kx := hx
 have ky := hy
 unfold C.C at kx ky
 go_enter Tryz.func83, Tryz.ntmps83
 go_wp2_with (first | refine V.kw (rsg_any _ (by assumption) _) ?_ | refine V.kw (rfl_any _ _) ?_)
 go_ret
 exact ⟨ri (by first | (simp [C.bi, C.biRaw, C.cl_id (C.C_fl _)]; done) | (simp [C.bi, C.biRaw, C.cl_id (C.C_fl _)]; rfl) | (rw [C.bi]; simp [C.biRaw, C.cl_id (C.C_fl _)]; congr 1; simp [bne]) | trace_state), rfl⟩
theorem two_46 (x y : Int) (hx : C.C x) (hy : C.C y) (w : World) : Calls Tryz.prog 83 #[.int .i64 46, .int .u16 x, .int .u16 y] w fun e w' => e = .returned (.int .u16 (C.bi 46 x y)) /\ w' = w := by
 have kx := hx
 have ky := hy
 unfold C.C at kx ky
 go_enter Tryz.func83, Tryz.ntmps83
 go_wp2_with (first | refine V.kw (rsg_any _ (by assumption) _) ?_ | refine V.kw (rfl_any _ _) ?_)
 go_ret
 exact ⟨ri (by first | (simp [C.bi, C.biRaw, C.cl_id (C.C_fl _)]; done) | (simp [C.bi, C.biRaw, C.cl_id (C.C_fl _)]; rfl) | (rw [C.bi]; simp [C.biRaw, C.cl_id (C.C_fl _)]; congr 1; simp [bne]) | trace_state), rfl⟩
theorem two_47 (x y : Int) (hx : C.C x) (hy : C.C y) (w : World) : Calls Tryz.prog 83 #[.int .i64 47, .int .u16 x, .int .u16 y] w fun e w' => e = .returned (.int .u16 (C.bi 47 x y)) /\ w' = w := by
 have kx := hx
 have ky := hy
 unfold C.C at kx ky
 go_enter Tryz.func83, Tryz.ntmps83
 go_wp2_with (first | refine V.kw (rsg_any _ (by assumption) _) ?_ | refine V.kw (rfl_any _ _) ?_)
 go_ret
 exact ⟨ri (by first | (simp [C.bi, C.biRaw, C.cl_id (C.C_fl _)]; done) | (simp [C.bi, C.biRaw, C.cl_id (C.C_fl _)]; rfl) | (rw [C.bi]; simp [C.biRaw, C.cl_id (C.C_fl _)]; congr 1; simp [bne]) | trace_state), rfl⟩
def sh (x : Int) : Nat -> Int
 | 0 => x % 65536
 | k + 1 => (sh x k + sh x k) % 65536
theorem sh_eq (x : Int) : ∀ k, sh x k = (x * 2 ^ k) % 65536
 | 0 => by simp [sh]
 | k + 1 => by
  rw [sh, sh_eq x k, Int.pow_succ, <- Int.mul_assoc]; generalize x * 2 ^ k = z
  omega
theorem sh_zero (x : Int) (k : Nat) (h : sh x k = 0) : ∀ j, sh x (k + j) = 0
 | 0 => h
 | j + 1 => by rw [<- Nat.add_assoc, sh, sh_zero x k h j]; rfl
theorem sh_16 (x : Int) : sh x 16 = 0 := by rw [sh_eq]; omega
theorem bi_sh (x y : Int) (h0 : 0 <= y) : C.bi 40 x y = sh x y.toNat := by
 by_cases h : 15 < y
 ·obtain ⟨j, hj⟩ : ∃ j, y.toNat = 16 + j := ⟨y.toNat - 16, by omega⟩
  rw [hj, sh_zero x 16 (sh_16 x) j]
  simp [C.bi, C.biRaw, C.cl, h]
 ·rw [sh_eq]; simp [C.bi, C.biRaw, C.cl, h]
def sr (x : Int) : Nat -> Int
 | 0 => x
 | k + 1 => sr x k / 2
theorem sr_eq (x : Int) : ∀ k, sr x k = x / 2 ^ k
 | 0 => by simp [sr]
 | k + 1 => by rw [sr, sr_eq x k, Int.pow_succ, Int.ediv_ediv_of_nonneg (Int.le_of_lt (Int.pow_pos (by decide)))]
theorem sr_nn (x : Int) (hx : C.C x) : ∀ k, C.C (sr x k)
 | 0 => hx
 | k + 1 => by have := sr_nn x hx k; unfold C.C at *; rw [sr]; omega
theorem sr_zero (x : Int) (k : Nat) (h : sr x k = 0) : ∀ j, sr x (k + j) = 0
 | 0 => h
 | j + 1 => by rw [<- Nat.add_assoc, sr, sr_zero x k h j]; rfl
theorem sr_16 (x : Int) (hx : C.C x) : sr x 16 = 0 := by unfold C.C at hx; rw [sr_eq]; omega
theorem bi_sr (x y : Int) (hx : C.C x) (h0 : 0 <= y) : C.bi 41 x y = sr x y.toNat := by
 have hn := sr_nn x hx y.toNat
 by_cases h : 15 < y
 ·obtain ⟨j, hj⟩ : ∃ j, y.toNat = 16 + j := ⟨y.toNat - 16, by omega⟩
  rw [hj, sr_zero x 16 (sr_16 x hx) j]
  simp [C.bi, C.biRaw, C.cl, h]
 ·have e : C.bi 41 x y = sr x y.toNat % 65536 := by rw [sr_eq]; simp [C.bi, C.biRaw, C.cl, h]
  rw [e]; unfold C.C at hn; omega
theorem sh_c (x : Int) : ∀ k, C.C (sh x k)
 | 0 => by unfold C.C; rw [sh]; omega
 | k + 1 => by unfold C.C; rw [sh]; omega
theorem two_40 (x y : Int) (hx : C.C x) (hy : C.C y) (w : World) : Calls Tryz.prog 83 #[.int .i64 40, .int .u16 x, .int .u16 y] w fun e w' => e = .returned (.int .u16 (C.bi 40 x y)) /\ w' = w := by
 have kx := hx
 have ky := hy
 unfold C.C at kx ky
 have HB := hd8 (bi_sh x y hy.1)
 have HX := hd8 hx
 go_enter Tryz.func83, Tryz.ntmps83
 go_wp2_with (first | refine V.kw (rsg_any _ (by assumption) _) ?_)
 go_loopw [1, 9] (fun z i wr => ∃ (k : Nat) (u : Int), (k : Int) <= y /\ i = .int .i64 (k : Int) /\ z = .int .u16 u /\ u = sh x k /\ wr = w) (fun _ i _ => y.toNat - (intOf i).toNat)
 case atStart => exact ⟨0, x, by omega, rfl, rfl, (by show x = sh x 0; rw [sh]; omega), rfl⟩
 case round =>
  obtain ⟨k, u, hk, rfl, rfl, hu, hwr⟩ := hrel; subst hwr; have HU := hd8 hu; have hc : 0 <= u /\ u < 65536 := by rw [hu]; exact sh_c x k
  clear hu
  by_cases q1 : (k : Int) < y
  ·by_cases q2 : u = 0
   ·have e2 : (u != 0) = false := by simp [q2]
    have hres : C.bi 40 x y = 0 := by
     rw [HB.out]; obtain ⟨j, hj⟩ : ∃ j, y.toNat = k + j := ⟨y.toNat - k, by omega⟩
     rw [hj]; exact sh_zero x k (HU.out.symm.trans q2) j
    have HR := hd8 hres; clear hres; subst q2; go_wp2; go_ret; exact ⟨ri HR.out.symm, rfl⟩
   ·have e2 : (u != 0) = true := by simpa using q2
    have HN := hd8 (show IntKind.u16.wrap (u + u) = sh x (k + 1) by rw [u16w, sh, <- HU.out]); go_wp2; go_roundw
    case rel =>
     first
      | exact ⟨k + 1, _, by omega, by go_num, rfl, HN.out, rfl⟩
      | exact ⟨k + 1, by omega, by omega, HN.out⟩
      | exact ⟨k + 1, by omega, by go_num, HN.out⟩
      | exact ⟨k + 1, _, by omega, by first | rfl | (congr 1), rfl, HN.out, trivial⟩
    case measure => simp [intOf]; omega
  ·have hres : u = C.bi 40 x y := by rw [HB.out, HU.out, show y.toNat = k by omega]
   have HR := hd8 hres; clear hres; go_wp2; go_ret; exact ⟨ri HR.out, rfl⟩
theorem two_41 (x y : Int) (hx : C.C x) (hy : C.C y) (w : World) : Calls Tryz.prog 83 #[.int .i64 41, .int .u16 x, .int .u16 y] w fun e w' => e = .returned (.int .u16 (C.bi 41 x y)) /\ w' = w := by
 have kx := hx
 have ky := hy
 unfold C.C at kx ky
 have HB := hd8 (bi_sr x y hx hy.1)
 have HX := hd8 hx
 go_enter Tryz.func83, Tryz.ntmps83
 go_wp2_with (first | refine V.kw (rsg_any _ (by assumption) _) ?_)
 go_loopw [1, 10] (fun z i wr => ∃ (k : Nat) (u : Int), (k : Int) <= y /\ i = .int .i64 (k : Int) /\ z = .int .u16 u /\ u = sr x k /\ wr = w) (fun _ i _ => y.toNat - (intOf i).toNat)
 case atStart => exact ⟨0, x, by omega, rfl, rfl, (by show x = sr x 0; rw [sr]), rfl⟩
 case round =>
  obtain ⟨k, u, hk, rfl, rfl, hu, hwr⟩ := hrel; subst hwr; have HU := hd8 hu; have hc : 0 <= u /\ u < 65536 := by rw [hu]; exact sr_nn x HX.out k
  clear hu
  by_cases q1 : (k : Int) < y
  ·by_cases q2 : u = 0
   ·have e2 : (u != 0) = false := by simp [q2]
    have hres : C.bi 41 x y = 0 := by
     rw [HB.out]; obtain ⟨j, hj⟩ : ∃ j, y.toNat = k + j := ⟨y.toNat - k, by omega⟩
     rw [hj]; exact sr_zero x k (HU.out.symm.trans q2) j
    have HR := hd8 hres; clear hres; subst q2; go_wp2; go_ret; exact ⟨ri HR.out.symm, rfl⟩
   ·have e2 : (u != 0) = true := by simpa using q2
    have HN := hd8 (show IntKind.u16.wrap (u.tdiv 2) = sr x (k + 1) by rw [u16w, sr, <- HU.out]; rw [Int.tdiv_eq_ediv_of_nonneg hc.1]; omega); go_wp2; go_roundw
    case rel =>
     first
      | exact ⟨k + 1, _, by omega, by go_num, rfl, HN.out, rfl⟩
      | exact ⟨k + 1, by omega, by omega, HN.out⟩
      | exact ⟨k + 1, by omega, by go_num, HN.out⟩
      | exact ⟨k + 1, _, by omega, by first | rfl | (congr 1), rfl, HN.out, trivial⟩
    case measure => simp [intOf]; omega
  ·have hres : u = C.bi 41 x y := by rw [HB.out, HU.out, show y.toNat = k by omega]
   have HR := hd8 hres; clear hres; go_wp2; go_ret; exact ⟨ri HR.out, rfl⟩
theorem two_any (op : Nat) (hu : C.isBi op = true) (x y : Int) (hx : C.C x) (hy : C.C y) (w : World) : Calls Tryz.prog 83 #[.int .i64 (op : Int), .int .u16 x, .int .u16 y] w fun e w' => e = .returned (.int .u16 (C.bi op x y)) /\ w' = w := by
 have h : op = 21 \/ op = 22 \/ op = 23 \/ op = 24 \/ op = 25 \/ op = 26 \/ op = 27 \/ op = 30 \/ op = 31 \/ op = 36 \/ op = 37 \/ op = 38 \/ op = 40 \/ op = 41 \/ op = 42 \/ op = 43 \/ op = 44 \/ op = 45 \/ op = 46 \/ op = 47 := by
  simp only [C.isBi, Bool.or_eq_true, beq_iff_eq] at hu
  omega
 rcases h with rfl | rfl | rfl | rfl | rfl | rfl | rfl | rfl | rfl | rfl | rfl | rfl | rfl | rfl | rfl | rfl | rfl | rfl | rfl | rfl
 ·exact two_21 x y hx hy w
 ·exact two_22 x y hx hy w
 ·exact two_23 x y hx hy w
 ·by_cases h : y = 0
  ·exact two_24z x y hx hy h w
  ·exact two_24n x y hx hy h w
 ·by_cases h : y = 0
  ·exact two_25z x y hx hy h w
  ·exact two_25n x y hx hy h w
 ·by_cases h : y = 0
  ·exact two_26z x y hx hy h w
  ·exact two_26n x y hx hy h w
 ·by_cases h : y = 0
  ·exact two_27z x y hx hy h w
  ·exact two_27n x y hx hy h w
 ·by_cases h : C.sg x < C.sg y
  ·exact two_30l x y hx hy h w
  ·exact two_30g x y hx hy h w
 ·by_cases h : C.sg y < C.sg x
  ·exact two_31g x y hx hy h w
  ·exact two_31l x y hx hy h w
 ·exact two_36 x y hx hy w
 ·exact two_37 x y hx hy w
 ·exact two_38 x y hx hy w
 ·exact two_40 x y hx hy w
 ·exact two_41 x y hx hy w
 ·exact two_42 x y hx hy w
 ·exact two_43 x y hx hy w
 ·exact two_44 x y hx hy w
 ·exact two_45 x y hx hy w
 ·exact two_46 x y hx hy w
 ·exact two_47 x y hx hy w
end Go.Proofs.YteldjmecomngeaaGreat.V
