import Derived.Test.YteldjmecomngeaaGreatVTks
import Derived.Test.YteldjmecomngeaaGreatCMath
import Derived.Test.YteldjmecomngeaaGreatSKit
namespace Go.Proofs.YteldjmecomngeaaGreat.V
open Go.RowKit
open Go.Proofs
set_option linter.unusedVariables false
set_option linter.unusedSimpArgs false
set_option maxHeartbeats 1000000
set_option maxRecDepth 100000
theorem rsg_any (x : Int) (hx : C.C x) (w : World) : Calls Tryz.prog 108 #[.int .u16 x] w fun e w' => e = .returned (.int .i64 (C.sg x)) /\ w' = w := by
 unfold C.C at hx
 by_cases h : x < 32768
 ·have e : C.sg x = x := by unfold C.sg; rw [if_pos h]
  have d1 : decide (32768 <= x) = false := decide_eq_false (by omega); have d2 : ¬ 32768 <= x := by omega
  rw [e]
  go_enter Tryz.func108, Tryz.ntmps108; go_wp2; go_ret; exact ⟨rfl, rfl⟩
 ·have e : C.sg x = x - 65536 := by unfold C.sg; rw [if_neg h]
  have d1 : decide (32768 <= x) = true := decide_eq_true (by omega); have d2 : 32768 <= x := by omega
  have d3 : IntKind.i64.wrap (x - 65536) = x - 65536 := IntWalk.i64_in _ (by omega); rw [e]
  go_enter Tryz.func108, Tryz.ntmps108; go_wp2; go_ret; exact ⟨rfl, rfl⟩
theorem rfl_any (b : Bool) (w : World) : Calls Tryz.prog 107 #[.bool b] w fun e w' => e = .returned (.int .u16 (C.fl b)) /\ w' = w := by
 cases b
 ·go_enter Tryz.func107, Tryz.ntmps107
  go_wp2; go_ret; exact ⟨rfl, rfl⟩
 ·go_enter Tryz.func107, Tryz.ntmps107
  go_wp2; go_ret; exact ⟨rfl, rfl⟩
theorem hd8 {p : Prop} (h : p) : Hid p := h
theorem u16w (z : Int) : IntKind.u16.wrap z = z % 65536 := by simp [IntKind.wrap, IntKind.bits, IntKind.signed]
theorem ri {a b : Int} (h : a = b) : Ending.returned (Value.int .u16 a) = Ending.returned (Value.int .u16 b) := by rw [h]
theorem one_28 (x : Int) (hx : C.C x) (w : World) : Calls Tryz.prog 82 #[.int .i64 28, .int .u16 x] w fun e w' => e = .returned (.int .u16 (C.un 28 x)) /\ w' = w := by
 have kx := hx
 unfold C.C at kx
 go_enter Tryz.func82, Tryz.ntmps82
 go_wp2_with refine V.kw (rfl_any _ _) ?_
 go_ret
 exact ⟨ri (by rw [u16w]; simp [C.un, C.unRaw, C.cl]), rfl⟩
theorem one_32 (x : Int) (hx : C.C x) (w : World) : Calls Tryz.prog 82 #[.int .i64 32, .int .u16 x] w fun e w' => e = .returned (.int .u16 (C.un 32 x)) /\ w' = w := by
 have kx := hx
 unfold C.C at kx
 go_enter Tryz.func82, Tryz.ntmps82
 go_wp2_with refine V.kw (rfl_any _ _) ?_
 go_ret
 exact ⟨ri (by rw [u16w]; simp [C.un, C.unRaw, C.cl]), rfl⟩
theorem one_33 (x : Int) (hx : C.C x) (w : World) : Calls Tryz.prog 82 #[.int .i64 33, .int .u16 x] w fun e w' => e = .returned (.int .u16 (C.un 33 x)) /\ w' = w := by
 have kx := hx
 unfold C.C at kx
 go_enter Tryz.func82, Tryz.ntmps82
 go_wp2_with refine V.kw (rfl_any _ _) ?_
 go_ret
 exact ⟨ri (by rw [u16w]; simp [C.un, C.unRaw, C.cl]), rfl⟩
theorem one_34 (x : Int) (hx : C.C x) (w : World) : Calls Tryz.prog 82 #[.int .i64 34, .int .u16 x] w fun e w' => e = .returned (.int .u16 (C.un 34 x)) /\ w' = w := by
 have kx := hx
 unfold C.C at kx
 go_enter Tryz.func82, Tryz.ntmps82
 go_wp2_with refine V.kw (rfl_any _ _) ?_
 go_ret
 exact ⟨ri (by rw [u16w]; simp [C.un, C.unRaw, C.cl]), rfl⟩
theorem one_39 (x : Int) (hx : C.C x) (w : World) : Calls Tryz.prog 82 #[.int .i64 39, .int .u16 x] w fun e w' => e = .returned (.int .u16 (C.un 39 x)) /\ w' = w := by
 have kx := hx
 unfold C.C at kx
 go_enter Tryz.func82, Tryz.ntmps82
 go_wp2_with refine V.kw (rfl_any _ _) ?_
 go_ret
 exact ⟨ri (C.un_39 x hx), rfl⟩
theorem one_48 (x : Int) (hx : C.C x) (w : World) : Calls Tryz.prog 82 #[.int .i64 48, .int .u16 x] w fun e w' => e = .returned (.int .u16 (C.un 48 x)) /\ w' = w := by
 have kx := hx
 unfold C.C at kx
 go_enter Tryz.func82, Tryz.ntmps82
 go_wp2_with refine V.kw (rfl_any _ _) ?_
 go_ret
 exact ⟨ri (by rw [<- C.un_48]; rfl), rfl⟩
theorem one_49 (x : Int) (hx : C.C x) (w : World) : Calls Tryz.prog 82 #[.int .i64 49, .int .u16 x] w fun e w' => e = .returned (.int .u16 (C.un 49 x)) /\ w' = w := by
 have kx := hx
 unfold C.C at kx
 go_enter Tryz.func82, Tryz.ntmps82
 go_wp2_with refine V.kw (rfl_any _ _) ?_
 go_ret
 exact ⟨ri (by rw [<- C.un_49]; congr 1; apply decide_eq_decide.2; unfold C.sg; split <;> omega), rfl⟩
theorem one_29l (x : Int) (hx : C.C x) (h : x < 32768) (w : World) : Calls Tryz.prog 82 #[.int .i64 29, .int .u16 x] w fun e w' => e = .returned (.int .u16 (C.un 29 x)) /\ w' = w := by
 have kx := hx
 unfold C.C at kx
 have d1 : ¬ 32768 <= x := by omega
 go_enter Tryz.func82, Tryz.ntmps82
 go_wp2_with refine V.kw (rfl_any _ _) ?_
 go_ret
 exact ⟨ri (C.un_29p x hx (by omega)), rfl⟩
theorem one_29g (x : Int) (hx : C.C x) (h : ¬ x < 32768) (w : World) : Calls Tryz.prog 82 #[.int .i64 29, .int .u16 x] w fun e w' => e = .returned (.int .u16 (C.un 29 x)) /\ w' = w := by
 have kx := hx
 unfold C.C at kx
 have d1 : 32768 <= x := by omega
 go_enter Tryz.func82, Tryz.ntmps82
 go_wp2_with refine V.kw (rfl_any _ _) ?_
 go_ret
 exact ⟨ri (by rw [u16w]; simp [C.un, C.unRaw, C.cl, show ¬ x < 32768 by omega]), rfl⟩
theorem one_35l (x : Int) (hx : C.C x) (h : x < 32768) (w : World) : Calls Tryz.prog 82 #[.int .i64 35, .int .u16 x] w fun e w' => e = .returned (.int .u16 (C.un 35 x)) /\ w' = w := by
 have kx := hx
 unfold C.C at kx
 have d1 : ¬ 32768 <= x := by omega
 go_enter Tryz.func82, Tryz.ntmps82
 go_wp2_with refine V.kw (rfl_any _ _) ?_
 go_ret
 exact ⟨ri (by rw [u16w, Int.tdiv_eq_ediv_of_nonneg kx.1]; simp [C.un, C.unRaw, C.cl, C.sg, show x < 32768 by omega]), rfl⟩
theorem one_35g (x : Int) (hx : C.C x) (h : ¬ x < 32768) (w : World) : Calls Tryz.prog 82 #[.int .i64 35, .int .u16 x] w fun e w' => e = .returned (.int .u16 (C.un 35 x)) /\ w' = w := by
 have kx := hx
 unfold C.C at kx
 have d1 : 32768 <= x := by omega
 go_enter Tryz.func82, Tryz.ntmps82
 go_wp2_with refine V.kw (rfl_any _ _) ?_
 go_ret
 exact ⟨ri (by rw [u16w, u16w, Int.tdiv_eq_ediv_of_nonneg kx.1]; simp [C.un, C.unRaw, C.cl, C.sg, show ¬ x < 32768 by omega]; omega), rfl⟩
theorem one_any (op : Nat) (hu : C.isUn op = true) (x : Int) (hx : C.C x) (w : World) : Calls Tryz.prog 82 #[.int .i64 (op : Int), .int .u16 x] w fun e w' => e = .returned (.int .u16 (C.un op x)) /\ w' = w := by
 have h : op = 28 \/ op = 29 \/ op = 32 \/ op = 33 \/ op = 34 \/ op = 35 \/ op = 39 \/ op = 48 \/ op = 49 := by
  simp only [C.isUn, Bool.or_eq_true, beq_iff_eq] at hu
  omega
 rcases h with rfl | rfl | rfl | rfl | rfl | rfl | rfl | rfl | rfl
 ·exact one_28 x hx w
 ·by_cases k : x < 32768
  ·exact one_29l x hx k w
  ·exact one_29g x hx k w
 ·exact one_32 x hx w
 ·exact one_33 x hx w
 ·exact one_34 x hx w
 ·by_cases k : x < 32768
  ·exact one_35l x hx k w
  ·exact one_35g x hx k w
 ·exact one_39 x hx w
 ·exact one_48 x hx w
 ·exact one_49 x hx w
end Go.Proofs.YteldjmecomngeaaGreat.V
