import Derived.Test.YteldjmecomngeaaGreatCMath
import Derived.Test.YteldjmecomngeaaGreatSKit
namespace Go.Proofs.YteldjmecomngeaaGreat.V
open Go.RowKit
open Go.Proofs
set_option linter.unusedVariables false
set_option linter.unusedSimpArgs false
set_option maxHeartbeats 1000000
set_option maxRecDepth 100000
def puN (op : Nat) : Nat := match op with
 | 1 => 1
 | 6 => 2
 | 55 => 1
 | _ => 0
theorem pu_any (op : Nat) (h1 : 1 <= op) (h2 : op <= 63) (w : World) : Calls Tryz.prog 106 #[.int .i64 (op : Int)] w fun e w' => e = .returned (.int .i64 (puN op : Int)) /\ w' = w := by
 have h : op = 1 \/ op = 2 \/ op = 3 \/ op = 4 \/ op = 5 \/ op = 6 \/ op = 7 \/ op = 8 \/ op = 9 \/ op = 10 \/ op = 11 \/ op = 12 \/ op = 13 \/ op = 14 \/ op = 15 \/ op = 16 \/ op = 17 \/ op = 18 \/ op = 19 \/ op = 20 \/ op = 21 \/ op = 22 \/ op = 23 \/ op = 24 \/ op = 25 \/ op = 26 \/ op = 27 \/ op = 28 \/ op = 29 \/ op = 30 \/ op = 31 \/ op = 32 \/ op = 33 \/ op = 34 \/ op = 35 \/ op = 36 \/ op = 37 \/ op = 38 \/ op = 39 \/ op = 40 \/ op = 41 \/ op = 42 \/ op = 43 \/ op = 44 \/ op = 45 \/ op = 46 \/ op = 47 \/ op = 48 \/ op = 49 \/ op = 50 \/ op = 51 \/ op = 52 \/ op = 53 \/ op = 54 \/ op = 55 \/ op = 56 \/ op = 57 \/ op = 58 \/ op = 59 \/ op = 60 \/ op = 61 \/ op = 62 \/ op = 63 := by omega
 rcases h with rfl | rfl | rfl | rfl | rfl | rfl | rfl | rfl | rfl | rfl | rfl | rfl | rfl | rfl | rfl | rfl | rfl | rfl | rfl | rfl | rfl | rfl | rfl | rfl | rfl | rfl | rfl | rfl | rfl | rfl | rfl | rfl | rfl | rfl | rfl | rfl | rfl | rfl | rfl | rfl | rfl | rfl | rfl | rfl | rfl | rfl | rfl | rfl | rfl | rfl | rfl | rfl | rfl | rfl | rfl | rfl | rfl | rfl | rfl | rfl | rfl | rfl | rfl
 all_goals
  go_enter Tryz.func106, Tryz.ntmps106; go_wp2; go_ret; exact ⟨rfl, rfl⟩
def opB (op : Nat) : Bool := match op with
 | 3 => true
 | 4 => true
 | 5 => true
 | 7 => true
 | _ => false
theorem opd_any (op : Nat) (h1 : 1 <= op) (h2 : op <= 63) (w : World) : Calls Tryz.prog 76 #[.int .i64 (op : Int)] w fun e w' => e = .returned (.bool (opB op)) /\ w' = w := by
 have h : op = 3 \/ op = 4 \/ op = 5 \/ op = 7 \/ (op ≠ 3 /\ op ≠ 4 /\ op ≠ 5 /\ op ≠ 7) := by omega
 rcases h with rfl | rfl | rfl | rfl | ⟨a, b, c, d⟩
 ·go_enter Tryz.func76, Tryz.ntmps76
  go_wp2; go_ret; exact ⟨rfl, rfl⟩
 ·go_enter Tryz.func76, Tryz.ntmps76
  go_wp2; go_ret; exact ⟨rfl, rfl⟩
 ·go_enter Tryz.func76, Tryz.ntmps76
  go_wp2; go_ret; exact ⟨rfl, rfl⟩
 ·go_enter Tryz.func76, Tryz.ntmps76
  go_wp2; go_ret; exact ⟨rfl, rfl⟩
 ·have e : opB op = false := by unfold opB; split <;> first | rfl | omega
  have e3 : ((op : Int) == 3) = false := by simp; omega
  have e4 : ((op : Int) == 4) = false := by simp; omega
  have e5 : ((op : Int) == 5) = false := by simp; omega
  have e7 : ((op : Int) == 7) = false := by simp; omega
  rw [e]
  go_enter Tryz.func76, Tryz.ntmps76; go_wp2; go_ret; exact ⟨rfl, rfl⟩
end Go.Proofs.YteldjmecomngeaaGreat.V
