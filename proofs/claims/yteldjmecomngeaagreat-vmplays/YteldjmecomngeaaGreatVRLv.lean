import Derived.Test.YteldjmecomngeaaGreatCMath
import Derived.Test.YteldjmecomngeaaGreatSKit
namespace Go.Proofs.YteldjmecomngeaaGreat.V
open Go.RowKit
open Go.Proofs
set_option linter.unusedVariables false
set_option linter.unusedSimpArgs false
set_option maxHeartbeats 1000000
set_option maxRecDepth 100000
def lvN (op : Nat) : Nat := match op with
 | 2 => 1
 | 3 => 1
 | 12 => 2
 | 14 => 2
 | 15 => 3
 | 16 => 3
 | 17 => 1
 | 18 => 3
 | 19 => 4
 | 21 => 1
 | 22 => 1
 | 23 => 1
 | 24 => 1
 | 25 => 1
 | 26 => 1
 | 27 => 1
 | 28 => 1
 | 29 => 1
 | 30 => 1
 | 31 => 1
 | 32 => 1
 | 33 => 1
 | 34 => 1
 | 35 => 1
 | 36 => 1
 | 37 => 1
 | 38 => 1
 | 39 => 1
 | 40 => 1
 | 41 => 1
 | 42 => 1
 | 43 => 1
 | 44 => 1
 | 45 => 1
 | 46 => 1
 | 47 => 1
 | 48 => 1
 | 49 => 1
 | 50 => 1
 | 52 => 1
 | 56 => 1
 | 57 => 1
 | 58 => 1
 | 59 => 1
 | 61 => 1
 | _ => 0
theorem lv_any (op : Nat) (h1 : 1 <= op) (h2 : op <= 63) (w : World) : Calls Tryz.prog 68 #[.int .i64 (op : Int)] w fun e w' => e = .returned (.int .i64 (lvN op : Int)) /\ w' = w := by
 have h : op = 1 \/ op = 2 \/ op = 3 \/ op = 4 \/ op = 5 \/ op = 6 \/ op = 7 \/ op = 8 \/ op = 9 \/ op = 10 \/ op = 11 \/ op = 12 \/ op = 13 \/ op = 14 \/ op = 15 \/ op = 16 \/ op = 17 \/ op = 18 \/ op = 19 \/ op = 20 \/ op = 21 \/ op = 22 \/ op = 23 \/ op = 24 \/ op = 25 \/ op = 26 \/ op = 27 \/ op = 28 \/ op = 29 \/ op = 30 \/ op = 31 \/ op = 32 \/ op = 33 \/ op = 34 \/ op = 35 \/ op = 36 \/ op = 37 \/ op = 38 \/ op = 39 \/ op = 40 \/ op = 41 \/ op = 42 \/ op = 43 \/ op = 44 \/ op = 45 \/ op = 46 \/ op = 47 \/ op = 48 \/ op = 49 \/ op = 50 \/ op = 51 \/ op = 52 \/ op = 53 \/ op = 54 \/ op = 55 \/ op = 56 \/ op = 57 \/ op = 58 \/ op = 59 \/ op = 60 \/ op = 61 \/ op = 62 \/ op = 63 := by omega
 rcases h with rfl | rfl | rfl | rfl | rfl | rfl | rfl | rfl | rfl | rfl | rfl | rfl | rfl | rfl | rfl | rfl | rfl | rfl | rfl | rfl | rfl | rfl | rfl | rfl | rfl | rfl | rfl | rfl | rfl | rfl | rfl | rfl | rfl | rfl | rfl | rfl | rfl | rfl | rfl | rfl | rfl | rfl | rfl | rfl | rfl | rfl | rfl | rfl | rfl | rfl | rfl | rfl | rfl | rfl | rfl | rfl | rfl | rfl | rfl | rfl | rfl | rfl | rfl
 all_goals
  go_enter Tryz.func68, Tryz.ntmps68; go_wp2; go_ret; exact ⟨rfl, rfl⟩
end Go.Proofs.YteldjmecomngeaaGreat.V
