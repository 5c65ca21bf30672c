import Derived.Test.YteldjmecomngeaaGreatCMath
import Derived.Test.YteldjmecomngeaaGreatSKit
namespace Go.Proofs.YteldjmecomngeaaGreat.V
open Go.RowKit
open Go.Proofs
set_option linter.unusedVariables false
set_option linter.unusedSimpArgs false
set_option maxHeartbeats 1000000
set_option maxRecDepth 100000
def tkN (op : Nat) : Nat := match op with
 | 5 => 1
 | 6 => 2
 | 12 => 1
 | 13 => 1
 | 14 => 2
 | 15 => 2
 | 16 => 3
 | 17 => 2
 | 18 => 2
 | 19 => 2
 | 20 => 2
 | 21 => 2
 | 22 => 2
 | 23 => 2
 | 24 => 2
 | 25 => 2
 | 26 => 2
 | 27 => 2
 | 28 => 1
 | 29 => 1
 | 30 => 2
 | 31 => 2
 | 32 => 1
 | 33 => 1
 | 34 => 1
 | 35 => 1
 | 36 => 2
 | 37 => 2
 | 38 => 2
 | 39 => 1
 | 40 => 2
 | 41 => 2
 | 42 => 2
 | 43 => 2
 | 44 => 2
 | 45 => 2
 | 46 => 2
 | 47 => 2
 | 48 => 1
 | 49 => 1
 | 50 => 1
 | 51 => 2
 | 52 => 1
 | 53 => 2
 | 54 => 2
 | 55 => 1
 | 60 => 3
 | 62 => 2
 | 63 => 1
 | _ => 0
theorem tk_any (op : Nat) (h1 : 1 <= op) (h2 : op <= 63) (w : World) : Calls Tryz.prog 67 #[.int .i64 (op : Int)] w fun e w' => e = .returned (.int .i64 (tkN op : Int)) /\ w' = w := by
 have h : op = 1 \/ op = 2 \/ op = 3 \/ op = 4 \/ op = 5 \/ op = 6 \/ op = 7 \/ op = 8 \/ op = 9 \/ op = 10 \/ op = 11 \/ op = 12 \/ op = 13 \/ op = 14 \/ op = 15 \/ op = 16 \/ op = 17 \/ op = 18 \/ op = 19 \/ op = 20 \/ op = 21 \/ op = 22 \/ op = 23 \/ op = 24 \/ op = 25 \/ op = 26 \/ op = 27 \/ op = 28 \/ op = 29 \/ op = 30 \/ op = 31 \/ op = 32 \/ op = 33 \/ op = 34 \/ op = 35 \/ op = 36 \/ op = 37 \/ op = 38 \/ op = 39 \/ op = 40 \/ op = 41 \/ op = 42 \/ op = 43 \/ op = 44 \/ op = 45 \/ op = 46 \/ op = 47 \/ op = 48 \/ op = 49 \/ op = 50 \/ op = 51 \/ op = 52 \/ op = 53 \/ op = 54 \/ op = 55 \/ op = 56 \/ op = 57 \/ op = 58 \/ op = 59 \/ op = 60 \/ op = 61 \/ op = 62 \/ op = 63 := by omega
 rcases h with rfl | rfl | rfl | rfl | rfl | rfl | rfl | rfl | rfl | rfl | rfl | rfl | rfl | rfl | rfl | rfl | rfl | rfl | rfl | rfl | rfl | rfl | rfl | rfl | rfl | rfl | rfl | rfl | rfl | rfl | rfl | rfl | rfl | rfl | rfl | rfl | rfl | rfl | rfl | rfl | rfl | rfl | rfl | rfl | rfl | rfl | rfl | rfl | rfl | rfl | rfl | rfl | rfl | rfl | rfl | rfl | rfl | rfl | rfl | rfl | rfl | rfl | rfl
 all_goals
  go_enter Tryz.func67, Tryz.ntmps67; go_wp2; go_ret; exact ⟨rfl, rfl⟩
end Go.Proofs.YteldjmecomngeaaGreat.V
