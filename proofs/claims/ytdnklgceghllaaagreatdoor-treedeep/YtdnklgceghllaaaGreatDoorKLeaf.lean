import Derived.Test.YtdnklgceghllaaaGreatDoorTLeaf
import Derived.Test.YtdnklgceghllaaaGreatDoorTMath
import Derived.BigQuiet
namespace Go.Proofs.YtdnklgceghllaaaGreatDoor.K
open Go.RowKit
open Go.Proofs.YtdnklgceghllaaaGreatDoor
set_option linter.unusedVariables false
theorem vis_yes (r : Nat) (h : T.seen r = true) (w : World) :
  Calls Tryz.prog 91 #[.int .u8 r] w fun e w' => e = .returned (.bool true) /\ w' = w := by
 obtain ⟨a, b⟩ : 33 <= r /\ r <= 126 := by simpa [T.seen] using h
 clear h
 go_enter Tryz.func91, Tryz.ntmps91
 go_wp2
 go_ret
 exact ⟨T.ret_bool (by simp; omega), rfl⟩
theorem vis_no (r : Nat) (h : T.seen r = false) (w : World) :
  Calls Tryz.prog 91 #[.int .u8 r] w fun e w' => e = .returned (.bool false) /\ w' = w := by
 have h' : ¬ (33 <= r /\ r <= 126) := by simpa [T.seen] using h
 clear h
 by_cases a : r < 33
 ·go_enter Tryz.func91, Tryz.ntmps91
  go_wp2
  go_ret
  exact ⟨rfl, rfl⟩
 ·have b : 126 < r := by omega
  go_enter Tryz.func91, Tryz.ntmps91
  go_wp2
  go_ret
  exact ⟨T.ret_bool (by simp; omega), rfl⟩
theorem bk_cases (r : Nat) : (bk r = true /\ (r = 9 \/ r = 10 \/ r = 13 \/ r = 32)) \/ (bk r = false /\ ¬ (r : Int) = 9 /\ ¬ (r : Int) = 10 /\ ¬ (r : Int) = 13 /\ ¬ (r : Int) = 32) := by
 by_cases h : r = 9 \/ r = 10 \/ r = 13 \/ r = 32
 ·left; refine ⟨?_, h⟩; rcases h with rfl | rfl | rfl | rfl <;> rfl
 ·right; refine ⟨?_, by omega, by omega, by omega, by omega⟩; unfold bk; simp; omega
theorem blank_any (r : Nat) (w : World) : Calls Tryz.prog 57 #[.int .u8 r] w fun e w' => e = .returned (.bool (bk r)) /\ w' = w := by
 rcases bk_cases r with ⟨e, h⟩ | ⟨e, h1, h2, h3, h4⟩
 ·rw [e]; clear e
  rcases h with rfl | rfl | rfl | rfl
  all_goals
   go_enter Tryz.func57, Tryz.ntmps57
   go_wp2
   go_ret
   exact ⟨rfl, rfl⟩
 ·rw [e]; clear e
  go_enter Tryz.func57, Tryz.ntmps57
  go_wp2
  go_ret
  exact ⟨T.ret_bool (by simp [h1, h2, h3, h4]), rfl⟩
end Go.Proofs.YtdnklgceghllaaaGreatDoor.K
