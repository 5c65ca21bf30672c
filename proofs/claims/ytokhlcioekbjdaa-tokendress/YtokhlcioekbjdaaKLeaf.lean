import Derived.Test.YtokhlcioekbjdaaTLeaf
import Derived.Test.YtokhlcioekbjdaaKMath
import Derived.BigQuiet
/-! The leaves of package token, and of the reference: a byte that may be seen, a blank. -/
namespace Go.Proofs.Ytokhlcioekbjdaa.K
open Go.RowKit
open Go.Proofs.Ytokhlcioekbjdaa
set_option linter.unusedVariables false

theorem vis_yes (r : Nat) (h : T.seen r = true) (w : World) :
    Calls Try.prog 37 #[.int .u8 r] w fun e w' => e = .returned (.bool true) ∧ w' = w := by
  obtain ⟨a, b⟩ : 33 ≤ r ∧ r ≤ 126 := by simpa [T.seen] using h
  clear h
  go_enter Try.func37, Try.ntmps37
  go_wp2
  go_ret
  exact ⟨T.ret_bool (by simp; omega), rfl⟩
theorem vis_no (r : Nat) (h : T.seen r = false) (w : World) :
    Calls Try.prog 37 #[.int .u8 r] w fun e w' => e = .returned (.bool false) ∧ w' = w := by
  have h' : ¬ (33 ≤ r ∧ r ≤ 126) := by simpa [T.seen] using h
  clear h
  by_cases a : r < 33
  · go_enter Try.func37, Try.ntmps37
    go_wp2
    go_ret
    exact ⟨rfl, rfl⟩
  · have b : 126 < r := by omega
    go_enter Try.func37, Try.ntmps37
    go_wp2
    go_ret
    exact ⟨T.ret_bool (by simp; omega), rfl⟩
theorem vis_any (r : Nat) (w : World) : Calls Try.prog 37 #[.int .u8 r] w fun e w' => e = .returned (.bool (T.seen r)) ∧ w' = w := by
  cases h : T.seen r
  · exact vis_no r h w
  · exact vis_yes r h w
theorem let_yes (r : Nat) (h : T.seen r = true) (w : World) :
    Calls Try.prog 23 #[.int .u8 r] w fun e w' => e = .returned (.bool true) ∧ w' = w := by
  obtain ⟨a, b⟩ : 33 ≤ r ∧ r ≤ 126 := by simpa [T.seen] using h
  clear h
  go_enter Try.func23, Try.ntmps23
  go_wp2
  go_ret
  exact ⟨T.ret_bool (by simp; omega), rfl⟩
theorem let_no (r : Nat) (h : T.seen r = false) (w : World) :
    Calls Try.prog 23 #[.int .u8 r] w fun e w' => e = .returned (.bool false) ∧ w' = w := by
  have h' : ¬ (33 ≤ r ∧ r ≤ 126) := by simpa [T.seen] using h
  clear h
  by_cases a : r < 33
  · go_enter Try.func23, Try.ntmps23
    go_wp2
    go_ret
    exact ⟨rfl, rfl⟩
  · have b : 126 < r := by omega
    go_enter Try.func23, Try.ntmps23
    go_wp2
    go_ret
    exact ⟨T.ret_bool (by simp; omega), rfl⟩
theorem let_any (r : Nat) (w : World) : Calls Try.prog 23 #[.int .u8 r] w fun e w' => e = .returned (.bool (T.seen r)) ∧ w' = w := by
  cases h : T.seen r
  · exact let_no r h w
  · exact let_yes r h w
theorem bk_cases (r : Nat) : (bk r = true ∧ (r = 9 ∨ r = 10 ∨ r = 13 ∨ r = 32)) ∨ (bk r = false ∧ ¬ (r : Int) = 9 ∧ ¬ (r : Int) = 10 ∧ ¬ (r : Int) = 13 ∧ ¬ (r : Int) = 32) := by
  by_cases h : r = 9 ∨ r = 10 ∨ r = 13 ∨ r = 32
  · left; refine ⟨?_, h⟩; rcases h with rfl | rfl | rfl | rfl <;> rfl
  · right; refine ⟨?_, by omega, by omega, by omega, by omega⟩; unfold bk; simp; omega
theorem blank_any (r : Nat) (w : World) : Calls Try.prog 29 #[.int .u8 r] w fun e w' => e = .returned (.bool (bk r)) ∧ w' = w := by
  rcases bk_cases r with ⟨e, h⟩ | ⟨e, h1, h2, h3, h4⟩
  · rw [e]; clear e
    rcases h with rfl | rfl | rfl | rfl
    all_goals
      go_enter Try.func29, Try.ntmps29
      go_wp2
      go_ret
      exact ⟨rfl, rfl⟩
  · rw [e]; clear e
    go_enter Try.func29, Try.ntmps29
    go_wp2
    go_ret
    exact ⟨T.ret_bool (by simp [h1, h2, h3, h4]), rfl⟩
theorem rblank_any (r : Nat) (w : World) : Calls Try.prog 22 #[.int .u8 r] w fun e w' => e = .returned (.bool (bk r)) ∧ w' = w := by
  rcases bk_cases r with ⟨e, h⟩ | ⟨e, h1, h2, h3, h4⟩
  · rw [e]; clear e
    rcases h with rfl | rfl | rfl | rfl
    all_goals
      go_enter Try.func22, Try.ntmps22
      go_wp2
      go_ret
      exact ⟨rfl, rfl⟩
  · rw [e]; clear e
    go_enter Try.func22, Try.ntmps22
    go_wp2
    go_ret
    exact ⟨T.ret_bool (by simp [h1, h2, h3, h4]), rfl⟩
end Go.Proofs.Ytokhlcioekbjdaa.K
