import Derived.Test.YtokhlcioekbjdaaProg
import Derived.Test.YtokhlcioekbjdaaTMath
import Derived.WalkKit
import Derived.WalkSpells
import Derived.WalkLawsBesides
import Derived.Laws.RangeAny
import Derived.Lib.OthersKept
import Derived.Lib.Strings
import Derived.Below
/-! The leaves of package text: digit, visible, quoted, number. -/
namespace Go.Proofs.Ytokhlcioekbjdaa.T
open Go.RowKit
set_option linter.unusedVariables false

theorem digit_yes (r : Nat) (h : dig r < 99) (w : World) :
    Calls Try.prog 59 #[.int .i32 r] w fun e w' => e = .returned (.tuple #[.int .i64 (dig r), .bool true]) ∧ w' = w := by
  by_cases h1 : 48 ≤ r ∧ r ≤ 57
  · have hd : (dig r : Int) = r - 48 := by unfold dig; rw [if_pos h1]; omega
    obtain ⟨a, b⟩ := h1
    rw [hd]
    go_enter Try.func59, Try.ntmps59
    go_wp2
    go_ret2
    exact ⟨rfl, rfl⟩
  · by_cases h2 : 97 ≤ r ∧ r ≤ 102
    · have hd : (dig r : Int) = r - 97 + 10 := by unfold dig; rw [if_neg h1, if_pos h2]; omega
      obtain ⟨a, b⟩ := h2
      have c : ¬ r ≤ 57 := by omega
      rw [hd]
      go_enter Try.func59, Try.ntmps59
      go_wp2
      go_ret2
      exact ⟨rfl, rfl⟩
    · exfalso; unfold dig at h; rw [if_neg h1, if_neg h2] at h; omega
theorem digit_no (r : Nat) (h : dig r = 99) (w : World) :
    Calls Try.prog 59 #[.int .i32 r] w fun e w' => e = .returned (.tuple #[.int .i64 0, .bool false]) ∧ w' = w := by
  have hn : ¬ (48 ≤ r ∧ r ≤ 57) ∧ ¬ (97 ≤ r ∧ r ≤ 102) := by
    unfold dig at h
    by_cases h1 : 48 ≤ r ∧ r ≤ 57
    · rw [if_pos h1] at h; omega
    · by_cases h2 : 97 ≤ r ∧ r ≤ 102
      · rw [if_neg h1, if_pos h2] at h; omega
      · exact ⟨h1, h2⟩
  obtain ⟨h1, h2⟩ := hn
  clear h
  by_cases a : r < 48
  · have b : r < 97 := by omega
    go_enter Try.func59, Try.ntmps59
    go_wp2
    go_ret2
    exact ⟨rfl, rfl⟩
  · have a' : 57 < r := by omega
    by_cases b : r < 97
    · go_enter Try.func59, Try.ntmps59
      go_wp2
      go_ret2
      exact ⟨rfl, rfl⟩
    · have b' : 102 < r := by omega
      go_enter Try.func59, Try.ntmps59
      go_wp2
      go_ret2
      exact ⟨rfl, rfl⟩

theorem ret_bool {a b : Bool} (h : a = b) : Ending.returned (.bool a) = .returned (.bool b) := by rw [h]
theorem ret_int {k : IntKind} {a b : Int} (h : a = b) : Ending.returned (.int k a) = .returned (.int k b) := by rw [h]
theorem visible_yes (r : Nat) (h : seen r = true) (w : World) :
    Calls Try.prog 57 #[.int .i32 r] w fun e w' => e = .returned (.bool true) ∧ w' = w := by
  obtain ⟨a, b⟩ : 33 ≤ r ∧ r ≤ 126 := by simpa [seen] using h
  clear h
  go_enter Try.func57, Try.ntmps57
  go_wp2
  go_ret
  exact ⟨ret_bool (by simp; omega), rfl⟩
theorem visible_no (r : Nat) (h : seen r = false) (w : World) :
    Calls Try.prog 57 #[.int .i32 r] w fun e w' => e = .returned (.bool false) ∧ w' = w := by
  have h' : ¬ (33 ≤ r ∧ r ≤ 126) := by simpa [seen] using h
  clear h
  by_cases a : r < 33
  · go_enter Try.func57, Try.ntmps57
    go_wp2
    go_ret
    exact ⟨rfl, rfl⟩
  · have b : 126 < r := by omega
    go_enter Try.func57, Try.ntmps57
    go_wp2
    go_ret
    exact ⟨ret_bool (by simp; omega), rfl⟩
theorem visible_any (r : Nat) (w : World) :
    Calls Try.prog 57 #[.int .i32 r] w fun e w' => e = .returned (.bool (seen r)) ∧ w' = w := by
  cases h : seen r
  · exact visible_no r h w
  · exact visible_yes r h w

theorem three (s : ByteArray) (h : s.size = 3) : ∃ a b c : UInt8, s = ⟨#[a, b, c]⟩ := by
  obtain ⟨⟨l⟩⟩ := s
  match l, h with
  | [a, b, c], _ => exact ⟨a, b, c, rfl⟩

theorem quo_three (s : ByteArray) (h : s.size = 3) :
    quo s.data.toList = (decide ((s[0]'(by omega)).toNat = 39) && (decide ((s[2]'(by omega)).toNat = 39) && seen (s[1]'(by omega)).toNat)) := by
  obtain ⟨a, b, c, rfl⟩ := three s h
  rfl
theorem quo_else (s : ByteArray) (h3 : ¬ s.size = 3) : quo s.data.toList = false := by
  unfold quo
  split
  · rename_i a c d e; exact absurd (show s.size = 3 by show s.data.size = 3; rw [← Array.length_toList, e]; rfl) h3
  · rfl

theorem quoted_any (s : ByteArray) (hs : s.size ≤ maxLen) (w : World) :
    Calls Try.prog 47 #[.string s] w fun e w' => e = .returned (.bool (quo s.data.toList)) ∧ w' = w := by
  by_cases h3 : s.size = 3
  · have hq := quo_three s h3
    have l0 : 0 < s.size := by omega
    have l1 : 1 < s.size := by omega
    have l2 : 2 < s.size := by omega
    by_cases ha : s[0].toNat = 39
    · by_cases hc : s[2].toNat = 39
      · have hq : quo s.data.toList = seen s[1].toNat := by rw [hq]; simp [ha, hc]
        rw [hq]
        clear hq hs; have hb1 : s[1].toNat < 256 := s[1].toNat_lt
        go_enter Try.func47, Try.ntmps47
        go_wp2_with (go_at_call 57; refine (visible_any s[1].toNat _).mono ?_; rintro e w' ⟨rfl, rfl⟩)
        go_ret
        exact ⟨rfl, rfl⟩
      · have hq : quo s.data.toList = false := by rw [hq]; simp [hc]
        rw [hq]
        clear hq hs
        have hc' : ¬ ((s[2].toNat : Int) = 39) := by omega
        go_enter Try.func47, Try.ntmps47
        go_wp2_with (go_at_call 57; refine (visible_any _ _).mono ?_; rintro e w' ⟨rfl, rfl⟩)
        go_ret
        exact ⟨rfl, rfl⟩
    · have hq : quo s.data.toList = false := by rw [hq]; simp [ha]
      rw [hq]
      clear hq hs
      have ha' : ¬ ((s[0].toNat : Int) = 39) := by omega
      go_enter Try.func47, Try.ntmps47
      go_wp2_with (go_at_call 57; refine (visible_any _ _).mono ?_; rintro e w' ⟨rfl, rfl⟩)
      go_ret
      exact ⟨rfl, rfl⟩
  · have hq := quo_else s h3
    rw [hq]
    clear hq
    unfold maxLen at hs
    go_enter Try.func47, Try.ntmps47
    go_wp2
    go_ret
    exact ⟨rfl, rfl⟩
end Go.Proofs.Ytokhlcioekbjdaa.T
