import Derived.Test.YtokhlcioekbjdaaKTok
/-! What stands at an offset, case by case. -/
namespace Go.Proofs.Ytokhlcioekbjdaa.K
open Go.RowKit
open Go.Proofs.Ytokhlcioekbjdaa
open Go.Proofs.Ytokhlcioekbjdaa.T (size_list numE numC)
set_option linter.unusedVariables false

theorem wd_one {l : List UInt8} {i j : Nat} {c : UInt8} (hj : j ≤ l.length) (hi : i < l.length) (h : wd l i j = [c]) : j = i + 1 ∧ l[i] = c := by
  have h1 := wd_len l i j hj
  rw [h] at h1
  have h2 : j = i + 1 := by simp at h1; omega
  refine ⟨h2, ?_⟩
  subst h2
  unfold wd at h
  rw [drop_cons l i hi, Nat.add_sub_cancel_left, List.take_succ_cons] at h
  injection h
theorem nxt_skip {l : List UInt8} {i j : Nat} {c : UInt8} {d : Nat} (hj : j ≤ l.length) (hi : i < l.length) (h : wd l i j = [c]) (hd : ¬ c.toNat = d) : nxt d l i = nxt d l j := by
  obtain ⟨h1, h2⟩ := wd_one hj hi h
  rw [nxt_no d l i hi (by rw [h2]; exact hd), h1]
def SpC (l : List UInt8) (i : Nat) : Prop :=
  (wend l i = i ∧ T.seen (l.getD i 0).toNat = false ∧ bk (l.getD i 0).toNat = true ∧ sp l i = .ok (.inl (i + 1))) ∨
  (wend l i = i ∧ T.seen (l.getD i 0).toNat = false ∧ bk (l.getD i 0).toNat = false ∧ sp l i = .error 91) ∨
  (wend l i = i + 1 ∧ wd l i (i + 1) = [92] ∧ sp l i = .ok (.inl ((nxt 10 l i).getD l.length)) ∧ nxt 10 l (i + 1) = nxt 10 l i) ∨
  (wend l i = i + 1 ∧ wd l i (i + 1) = [40] ∧ nxt 41 l i = none ∧ nxt 41 l (i + 1) = none ∧ sp l i = .error 92) ∨
  (∃ k, wend l i = i + 1 ∧ wd l i (i + 1) = [40] ∧ nxt 41 l i = some k ∧ nxt 41 l (i + 1) = some k ∧ sp l i = .ok (.inl k)) ∨
  (∃ j, wend l i = j ∧ i < j ∧ wd l i j ≠ [92] ∧ wd l i j ≠ [40] ∧ 31 < j - i ∧ sp l i = .error 93) ∨
  (∃ j, wend l i = j ∧ i < j ∧ wd l i j ≠ [92] ∧ wd l i j ≠ [40] ∧ j - i ≤ 31 ∧ numE (wd l i j) = 21 ∧ sp l i = .error 21) ∨
  (∃ j, wend l i = j ∧ i < j ∧ wd l i j ≠ [92] ∧ wd l i j ≠ [40] ∧ j - i ≤ 31 ∧ numE (wd l i j) ≠ 21 ∧ sp l i = .ok (.inr j))
theorem wend_seen (l : List UInt8) (i : Nat) (h : i < l.length) : (wend l i = i ∧ T.seen (l.getD i 0).toNat = false) ∨ (i < wend l i ∧ T.seen (l.getD i 0).toNat = true) := by
  have hg : l.getD i 0 = l[i] := by rw [List.getD_eq_getElem?_getD, List.getElem?_eq_getElem h]; rfl
  rw [hg]
  cases hv : T.seen l[i].toNat with
  | true => right; have := wend_yes l i h hv; have h2 := wend_ge l (i + 1); exact ⟨by omega, rfl⟩
  | false => left; exact ⟨wend_no l i h hv, rfl⟩
theorem sp_cases (l : List UInt8) (i : Nat) (h : i < l.length) : SpC l i := by
  have hle := wend_le l i (Nat.le_of_lt h)
  rcases wend_seen l i h with ⟨h1, hs⟩ | ⟨h1, hs⟩
  · cases hb : bk (l.getD i 0).toNat with
    | true => exact .inl ⟨h1, hs, hb, (by unfold sp; rw [if_pos h1, if_pos hb])⟩
    | false => exact .inr (.inl ⟨h1, hs, hb, (by unfold sp; rw [if_pos h1, if_neg (by rw [hb]; decide)])⟩)
  · have hsp : sp l i = spW l i (wend l i) := by unfold sp; rw [if_neg (by omega)]
    by_cases h2 : wd l i (wend l i) = [92]
    · have h3 := nxt_skip (d := 10) hle h h2 (by decide)
      have h4 := (wd_one hle h h2).1
      have h5 : sp l i = .ok (.inl ((nxt 10 l i).getD l.length)) := by rw [hsp, spW, if_pos h2, h3]
      rw [h4] at h2 h3
      exact .inr (.inr (.inl ⟨h4, h2, h5, h3.symm⟩))
    · by_cases h3 : wd l i (wend l i) = [40]
      · have h4 := nxt_skip (d := 41) hle h h3 (by decide)
        have h5 := (wd_one hle h h3).1
        cases hn : nxt 41 l (wend l i) with
        | none =>
          have h6 : sp l i = .error 92 := by rw [hsp, spW, if_neg h2, if_pos h3, hn]
          rw [hn] at h4
          rw [h5] at h3 hn
          exact .inr (.inr (.inr (.inl ⟨h5, h3, h4, hn, h6⟩)))
        | some k =>
          have h6 : sp l i = .ok (.inl k) := by rw [hsp, spW, if_neg h2, if_pos h3, hn]
          rw [hn] at h4
          rw [h5] at h3 hn
          exact .inr (.inr (.inr (.inr (.inl ⟨k, h5, h3, h4, hn, h6⟩))))
      · by_cases h4 : 31 < wend l i - i
        · exact .inr (.inr (.inr (.inr (.inr (.inl ⟨_, rfl, h1, h2, h3, h4, (by rw [hsp, spW, if_neg h2, if_neg h3, if_pos h4])⟩)))))
        · by_cases h5 : numE (wd l i (wend l i)) = 21
          · exact .inr (.inr (.inr (.inr (.inr (.inr (.inl ⟨_, rfl, h1, h2, h3, (by omega), h5, (by rw [hsp, spW, if_neg h2, if_neg h3, if_neg h4, if_pos h5])⟩))))))
          · exact .inr (.inr (.inr (.inr (.inr (.inr (.inr (⟨_, rfl, h1, h2, h3, (by omega), h5, (by rw [hsp, spW, if_neg h2, if_neg h3, if_neg h4, if_neg h5])⟩)))))))
/-- A word's tests. -/
theorem list_is (s : ByteArray) (c : UInt8) (h : s.data.toList = [c]) : (s.toList == [c]) = true := by
  rw [ByteArray.toList_eq, h]; simp
theorem list_no (s : ByteArray) (c : UInt8) (h : s.data.toList ≠ [c]) : (s.toList == [c]) = false := by
  rw [ByteArray.toList_eq]; simpa using h
theorem list_emp (s : ByteArray) (h : s.data.toList = []) : s.toList.isEmpty = true := by
  rw [ByteArray.toList_eq, h]; rfl
theorem list_full (s : ByteArray) (h : s.data.toList ≠ []) : s.toList.isEmpty = false := by
  rw [ByteArray.toList_eq]; cases hl : s.data.toList with
  | nil => exact absurd hl h
  | cons a t => rfl
theorem wd_nil (l : List UInt8) (i : Nat) : wd l i i = [] := by unfold wd; simp
theorem wd_ne (l : List UInt8) (i j : Nat) (hj : j ≤ l.length) (h : i < j) : wd l i j ≠ [] := by
  intro e; have := wd_len l i j hj; rw [e] at this; simp at this; omega
theorem getD_byte (s : ByteArray) (i : Nat) (h : i < s.size) : s.data.toList.getD i 0 = s[i] := by
  rw [List.getD_eq_getElem?_getD, List.getElem?_eq_getElem (by rw [size_list]; exact h)]; rfl
theorem ext_size (s : ByteArray) (i j : Nat) (h : j ≤ s.size) : (s.extract i j).size = j - i := by
  rw [ByteArray.size_extract]; omega
end Go.Proofs.Ytokhlcioekbjdaa.K
