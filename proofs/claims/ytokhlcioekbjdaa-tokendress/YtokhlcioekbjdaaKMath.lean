import Derived.Test.YtokhlcioekbjdaaTMath
/-! Layer 9, plain: blanks, words, comments, the scan. Nothing here names the program. -/
namespace Go.Proofs.Ytokhlcioekbjdaa.K
open Go.Proofs.Ytokhlcioekbjdaa.T
set_option linter.unusedVariables false

/-- A blank. -/
def bk (c : Nat) : Bool := decide (c = 9) || (decide (c = 10) || (decide (c = 13) || decide (c = 32)))
/-- How many bytes of a word stand here. -/
def wl : List UInt8 → Nat
  | [] => 0
  | c :: t => if T.seen c.toNat = true then wl t + 1 else 0
def wend (l : List UInt8) (i : Nat) : Nat := i + wl (l.drop i)
theorem wl_le (l : List UInt8) : wl l ≤ l.length := by
  induction l with
  | nil => exact Nat.le_refl _
  | cons c t ih => unfold wl; split <;> simp <;> omega
theorem drop_cons (l : List UInt8) (i : Nat) (h : i < l.length) : l.drop i = l[i] :: l.drop (i + 1) := List.drop_eq_getElem_cons h
theorem wend_yes (l : List UInt8) (i : Nat) (h : i < l.length) (hs : T.seen l[i].toNat = true) : wend l i = wend l (i + 1) := by
  unfold wend; rw [drop_cons l i h, wl, if_pos hs]; omega
theorem wend_no (l : List UInt8) (i : Nat) (h : i < l.length) (hs : T.seen l[i].toNat = false) : wend l i = i := by
  unfold wend; rw [drop_cons l i h, wl, if_neg (by simp [hs])]; omega
theorem wend_out (l : List UInt8) (i : Nat) (h : l.length ≤ i) : wend l i = i := by
  unfold wend; rw [List.drop_of_length_le h]; simp [wl]
theorem wend_ge (l : List UInt8) (i : Nat) : i ≤ wend l i := by unfold wend; omega
theorem wend_le (l : List UInt8) (i : Nat) (h : i ≤ l.length) : wend l i ≤ l.length := by
  unfold wend; have := wl_le (l.drop i); rw [List.length_drop] at this; omega
/-- The first place of a byte. -/
def ixb (c : Nat) : List UInt8 → Option Nat
  | [] => none
  | x :: t => if x.toNat = c then some 0 else (ixb c t).map (· + 1)
/-- The offset behind the next byte c from i on. -/
def nxt (c : Nat) (l : List UInt8) (i : Nat) : Option Nat := (ixb c (l.drop i)).map fun k => i + k + 1
theorem nxt_yes (c : Nat) (l : List UInt8) (i : Nat) (h : i < l.length) (hc : l[i].toNat = c) : nxt c l i = some (i + 1) := by
  unfold nxt; rw [drop_cons l i h, ixb, if_pos hc]; rfl
theorem nxt_no (c : Nat) (l : List UInt8) (i : Nat) (h : i < l.length) (hc : ¬ l[i].toNat = c) : nxt c l i = nxt c l (i + 1) := by
  unfold nxt; rw [drop_cons l i h, ixb, if_neg hc]
  cases ixb c (l.drop (i + 1)) with
  | none => rfl
  | some k => simp; omega
theorem nxt_out (c : Nat) (l : List UInt8) (i : Nat) (h : l.length ≤ i) : nxt c l i = none := by
  unfold nxt; rw [List.drop_of_length_le h]; rfl
theorem nxt_in (c : Nat) (l : List UInt8) : ∀ i j, nxt c l i = some j → i < j ∧ j ≤ l.length := by
  intro i
  generalize hn : l.length - i = n
  induction n generalizing i with
  | zero => intro j h; rw [nxt_out c l i (by omega)] at h; cases h
  | succ n ih =>
    intro j h
    have hi : i < l.length := by omega
    by_cases hc : l[i].toNat = c
    · rw [nxt_yes c l i hi hc] at h; simp at h; omega
    · rw [nxt_no c l i hi hc] at h
      have := ih (i + 1) (by omega) j h
      omega
/-- The word from i to j. -/
def wd (l : List UInt8) (i j : Nat) : List UInt8 := (l.drop i).take (j - i)
theorem wd_len (l : List UInt8) (i j : Nat) (h : j ≤ l.length) : (wd l i j).length = j - i := by
  unfold wd; rw [List.length_take, List.length_drop]; omega

/-- To go on at j; an error; a word that ends at j. -/
abbrev Sp := Except Int (Nat ⊕ Nat)
def spW (l : List UInt8) (i j : Nat) : Sp :=
  if wd l i j = [92] then .ok (.inl ((nxt 10 l j).getD l.length))
  else if wd l i j = [40] then (match nxt 41 l j with | none => .error 92 | some k => .ok (.inl k))
  else if 31 < j - i then .error 93
  else if numE (wd l i j) = 21 then .error 21
  else .ok (.inr j)
/-- What stands at i. -/
def sp (l : List UInt8) (i : Nat) : Sp :=
  if wend l i = i then (if bk (l.getD i 0).toNat = true then .ok (.inl (i + 1)) else .error 91) else spW l i (wend l i)
theorem sp_to (l : List UInt8) (i j : Nat) (h : i < l.length) (e : sp l i = .ok (.inl j)) : i < j ∧ j ≤ l.length := by
  unfold sp at e
  by_cases h1 : wend l i = i
  · rw [if_pos h1] at e
    split at e
    · cases e; omega
    · cases e
  · rw [if_neg h1] at e
    have h2 := wend_ge l i
    have h3 := wend_le l i (Nat.le_of_lt h)
    unfold spW at e
    split at e
    · cases hn : nxt 10 l (wend l i) with
      | none => rw [hn] at e; simp at e; omega
      | some k => rw [hn] at e; simp at e; have := nxt_in _ _ _ _ hn; omega
    · split at e
      · cases hn : nxt 41 l (wend l i) with
        | none => rw [hn] at e; cases e
        | some k => rw [hn] at e; cases e; have := nxt_in _ _ _ _ hn; omega
      · split at e
        · cases e
        · split at e <;> cases e
theorem sp_wo (l : List UInt8) (i j : Nat) (h : i < l.length) (e : sp l i = .ok (.inr j)) : i < j ∧ j ≤ l.length ∧ j = wend l i ∧ wd l i j ≠ [92] ∧ wd l i j ≠ [40] ∧ j - i ≤ 31 ∧ numE (wd l i j) ≠ 21 := by
  unfold sp at e
  by_cases h1 : wend l i = i
  · rw [if_pos h1] at e
    split at e <;> cases e
  · rw [if_neg h1] at e
    have h2 := wend_ge l i
    have h3 := wend_le l i (Nat.le_of_lt h)
    unfold spW at e
    split at e
    · cases e
    · split at e
      · split at e <;> cases e
      · split at e
        · cases e
        · split at e
          · cases e
          · cases e
            refine ⟨by omega, h3, rfl, by assumption, by assumption, by omega, by assumption⟩
theorem sp_no (l : List UInt8) (i : Nat) (e : Int) (h : sp l i = .error e) : e = 91 ∨ e = 92 ∨ e = 93 ∨ e = 21 := by
  unfold sp at h
  split at h
  · split at h <;> cases h; simp
  · unfold spW at h
    split at h
    · cases h
    · split at h
      · split at h <;> cases h; simp
      · split at h
        · cases h; simp
        · split at h <;> cases h; simp
/-- The scan: the words so far, where it stands, the error. -/
def scN (l : List UInt8) : Nat → Nat → List (Nat × Nat) → List (Nat × Nat) × Nat × Int
  | 0, i, a => (a, i, 0)
  | f + 1, i, a => if l.length ≤ i then (a, i, 0) else match sp l i with
    | .ok (.inl j) => scN l f j a
    | .error e => (a, i, e)
    | .ok (.inr j) => scN l f j (a ++ [(i, j)])
def sc (l : List UInt8) : List (Nat × Nat) × Nat × Int := scN l (l.length + 1) 0 []
/-- The scan has come to i with these words. -/
structure At (l : List UInt8) (i : Nat) (a : List (Nat × Nat)) : Prop where
  le : i ≤ l.length
  few : a.length ≤ i
  rest : ∃ f, l.length < i + f ∧ scN l f i a = sc l
theorem At.start (l : List UInt8) : At l 0 [] := ⟨Nat.zero_le _, Nat.le_refl _, l.length + 1, by omega, rfl⟩
theorem At.to {l : List UInt8} {i j : Nat} {a : List (Nat × Nat)} (h : At l i a) (hi : i < l.length) (e : sp l i = .ok (.inl j)) : At l j a := by
  obtain ⟨h1, h0, f, h2, h3⟩ := h
  have := sp_to l i j hi e
  cases f with
  | zero => omega
  | succ f => rw [scN, if_neg (by omega), e] at h3; exact ⟨by omega, by omega, f, by omega, h3⟩
theorem At.wo {l : List UInt8} {i j : Nat} {a : List (Nat × Nat)} (h : At l i a) (hi : i < l.length) (e : sp l i = .ok (.inr j)) : At l j (a ++ [(i, j)]) := by
  obtain ⟨h1, h0, f, h2, h3⟩ := h
  have := sp_wo l i j hi e
  cases f with
  | zero => omega
  | succ f => rw [scN, if_neg (by omega), e] at h3; exact ⟨by omega, by simp; omega, f, by omega, h3⟩
theorem At.no {l : List UInt8} {i : Nat} {e : Int} {a : List (Nat × Nat)} (h : At l i a) (hi : i < l.length) (x : sp l i = .error e) : sc l = (a, i, e) := by
  obtain ⟨h1, _, f, h2, h3⟩ := h
  cases f with
  | zero => omega
  | succ f => rw [scN, if_neg (by omega), x] at h3; exact h3.symm
theorem At.fin {l : List UInt8} {i : Nat} {a : List (Nat × Nat)} (h : At l i a) (hi : l.length ≤ i) : sc l = (a, i, 0) := by
  obtain ⟨h1, _, f, h2, h3⟩ := h
  cases f with
  | zero => exact h3.symm
  | succ f => rw [scN, if_pos hi] at h3; exact h3.symm
/-- Reaching: how every scan ends. -/
theorem At.ends (l : List UInt8) {P : Nat → List (Nat × Nat) → Prop} (h0 : P 0 []) (hto : ∀ i j a, At l i a → P i a → i < l.length → sp l i = .ok (.inl j) → P j a) (hwo : ∀ i j a, At l i a → P i a → i < l.length → sp l i = .ok (.inr j) → P j (a ++ [(i, j)])) :
    ∃ i a, At l i a ∧ P i a ∧ ((l.length ≤ i ∧ sc l = (a, i, 0)) ∨ ∃ e, i < l.length ∧ sp l i = .error e ∧ sc l = (a, i, e)) := by
  have H : ∀ n i a, l.length - i = n → At l i a → P i a → ∃ i a, At l i a ∧ P i a ∧ ((l.length ≤ i ∧ sc l = (a, i, 0)) ∨ ∃ e, i < l.length ∧ sp l i = .error e ∧ sc l = (a, i, e)) := by
    intro n
    induction n using Nat.strongRecOn with
    | ind n ih =>
      intro i a hn hA hP
      by_cases hi : l.length ≤ i
      · exact ⟨i, a, hA, hP, .inl ⟨hi, hA.fin hi⟩⟩
      · have hi' : i < l.length := by omega
        match e : sp l i with
        | .ok (.inl j) =>
          have := sp_to l i j hi' e
          exact ih (l.length - j) (by omega) j a rfl (hA.to hi' e) (hto i j a hA hP hi' e)
        | .error x => exact ⟨i, a, hA, hP, .inr ⟨x, hi', e, hA.no hi' e⟩⟩
        | .ok (.inr j) =>
          have := sp_wo l i j hi' e
          exact ih (l.length - j) (by omega) j _ rfl (hA.wo hi' e) (hwo i j a hA hP hi' e)
  exact H _ 0 [] rfl (At.start l) h0
end Go.Proofs.Ytokhlcioekbjdaa.K
