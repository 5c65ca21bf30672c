import Derived.Test.YtokhlcioekbjdaaKScanX
/-! Plain: a text's beginnings are scanned as the text; places rise. -/
namespace Go.Proofs.Ytokhlcioekbjdaa.K
open Go.Proofs.Ytokhlcioekbjdaa
open Go.Proofs.Ytokhlcioekbjdaa.T (numE numC stepP place place_succ)
set_option linter.unusedVariables false

/-! ### Places rise -/
def plt (p q : Int × Int) : Prop := p.1 < q.1 ∨ (p.1 = q.1 ∧ p.2 < q.2)
theorem plt_step (p : Int × Int) (c : UInt8) : plt p (stepP p c) := by
  unfold plt stepP; split
  · left; show p.1 < p.1 + 1; omega
  · right; exact ⟨rfl, by show p.2 < p.2 + 1; omega⟩
theorem plt_trans {p q r : Int × Int} (h : plt p q) (k : plt q r) : plt p r := by unfold plt at *; omega
theorem place_lt (l : List UInt8) (i j : Nat) (h : i < j) (hj : j ≤ l.length) : plt (place l i) (place l j) := by
  induction j with
  | zero => omega
  | succ j ih =>
    rw [place_succ l j (by omega)]
    by_cases e : i = j
    · subst e; exact plt_step _ _
    · exact plt_trans (ih (by omega) (by omega)) (plt_step _ _)
theorem place_inj (l : List UInt8) (i j : Nat) (hi : i ≤ l.length) (hj : j ≤ l.length) (e : place l i = place l j) : i = j := by
  rcases Nat.lt_trichotomy i j with h | h | h
  · have := place_lt l i j h hj; rw [e] at this; unfold plt at this; omega
  · exact h
  · have := place_lt l j i h hi; rw [e] at this; unfold plt at this; omega
theorem place_take (l : List UInt8) (m i : Nat) (h : i ≤ m) : place (l.take m) i = place l i := by
  unfold T.place; rw [List.take_take, Nat.min_eq_left h]

/-! ### Beginnings -/
theorem take_get (l : List UInt8) (m i : Nat) (h : i < m) (hl : i < l.length) : (l.take m)[i]'(by rw [List.length_take]; omega) = l[i] := by simp
theorem wend_take (l : List UInt8) (m : Nat) (hm : m ≤ l.length) : ∀ i, i ≤ m → wend l i ≤ m → wend (l.take m) i = wend l i := by
  intro i
  generalize hn : m - i = n
  induction n generalizing i with
  | zero =>
    intro hi hw
    have h1 := wend_ge l i
    rw [wend_out (l.take m) i (by rw [List.length_take]; omega)]; omega
  | succ n ih =>
    intro hi hw
    have hlt : i < l.length := by omega
    have hlt2 : i < (l.take m).length := by rw [List.length_take]; omega
    have hg := take_get l m i (by omega) hlt
    cases hv : T.seen l[i].toNat with
    | true =>
      rw [wend_yes l i hlt hv] at hw ⊢
      rw [wend_yes (l.take m) i hlt2 (by rw [hg]; exact hv)]
      exact ih (i + 1) (by omega) (by omega) hw
    | false => rw [wend_no l i hlt hv, wend_no (l.take m) i hlt2 (by rw [hg]; exact hv)]
theorem wd_take (l : List UInt8) (m i j : Nat) (h : j ≤ m) : wd (l.take m) i j = wd l i j := by
  unfold wd; rw [List.drop_take, List.take_take]; congr 1; omega
theorem nxt_take (c : Nat) (l : List UInt8) (m : Nat) (hm : m ≤ l.length) : ∀ i k, i ≤ m → nxt c l i = some k → k ≤ m → nxt c (l.take m) i = some k := by
  intro i
  generalize hn : m - i = n
  induction n generalizing i with
  | zero => intro k hi h hk; have := nxt_in c l i k h; omega
  | succ n ih =>
    intro k hi h hk
    have hlt : i < l.length := by omega
    have hlt2 : i < (l.take m).length := by rw [List.length_take]; omega
    have hg := take_get l m i (by omega) hlt
    by_cases hc : l[i].toNat = c
    · rw [nxt_yes c l i hlt hc] at h
      rw [nxt_yes c (l.take m) i hlt2 (by rw [hg]; exact hc)]; exact h
    · rw [nxt_no c l i hlt hc] at h
      rw [nxt_no c (l.take m) i hlt2 (by rw [hg]; exact hc)]
      exact ih (i + 1) (by omega) k (by omega) h hk
theorem getD_take (l : List UInt8) (m i : Nat) (h : i < m) (hl : i < l.length) : (l.take m).getD i 0 = l.getD i 0 := by
  rw [List.getD_eq_getElem?_getD, List.getD_eq_getElem?_getD, List.getElem?_take, if_pos h]
theorem sp_take (l : List UInt8) (m i : Nat) (hm : m ≤ l.length) (hi : i < m) (j : Nat) (hj : j ≤ m) (e : sp l i = .ok (.inl j) ∨ sp l i = .ok (.inr j)) : sp (l.take m) i = sp l i := by
  have hl : i < l.length := by omega
  have hlt : (l.take m).length = m := by rw [List.length_take]; omega
  by_cases hfull : m = l.length
  · rw [hfull, List.take_length]
  rcases sp_cases l i hl with ⟨h1, h2, h3, h⟩ | ⟨h1, h2, h3, h⟩ | ⟨h1, h2, h, h3⟩ | ⟨h1, h2, h3, h4, h⟩ | ⟨k, h1, h2, h3, h4, h⟩ | ⟨q, h1, h0, h2, h3, h4, h⟩ | ⟨q, h1, h0, h2, h3, h4, h5, h⟩ | ⟨q, h1, h0, h2, h3, h4, h5, h⟩
  · have hw := wend_take l m hm i (by omega) (by omega)
    rw [h]; unfold sp; rw [hw, if_pos h1, getD_take l m i hi hl, if_pos h3]
  · rw [h] at e; rcases e with e | e <;> cases e
  · have hw := wend_take l m hm i (by omega) (by omega)
    cases hx : nxt 10 l i with
    | none =>
      rw [h, hx] at e
      rcases e with e | e
      · simp at e; omega
      · cases e
    | some k =>
      rw [h, hx] at e
      have hk : k ≤ m := by
        rcases e with e | e
        · simp at e; omega
        · cases e
      rw [hx] at h3
      have hn := nxt_take 10 l m hm (i + 1) k (by omega) h3 hk
      rw [h, hx]; unfold sp; rw [hw, if_neg (by omega), h1]; unfold spW; rw [wd_take l m i (i + 1) (by omega), if_pos h2, hn]; rfl
  · rw [h] at e; rcases e with e | e <;> cases e
  · have hw := wend_take l m hm i (by omega) (by omega)
    have hk : k ≤ m := by
      rw [h] at e
      rcases e with e | e
      · simp at e; omega
      · cases e
    have hn := nxt_take 41 l m hm (i + 1) k (by omega) h4 hk
    rw [h]; unfold sp; rw [hw, if_neg (by omega), h1]; unfold spW; rw [wd_take l m i (i + 1) (by omega), if_neg (by rw [h2]; decide), if_pos h2, hn]
  · rw [h] at e; rcases e with e | e <;> cases e
  · rw [h] at e; rcases e with e | e <;> cases e
  · have hq : q ≤ m := by
      rw [h] at e
      rcases e with e | e
      · cases e
      · simp at e; omega
    have hw := wend_take l m hm i (by omega) (by omega)
    rw [h]; unfold sp; rw [hw, if_neg (by omega), h1]; unfold spW; rw [wd_take l m i q hq, if_neg h2, if_neg h3, if_neg (by omega), if_neg h5]
/-- What is known of the beginnings. -/
structure Pre (l : List UInt8) (i : Nat) (a : List (Nat × Nat)) : Prop where
  run : ∀ m, i ≤ m → m ≤ l.length → At (l.take m) i a
  toks : ∀ k (h : k < a.length), sc (l.take a[k].2) = (a.take (k + 1), a[k].2, 0)
  ends : ∀ k (h : k < a.length), a[k].1 < a[k].2 ∧ a[k].2 ≤ i ∧ a[k].2 - a[k].1 ≤ 31
  rise : ∀ k (h : k + 1 < a.length), a[k].2 ≤ a[k + 1].1
theorem Pre.to {l : List UInt8} {i j : Nat} {a : List (Nat × Nat)} (h : Pre l i a) (hi : i < l.length) (e : sp l i = .ok (.inl j)) : Pre l j a := by
  have hj := sp_to l i j hi e
  refine ⟨fun m hm hl => ?_, h.toks, fun k hk => ⟨(h.ends k hk).1, by have := (h.ends k hk).2.1; omega, (h.ends k hk).2.2⟩, h.rise⟩
  have hsp := sp_take l m i hl (by omega) j hm (.inl e)
  exact (h.run m (by omega) hl).to (by rw [List.length_take]; omega) (by rw [hsp]; exact e)
theorem Pre.wo {l : List UInt8} {i j : Nat} {a : List (Nat × Nat)} (h : Pre l i a) (hi : i < l.length) (e : sp l i = .ok (.inr j)) : Pre l j (a ++ [(i, j)]) := by
  have hj := sp_wo l i j hi e
  have hrun : ∀ m, j ≤ m → m ≤ l.length → At (l.take m) j (a ++ [(i, j)]) := fun m hm hl => by
    have hsp := sp_take l m i hl (by omega) j hm (.inr e)
    exact (h.run m (by omega) hl).wo (by rw [List.length_take]; omega) (by rw [hsp]; exact e)
  refine ⟨hrun, fun k hk => ?_, fun k hk => ?_, fun k hk => ?_⟩
  · by_cases hka : k < a.length
    · have h1 := h.toks k hka
      rw [List.getElem_append_left hka, List.take_append_of_le_length (by omega)]; exact h1
    · obtain rfl : k = a.length := by simp at hk; omega
      have h1 := (hrun j (Nat.le_refl _) hj.2.1).fin (by rw [List.length_take]; omega)
      have h2 : (a ++ [(i, j)])[a.length] = (i, j) := by simp
      have h3 : (a ++ [(i, j)]).take (a.length + 1) = a ++ [(i, j)] := List.take_of_length_le (by simp)
      rw [h2, h3]
      exact h1
  · by_cases hka : k < a.length
    · have h1 := h.ends k hka
      rw [List.getElem_append_left hka]; exact ⟨h1.1, by omega, h1.2.2⟩
    · obtain rfl : k = a.length := by simp at hk; omega
      have h2 : (a ++ [(i, j)])[a.length] = (i, j) := by simp
      rw [h2]; exact ⟨hj.1, Nat.le_refl _, hj.2.2.2.2.2.1⟩
  · by_cases hka : k + 1 < a.length
    · have h1 := h.rise k hka
      rw [List.getElem_append_left hka, List.getElem_append_left (by omega)]; exact h1
    · have hk1 : k + 1 = a.length := by simp at hk; omega
      have h2 : (a ++ [(i, j)])[k + 1]'hk = (i, j) := by simp [hk1]
      have h3 : k < a.length := by omega
      have h4 := (h.ends k h3).2.1
      rw [h2, List.getElem_append_left h3]; exact h4
theorem sc_pre (l : List UInt8) : Pre l (sc l).2.1 (sc l).1 := by
  obtain ⟨i, a, hA, hP, h⟩ := At.ends l (P := fun i a => Pre l i a)
    ⟨fun m _ _ => At.start _, fun k h => by simp at h, fun k h => by simp at h, fun k h => by simp at h⟩
    (fun i j a _ h hi e => h.to hi e) (fun i j a _ h hi e => h.wo hi e)
  rcases h with ⟨_, e⟩ | ⟨x, _, _, e⟩ <;> rw [e] <;> exact hP
/-- Ahead of an error all is taken. -/
theorem sc_ahead (l : List UInt8) : sc (l.take (sc l).2.1) = ((sc l).1, (sc l).2.1, 0) := by
  have h := (sc_pre l).run (sc l).2.1 (Nat.le_refl _) (sc_in l).2.1
  exact h.fin (by rw [List.length_take]; omega)
theorem sc_err (l : List UInt8) : (sc l).2.2 = 0 ∨ (sc l).2.2 = 91 ∨ (sc l).2.2 = 92 ∨ (sc l).2.2 = 93 ∨ (sc l).2.2 = 21 := by
  obtain ⟨i, a, hA, hP, h⟩ := At.ends l (P := fun _ _ => True) trivial (fun _ _ _ _ _ _ _ => trivial) (fun _ _ _ _ _ _ _ => trivial)
  rcases h with ⟨_, e⟩ | ⟨x, _, hx, e⟩
  · left; rw [e]
  · right; rw [e]; exact sp_no l i x hx
end Go.Proofs.Ytokhlcioekbjdaa.K
