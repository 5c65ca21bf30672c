import Derived.Test.YteeanomkbclinaaYNodes
/-! Places that follow one another: the pure part. -/
namespace Go.Proofs.Yteeanomkbclinaa.Y
open Go.RowKit
open Go.Proofs
set_option linter.unusedVariables false
set_option linter.unusedSimpArgs false
/-- Definitions far from all that goes round. -/
structure Mild (ds : List Df) : Prop where
  len : ds.length ≤ 1048576
  v : ∀ (i : Nat) (d : Df), ds[i]? = some d → 0 ≤ d.v ∧ d.v ≤ 65535
  c : ∀ (i : Nat) (d : Df), ds[i]? = some d → cl d.body ≤ 16777216
theorem db_le (d : Df) (h : cl d.body ≤ 16777216) : 0 ≤ db d ∧ db d ≤ 67108864 := by
  have := cl_nn d.body
  unfold db
  repeat' split
  all_goals omega
theorem dr_le (d : Df) (h : 0 ≤ d.v ∧ d.v ≤ 65535) : 0 ≤ dr d ∧ dr d ≤ 65535 := by
  unfold dr
  split <;> omega
/-- No number goes round: what is taken with the first k definitions, and with one more. -/
theorem mild_at (ds : List Df) (M : Mild ds) : ∀ k, k ≤ ds.length → (rms ds k).1 = (k : Int) ∧ 128 ≤ (rms ds k).2.1 ∧ (rms ds k).2.1 ≤ 128 + 67108864 * (k : Int) ∧ 0 ≤ (rms ds k).2.2 ∧ (rms ds k).2.2 ≤ 65535 * (k : Int)
  | 0, _ => by unfold rms; rw [List.take_zero]; exact ⟨rfl, by decide, by decide, by decide, by decide⟩
  | k + 1, h => by
    obtain ⟨h1, h2, h3, h4, h5⟩ := mild_at ds M k (by omega)
    have hd := List.getElem?_eq_getElem (show k < ds.length by omega)
    rw [rms_succ ds k _ hd]
    have hm := M.len
    have b1 := db_le _ (M.c k _ hd)
    have b2 := dr_le _ (M.v k _ hd)
    unfold wt
    simp only
    rw [w_in _ (by omega), w_in _ (by omega), w_in _ (by omega)]
    refine ⟨by omega, by omega, by omega, by omega, by omega⟩
theorem mild_succ (ds : List Df) (M : Mild ds) (k : Nat) (d : Df) (hd : ds[k]? = some d) : (rms ds (k + 1)).2.1 = (rms ds k).2.1 + db d ∧ (rms ds (k + 1)).2.2 = (rms ds k).2.2 + dr d := by
  have hk := (List.getElem?_eq_some_iff.1 hd).1
  obtain ⟨h1, h2, h3, h4, h5⟩ := mild_at ds M k (by omega)
  have hm := M.len
  have b1 := db_le _ (M.c k _ hd)
  have b2 := dr_le _ (M.v k _ hd)
  rw [rms_succ ds k _ hd]
  unfold wt
  simp only
  rw [w_in _ (by omega), w_in _ (by omega)]
  exact ⟨rfl, rfl⟩
/-- The place of definition k, where all have room. -/
theorem mild_place (ds : List Df) (M : Mild ds) (hf : ∀ j, j < ds.length → ps (rms ds (j + 1)) = 0) (k : Nat) (d : Df) (hd : ds[k]? = some d) :
    bt d (rms ds k) (rms ds (k + 1)) = ⟨d.nm, (rms ds k).2.1, db d, if d.k = 3 then 32768 + (rms ds k).2.2 else 0⟩ ∧ (rms ds k).2.1 ≤ 16384 ∧ (rms ds k).2.2 ≤ 16384 := by
  have hk := (List.getElem?_eq_some_iff.1 hd).1
  obtain ⟨h1, h2, h3, h4, h5⟩ := mild_at ds M k (by omega)
  obtain ⟨s1, s2⟩ := mild_succ ds M k d hd
  have b1 := db_le _ (M.c k _ hd)
  have b2 := dr_le _ (M.v k _ hd)
  obtain ⟨_, p2, p3⟩ := ps_words (hf k hk)
  rw [s1] at p2
  rw [s2] at p3
  unfold bt
  rw [s1, w_in _ (by omega)]
  refine ⟨?_, by omega, by omega⟩
  have e1 : (rms ds k).2.1 % 65536 = (rms ds k).2.1 := by omega
  have e2 : (32768 + (rms ds k).2.2) % 65536 = 32768 + (rms ds k).2.2 := by omega
  have e3 : (rms ds k).2.1 + db d - (rms ds k).2.1 = db d := by omega
  rw [e1, e2, e3]
theorem rms_take (ds : List Df) (k j : Nat) (h : j ≤ k) : rms (ds.take k) j = rms ds j := by
  unfold rms
  rw [List.take_take, Nat.min_eq_left h]
theorem pls_take (ds : List Df) (k : Nat) : ∀ j, j ≤ k → pls (ds.take k) j = pls ds j
  | 0, _ => rfl
  | j + 1, h => by
    rw [pls, pls, pls_take ds k j (by omega), rms_take ds k j (by omega), rms_take ds k (j + 1) h, List.getElem?_take, if_pos (by omega)]
theorem pls_get (ds : List Df) : ∀ (n k : Nat) (d : Df), k < n → ds[k]? = some d → n ≤ ds.length → (pls ds n)[k]? = some (bt d (rms ds k) (rms ds (k + 1)))
  | 0, k, d, h, _, _ => by omega
  | n + 1, k, d, h, hd, hn => by
    rw [pls_succ ds n _ (List.getElem?_eq_getElem (by omega))]
    have hl := pls_len ds n (by omega)
    by_cases e : k < n
    · rw [List.getElem?_append_left (by omega)]
      exact pls_get ds n k d e hd (by omega)
    · obtain rfl : k = n := by omega
      rw [List.getElem?_append_right (by omega), hl, Nat.sub_self]
      rw [List.getElem?_eq_getElem (by omega)] at hd
      cases hd
      rfl
theorem mild_take (ds : List Df) (M : Mild ds) (k : Nat) : Mild (ds.take k) := by
  refine ⟨by rw [List.length_take]; have := M.len; omega, fun i d h => ?_, fun i d h => ?_⟩
  · rw [List.getElem?_take] at h
    split at h
    · exact M.v i d h
    · cases h
  · rw [List.getElem?_take] at h
    split at h
    · exact M.c i d h
    · cases h
end Go.Proofs.Yteeanomkbclinaa.Y
