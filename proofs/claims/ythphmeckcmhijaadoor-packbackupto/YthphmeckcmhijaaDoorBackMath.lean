import Derived.Test.YthphmeckcmhijaaDoorLay
import Derived.Test.YthphmeckcmhijaaDoorTakes
/-! There and back, by plain lists. -/
namespace Go.Proofs.YthphmeckcmhijaaDoor
open Go.RowKit
set_option linter.unusedVariables false

theorem numL_low (k : Nat) : ∀ x, numL (low k x) = x % 256 ^ k := by
  induction k with
  | zero => intro x; simp [low, numL, Nat.mod_one]
  | succ k ih =>
    intro x
    have e : 256 ^ (k + 1) = 256 * 256 ^ k := by rw [Nat.pow_succ, Nat.mul_comm]
    rw [low, numL, ih, by8_nat, e, Nat.mod_mul]
    omega
theorem low_numL (t : List UInt8) : low t.length (numL t) = t := by
  induction t with
  | nil => rfl
  | cons b t ih =>
    have hb := u8lt b
    rw [List.length_cons, low, numL]
    have e1 : (2 ^ 8 * numL t + b.toNat) / 256 = numL t := by omega
    have e2 : by8 (2 ^ 8 * numL t + b.toNat) = b := by
      apply UInt8.toNat_inj.1; rw [by8_nat]; omega
    rw [e1, e2, ih]
theorem nmA_form (f : Nat) : ∀ (i s x : Nat) (r : List UInt8), x < 2 ^ (7 * f) → 0 < f → s + 2 ^ (7 * i) * x ≤ 4294967295 → (0 < i → x ≠ 0) → nmA f i s (form x ++ r) = (s + 2 ^ (7 * i) * x, i + (form x).length, 0) := by
  induction f with
  | zero => intro i s x r _ h; omega
  | succ f ih =>
    intro i s x r hx _ hm h0
    by_cases h : x < 128
    · rw [form_lt h]
      have hb : (by8 x).toNat = x := by rw [by8_nat]; omega
      simp only [List.cons_append, List.nil_append, nmA, hb, h, if_true, List.length_singleton]
      have e : x % 128 = x := by omega
      rw [e, if_neg]
      intro hc
      rcases hc with ⟨h1, h2⟩ | h1
      · exact h0 h2 h1
      · omega
    · rw [form_ge h]
      have hb : (by8 (x % 128 + 128)).toNat = x % 128 + 128 := by rw [by8_nat]; omega
      simp only [List.cons_append, nmA, hb]
      rw [if_neg (by omega)]
      have e : (x % 128 + 128) % 128 = x % 128 := by omega
      have hp : 2 ^ (7 * (f + 1)) = 2 ^ (7 * f) * 128 := by rw [show 7 * (f + 1) = 7 * f + 7 by omega, Nat.pow_add]
      have hp2 : 2 ^ (7 * (i + 1)) = 2 ^ (7 * i) * 128 := by rw [show 7 * (i + 1) = 7 * i + 7 by omega, Nat.pow_add]
      have hf : 0 < f := by
        by_cases hf : f = 0
        · subst hf; simp at hx; omega
        · omega
      have hs : s + 2 ^ (7 * i) * (x % 128) + 2 ^ (7 * (i + 1)) * (x / 128) = s + 2 ^ (7 * i) * x := by
        rw [hp2, Nat.mul_assoc, Nat.add_assoc, ← Nat.mul_add]
        congr 2
        omega
      rw [e, ih (i + 1) _ (x / 128) r (by rw [hp] at hx; omega) hf (by rw [hs]; exact hm) (fun _ => by omega), hs]
      simp only [List.length_cons, Prod.mk.injEq, true_and, and_true]
      omega
theorem nm_form (x : Nat) (r : List UInt8) (hx : x < 4294967296) : nm (form x ++ r) = (x, (form x).length, 0) := by
  have h := nmA_form 5 0 0 x r (by omega) (by decide) (by simp; omega) (fun h => by omega)
  simpa [nm] using h
theorem form_nmA (f : Nat) : ∀ (i s : Nat) (l : List UInt8), (nmA f i s l).2.2 = 0 → ∃ y, (nmA f i s l).1 = s + 2 ^ (7 * i) * y ∧ (nmA f i s l).2.1 = i + (form y).length ∧ l.take (form y).length = form y ∧ (0 < i → y ≠ 0) := by
  induction f with
  | zero => intro i s l h; simp [nmA] at h
  | succ f ih =>
    intro i s l h
    cases l with
    | nil => simp [nmA] at h
    | cons b r =>
      have hb := u8lt b
      simp only [nmA] at h ⊢
      by_cases hs : b.toNat < 128
      · simp only [hs, if_true] at h ⊢
        by_cases hc : (b.toNat = 0 ∧ 0 < i) ∨ 4294967295 < s + 2 ^ (7 * i) * (b.toNat % 128)
        · rw [if_pos hc] at h; simp at h
        · rw [if_neg hc]
          have e : b.toNat % 128 = b.toNat := by omega
          have hf : form b.toNat = [b] := by
            rw [form_lt hs]; congr 1
            apply UInt8.toNat_inj.1; rw [by8_nat]; omega
          refine ⟨b.toNat, by rw [e], by rw [hf]; rfl, by rw [hf]; rfl, fun hi h0 => hc (.inl ⟨h0, hi⟩)⟩
      · simp only [hs, if_false] at h ⊢
        obtain ⟨y, h1, h2, h3, h4⟩ := ih _ _ r h
        have hy := h4 (by omega)
        have hge : ¬ (b.toNat % 128 + 128 * y) < 128 := by omega
        have hq : (b.toNat % 128 + 128 * y) / 128 = y := by omega
        have hm : (b.toNat % 128 + 128 * y) % 128 = b.toNat % 128 := by omega
        have hbb : by8 (b.toNat % 128 + 128) = b := by apply UInt8.toNat_inj.1; rw [by8_nat]; omega
        have hf : form (b.toNat % 128 + 128 * y) = b :: form y := by rw [form_ge hge, hq, hm, hbb]
        refine ⟨b.toNat % 128 + 128 * y, ?_, ?_, ?_, fun _ => by omega⟩
        · rw [h1, show 7 * (i + 1) = 7 * i + 7 by omega, Nat.pow_add, Nat.mul_add, Nat.mul_assoc]
          simp [Nat.add_assoc]
        · rw [h2, hf, List.length_cons]; omega
        · rw [hf, List.length_cons, List.take_succ_cons, h3]
theorem form_nm (l : List UInt8) (h : (nm l).2.2 = 0) : l.take (nm l).2.1 = form (nm l).1 := by
  obtain ⟨y, h1, h2, h3, _⟩ := form_nmA 5 0 0 l h
  have e1 : (nm l).1 = y := by have := h1; simpa [nm] using this
  have e2 : (nm l).2.1 = (form y).length := by have := h2; simpa [nm] using this
  rw [e1, e2, h3]
/-- All that a script lays down. -/
def layAll : List (Int × Int × List UInt8) → List UInt8
  | [] => []
  | t :: r => layOf t.1 t.2.1 t.2.2 ++ layAll r
theorem layAll_append (a b : List (Int × Int × List UInt8)) : layAll (a ++ b) = layAll a ++ layAll b := by
  induction a with
  | nil => rfl
  | cons t r ih => simp [layAll, ih]
theorem layAll_take (ps : List (Int × Int × List UInt8)) (k : Nat) (h : k < ps.length) : layAll (ps.take (k + 1)) = layAll (ps.take k) ++ layOf ps[k].1 ps[k].2.1 ps[k].2.2 := by
  rw [List.take_succ_eq_append_getElem h, layAll_append]; simp [layAll]
theorem layAll_drop (ps : List (Int × Int × List UInt8)) (k : Nat) (h : k < ps.length) : layAll (ps.drop k) = layOf ps[k].1 ps[k].2.1 ps[k].2.2 ++ layAll (ps.drop (k + 1)) := by
  rw [List.drop_eq_getElem_cons h]; rfl
/-- The bytes at hand begin with what is taken. -/
theorem tk_front (a r : List UInt8) (n : Int) (h : n = (a.length : Int)) : tk (a ++ r) 0 n = (a, r, 0) := by
  subst h
  rw [tk_in a.length (by simp)]
  simp
end Go.Proofs.YthphmeckcmhijaaDoor
