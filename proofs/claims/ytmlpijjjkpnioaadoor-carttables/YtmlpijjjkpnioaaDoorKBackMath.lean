import Derived.Test.YtmlpijjjkpnioaaDoorKRefW
/-! There and back, by plain lists. -/
namespace Go.Proofs.YtmlpijjjkpnioaaDoor.K
open Go.RowKit
set_option linter.unusedVariables false

theorem numL_low (k : Nat) : ∀ x, numL (low k x) = x % 256 ^ k := by
  induction k with
  | zero => intro x; simp [low, numL, Nat.mod_one]
  | succ k ih =>
    intro x
    have e : 256 ^ (k + 1) = 256 * 256 ^ k := by rw [Nat.pow_succ, Nat.mul_comm]
    rw [low, numL, ih, by8_nat, e, Nat.mod_mul]
    omega
theorem low_numL (t : List UInt8) : low t.length (numL t) = t := by
  induction t with
  | nil => rfl
  | cons b t ih =>
    have hb := u8lt b
    rw [List.length_cons, low, numL]
    have e1 : (2 ^ 8 * numL t + b.toNat) / 256 = numL t := by omega
    have e2 : by8 (2 ^ 8 * numL t + b.toNat) = b := by
      apply UInt8.toNat_inj.1; rw [by8_nat]; omega
    rw [e1, e2, ih]
theorem tk_front (a r : List UInt8) (n : Int) (h : n = (a.length : Int)) : tk (a ++ r) 0 n = (a, r, 0) := by
  subst h
  rw [tk_in a.length (by simp)]
  simp
end Go.Proofs.YtmlpijjjkpnioaaDoor.K
