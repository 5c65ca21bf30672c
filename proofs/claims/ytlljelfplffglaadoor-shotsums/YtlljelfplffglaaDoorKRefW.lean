import Derived.Test.YtlljelfplffglaaDoorKKnownL
/-! The reference's bytes: Low, Number. -/
namespace Go.Proofs.YtlljelfplffglaaDoor.K
open Go.RowKit
set_option linter.unusedVariables false

theorem by8_congr {a b : Nat} (h : a % 256 = b % 256) : by8 a = by8 b := by
  apply UInt8.toNat_inj.1; rw [by8_nat, by8_nat, h]
theorem low1_mod {a b : Nat} (h : a % 256 = b % 256) : low 1 a = low 1 b := by simp only [low]; rw [by8_congr h]
theorem low2_mod {a b : Nat} (h : a % 65536 = b % 65536) : low 2 a = low 2 b := by
  rw [low2, low2, by8_congr (a := a) (b := b) (by omega), by8_congr (a := a / 256) (b := b / 256) (by omega)]
theorem low4_mod {a b : Nat} (h : a % 4294967296 = b % 4294967296) : low 4 a = low 4 b := by
  rw [low4, low4, by8_congr (a := a) (b := b) (by omega), by8_congr (a := a / 256) (b := b / 256) (by omega), by8_congr (a := a / 65536) (b := b / 65536) (by omega), by8_congr (a := a / 16777216) (b := b / 16777216) (by omega)]
theorem low_len (k : Nat) : ∀ x, (low k x).length = k := by
  induction k with
  | zero => intro x; rfl
  | succ k ih => intro x; simp [low, ih]
theorem low_split (k : Nat) : ∀ x, low (k + 1) x = low k x ++ [by8 (x / 256 ^ k)] := by
  induction k with
  | zero => intro x; simp [low]
  | succ k ih =>
    intro x
    rw [show low (k + 1 + 1) x = by8 x :: low (k + 1) (x / 256) from rfl, ih (x / 256), show low (k + 1) x = by8 x :: low k (x / 256) from rfl, Nat.div_div_eq_div_mul, Nat.pow_succ, Nat.mul_comm 256]
    simp
/-- One byte more onto a row, from a slice built for it. -/
theorem row1 (W : World) (x : UInt8) : Sl (W.alloc (.cells #[.int .u8 (x.toNat : Int)] 5)) (.slice (some ⟨W.heap.size, 0, none⟩) 1 1) [x] ∧ Below W.heap.size W (W.alloc (.cells #[.int .u8 (x.toNat : Int)] 5)) :=
  ⟨(row_of_alloc W W.heap.size (Nat.le_refl _) [x] (by simp [maxLen])).sl, (Below.refl _ _).alloc (Nat.le_refl _) _⟩

end Go.Proofs.YtlljelfplffglaaDoor.K
