import Derived.Test.YtcmaccefjlgbfaaLoad
/-! The halves of a cell. -/
namespace Go.Proofs.Ytcmaccefjlgbfaa
open Go.Proofs
set_option linter.unusedVariables false
set_option linter.unusedSimpArgs false
theorem ofInt16 (a : Nat) (h : a < 65536) : (BitVec.ofInt 16 (a : Int)).toNat = a := by
  rw [BitVec.ofInt_natCast, BitVec.toNat_ofNat]; exact Nat.mod_eq_of_lt (by omega)
theorem or16 (a b : Nat) (ha : a < 65536) (hb : b < 65536) : bits .or .u16 (a : Int) (b : Int) = ((a ||| b : Nat) : Int) := by
  have hx : a ||| b < 2 ^ 16 := Nat.or_lt_two_pow (by omega) (by omega)
  show IntKind.u16.wrap ((BitVec.ofInt 16 (a : Int) ||| BitVec.ofInt 16 (b : Int)).toNat : Int) = _
  rw [BitVec.toNat_or, ofInt16 a ha, ofInt16 b hb, u16_wrap]
  omega
theorem and16 (a b : Nat) (ha : a < 65536) (hb : b < 65536) : bits .and .u16 (a : Int) (b : Int) = ((a &&& b : Nat) : Int) := by
  have hx : a &&& b < 2 ^ 16 := Nat.and_lt_two_pow _ (by omega)
  show IntKind.u16.wrap ((BitVec.ofInt 16 (a : Int) &&& BitVec.ofInt 16 (b : Int)).toNat : Int) = _
  rw [BitVec.toNat_and, ofInt16 a ha, ofInt16 b hb, u16_wrap]
  omega
theorem and_high (p : Nat) (h : p < 65536) : p &&& 65280 = (p / 256) <<< 8 := by
  apply Nat.eq_of_testBit_eq
  intro i
  rw [show (65280 : Nat) = (2 ^ 8 - 1) <<< 8 from rfl, Nat.testBit_and, Nat.testBit_shiftLeft, Nat.testBit_shiftLeft, Nat.testBit_two_pow_sub_one, show p / 256 = p >>> 8 by rw [Nat.shiftRight_eq_div_pow], Nat.testBit_shiftRight]
  by_cases h1 : 8 ≤ i
  · by_cases h2 : i - 8 < 8
    · simp [h1, h2, show 8 + (i - 8) = i by omega]
    · have hp : p.testBit i = false := Nat.testBit_lt_two_pow (Nat.lt_of_lt_of_le h (Nat.pow_le_pow_right (n := 2) (by decide) (show 16 ≤ i by omega)))
      simp [h1, h2, show 8 + (i - 8) = i by omega, hp]
  · simp [h1]
theorem and_low (p : Nat) : p &&& 255 = p % 256 := Nat.and_two_pow_sub_one_eq_mod p 8
theorem set_lo (p x : Int) (h0 : 0 ≤ p) (h1 : p < 65536) (x0 : 0 ≤ x) (x1 : x < 256) : bits .or .u16 (bits .and .u16 p 65280) x = p / 256 * 256 + x := by
  obtain ⟨a, rfl⟩ := Int.eq_ofNat_of_zero_le h0
  obtain ⟨c, rfl⟩ := Int.eq_ofNat_of_zero_le x0
  have e := and16 a 65280 (by omega) (by omega)
  rw [show ((65280 : Nat) : Int) = 65280 from rfl] at e
  have hs : (a / 256) <<< 8 = a / 256 * 256 := Nat.shiftLeft_eq _ _
  rw [e, and_high a (by omega), or16 _ c (by rw [hs]; omega) (by omega), ← Nat.shiftLeft_add_eq_or_of_lt (by omega), hs]
  omega
theorem set_hi (p x : Int) (h0 : 0 ≤ p) (h1 : p < 65536) (x0 : 0 ≤ x) (x1 : x < 256) : bits .or .u16 (bits .and .u16 p 255) (x * 256) = p % 256 + 256 * x := by
  obtain ⟨a, rfl⟩ := Int.eq_ofNat_of_zero_le h0
  obtain ⟨c, rfl⟩ := Int.eq_ofNat_of_zero_le x0
  have e := and16 a 255 (by omega) (by omega)
  rw [show ((255 : Nat) : Int) = 255 from rfl] at e
  have hs : c <<< 8 = c * 256 := Nat.shiftLeft_eq _ _
  have e2 : (c : Int) * (256 : Int) = ((c <<< 8 : Nat) : Int) := by rw [hs]; exact (Int.natCast_mul c 256).symm
  rw [e, and_low, e2, or16 _ _ (by omega) (by rw [hs]; omega), Nat.or_comm, ← Nat.shiftLeft_add_eq_or_of_lt (by omega), hs]
  omega
end Go.Proofs.Ytcmaccefjlgbfaa
