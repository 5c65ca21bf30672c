import Derived.Test.YtlljelfplffglabProg
import Derived.Test.YtlljelfplffglabKMath
import Derived.WalkKit
import Derived.WalkSpells
import Derived.WalkLawsBesides
import Derived.Laws.RangeAny
import Derived.Lib.OthersKept
import Derived.Below
/-! The sums. -/
namespace Go.Proofs.Ytlljelfplffglab.K
open Go.RowKit
set_option linter.unusedVariables false

/-- A slice of bytes reads so. -/
def Bs (W : World) (p : Option Addr) (l : List UInt8) : Prop := l = [] ∨ ∃ x, p = some x ∧ ∀ j b, l[j]? = some b → W.cell? (x.add j) = some (.int .u8 (b.toNat : Int))
theorem Bs.at {W : World} {p : Option Addr} {l : List UInt8} (h : Bs W p l) (j : Nat) (b : UInt8) (hj : l[j]? = some b) : ∃ x, p = some x ∧ W.cell? (x.add j) = some (.int .u8 (b.toNat : Int)) := by
  rcases h with rfl | ⟨x, rfl, h⟩
  · simp at hj
  · exact ⟨x, rfl, h j b hj⟩

theorem xor32 (a b : Nat) (ha : a < 4294967296) (hb : b < 4294967296) : bits .xor .u32 (a : Int) (b : Int) = ((a ^^^ b : Nat) : Int) := by
  have hx : a ^^^ b < 2 ^ 32 := Nat.xor_lt_two_pow (by omega) (by omega)
  have h1 : (BitVec.ofInt 32 (a : Int)).toNat = a := by
    rw [BitVec.ofInt_natCast, BitVec.toNat_ofNat]; exact Nat.mod_eq_of_lt (by omega)
  have h2 : (BitVec.ofInt 32 (b : Int)).toNat = b := by
    rw [BitVec.ofInt_natCast, BitVec.toNat_ofNat]; exact Nat.mod_eq_of_lt (by omega)
  show IntKind.u32.wrap ((BitVec.ofInt 32 (a : Int) ^^^ BitVec.ofInt 32 (b : Int)).toNat : Int) = _
  rw [BitVec.toNat_xor, h1, h2]
  simp [IntKind.wrap, IntKind.bits, IntKind.signed]
  omega
theorem or32 (a b : Nat) (ha : a < 4294967296) (hb : b < 4294967296) : bits .or .u32 (a : Int) (b : Int) = ((a ||| b : Nat) : Int) := by
  have hx : a ||| b < 2 ^ 32 := Nat.or_lt_two_pow (by omega) (by omega)
  have h1 : (BitVec.ofInt 32 (a : Int)).toNat = a := by
    rw [BitVec.ofInt_natCast, BitVec.toNat_ofNat]; exact Nat.mod_eq_of_lt (by omega)
  have h2 : (BitVec.ofInt 32 (b : Int)).toNat = b := by
    rw [BitVec.ofInt_natCast, BitVec.toNat_ofNat]; exact Nat.mod_eq_of_lt (by omega)
  show IntKind.u32.wrap ((BitVec.ofInt 32 (a : Int) ||| BitVec.ofInt 32 (b : Int)).toNat : Int) = _
  rw [BitVec.toNat_or, h1, h2]
  simp [IntKind.wrap, IntKind.bits, IntKind.signed]
  omega
theorem xor8 (a b : Nat) (ha : a < 256) (hb : b < 256) : bits .xor .u8 (a : Int) (b : Int) = ((a ^^^ b : Nat) : Int) := by
  have hx : a ^^^ b < 2 ^ 8 := Nat.xor_lt_two_pow (by omega) (by omega)
  have h1 : (BitVec.ofInt 8 (a : Int)).toNat = a := by
    rw [BitVec.ofInt_natCast, BitVec.toNat_ofNat]; exact Nat.mod_eq_of_lt (by omega)
  have h2 : (BitVec.ofInt 8 (b : Int)).toNat = b := by
    rw [BitVec.ofInt_natCast, BitVec.toNat_ofNat]; exact Nat.mod_eq_of_lt (by omega)
  show IntKind.u8.wrap ((BitVec.ofInt 8 (a : Int) ^^^ BitVec.ofInt 8 (b : Int)).toNat : Int) = _
  rw [BitVec.toNat_xor, h1, h2]
  simp [IntKind.wrap, IntKind.bits, IntKind.signed]
  omega
theorem and32 (a n : Nat) (ha : a < 4294967296) (hn : n ≤ 31) : bits .and .u32 (a : Int) ((2 ^ n - 1 : Nat) : Int) = ((a % 2 ^ n : Nat) : Int) := by
  have hp : 2 ^ n ≤ 2 ^ 31 := Nat.pow_le_pow_right (by decide) hn
  have hp1 := Nat.two_pow_pos n
  have h1 : (BitVec.ofInt 32 (a : Int)).toNat = a := by
    rw [BitVec.ofInt_natCast, BitVec.toNat_ofNat]; exact Nat.mod_eq_of_lt (by omega)
  have h2 : (BitVec.ofInt 32 ((2 ^ n - 1 : Nat) : Int)).toNat = 2 ^ n - 1 := by
    rw [BitVec.ofInt_natCast, BitVec.toNat_ofNat]; exact Nat.mod_eq_of_lt (by omega)
  show IntKind.u32.wrap ((BitVec.ofInt 32 (a : Int) &&& BitVec.ofInt 32 ((2 ^ n - 1 : Nat) : Int)).toNat : Int) = _
  rw [BitVec.toNat_and, h1, h2, Nat.and_two_pow_sub_one_eq_mod]
  have hlt := Nat.mod_lt a hp1
  generalize a % 2 ^ n = z at *
  simp [IntKind.wrap, IntKind.bits, IntKind.signed]
  omega
theorem reg_take (r : Nat) (l : List UInt8) (k : Nat) (h : k < l.length) : reg r (l.take (k + 1)) = it 8 (reg r (l.take k) ^^^ l[k].toNat) := by
  rw [List.take_succ_eq_append_getElem h, reg_append]; rfl
theorem it_succ (n r : Nat) : it (n + 1) r = T (it n r) := by rw [it_add]; rfl

/-- A slice of slices of bytes reads so. -/
def Parts (W : World) (p : Option Addr) (ls : List (List UInt8)) : Prop := ∀ i l, ls[i]? = some l → ∃ x q c, p = some x ∧ W.cell? (x.add i) = some (.slice q l.length c) ∧ Bs W q l ∧ l.length ≤ maxLen
/-- The table. -/
def Tab (W : World) : Prop := ∀ i, i < 16 → W.cell? ⟨0, i, none⟩ = some (.int .u32 (it 4 i : Nat))
theorem nib (r : Nat) (hr : r < 4294967296) : bits .xor .u32 ((r : Int) / 16) ((it 4 (r % 16) : Nat) : Int) = ((it 4 r : Nat) : Int) := by
  have := xor32 (r / 16) (it 4 (r % 16)) (by omega) (it_lt 4 (by omega))
  rw [it4 r, ← this]; rfl

end Go.Proofs.Ytlljelfplffglab.K
