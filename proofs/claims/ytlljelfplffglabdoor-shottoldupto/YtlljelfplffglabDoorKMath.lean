import Derived.WalkKit
/-! The sum's register, by plain numbers. -/
namespace Go.Proofs.YtlljelfplffglabDoor.K
set_option linter.unusedVariables false

def poly : Nat := 3988292384
def T (r : Nat) : Nat := (r >>> 1) ^^^ (if r % 2 = 1 then poly else 0)
def it : Nat → Nat → Nat
  | 0, r => r
  | n + 1, r => it n (T r)
/-- The register behind a list of bytes. -/
def reg (r : Nat) (l : List UInt8) : Nat := l.foldl (fun r b => it 8 (r ^^^ b.toNat)) r
def ones : Nat := 4294967295
def crc (l : List UInt8) : Nat := reg ones l ^^^ ones

theorem xlc (a b c : Nat) : a ^^^ (b ^^^ c) = b ^^^ (a ^^^ c) := by rw [← Nat.xor_assoc, Nat.xor_comm a b, Nat.xor_assoc]
theorem T_xor (a b : Nat) : T (a ^^^ b) = T a ^^^ T b := by
  have e : (a ^^^ b) % 2 = (a % 2 + b % 2) % 2 := by
    have h := Nat.xor_mod_two_pow (a := a) (b := b) (n := 1)
    have ha : a % 2 = 0 ∨ a % 2 = 1 := by omega
    have hb : b % 2 = 0 ∨ b % 2 = 1 := by omega
    simp only [Nat.pow_one] at h
    rcases ha with ha | ha <;> rcases hb with hb | hb <;> rw [h, ha, hb] <;> decide
  have ha : a % 2 = 0 ∨ a % 2 = 1 := by omega
  have hb : b % 2 = 0 ∨ b % 2 = 1 := by omega
  have hs : (a ^^^ b) >>> 1 = (a >>> 1) ^^^ (b >>> 1) := Nat.shiftRight_xor_distrib
  unfold T
  rw [hs, e]
  rcases ha with ha | ha <;> rcases hb with hb | hb <;> simp [ha, hb, Nat.xor_comm, xlc]
  rw [← Nat.xor_assoc, Nat.xor_self, Nat.zero_xor]
theorem T_even (y : Nat) : T (2 * y) = y := by
  unfold T
  have : (2 * y) % 2 = 0 := by omega
  simp [this, Nat.shiftRight_eq_div_pow]
theorem it_xor (n a b : Nat) : it n (a ^^^ b) = it n a ^^^ it n b := by
  induction n generalizing a b with
  | zero => rfl
  | succ n ih => simp only [it]; rw [T_xor, ih]
theorem it_add (m n r : Nat) : it (m + n) r = it n (it m r) := by
  induction m generalizing r with
  | zero => simp [it]
  | succ m ih => rw [show m + 1 + n = (m + n) + 1 by omega]; simp only [it]; rw [ih]
theorem it_shift (n y : Nat) : it n (2 ^ n * y) = y := by
  induction n with
  | zero => simp [it]
  | succ n ih => rw [show 2 ^ (n + 1) * y = 2 * (2 ^ n * y) by rw [Nat.pow_succ]; simp [Nat.mul_comm, Nat.mul_left_comm]]; simp only [it]; rw [T_even, ih]
theorem split16 (n r : Nat) : r = (2 ^ n * (r / 2 ^ n)) ^^^ (r % 2 ^ n) := by
  apply Nat.eq_of_testBit_eq
  intro j
  rw [Nat.testBit_xor, Nat.testBit_mod_two_pow, show 2 ^ n * (r / 2 ^ n) = 2 ^ n * (r / 2 ^ n) + 0 by rfl, Nat.testBit_two_pow_mul_add _ (Nat.two_pow_pos n)]
  by_cases h : j < n
  · simp [h]
  · simp [h, Nat.testBit_div_two_pow]
    congr 1; omega
theorem it4 (r : Nat) : it 4 r = (r / 16) ^^^ it 4 (r % 16) := by
  have := split16 4 r
  calc it 4 r = it 4 ((2 ^ 4 * (r / 2 ^ 4)) ^^^ (r % 2 ^ 4)) := by rw [← this]
    _ = _ := by rw [it_xor, it_shift]

/-- The bytes as one number, the first the lowest. -/
def numL : List UInt8 → Nat
  | [] => 0
  | b :: l => 2 ^ 8 * numL l + b.toNat
theorem u8lt (b : UInt8) : b.toNat < 256 := UInt8.toNat_lt b
theorem add_xor (n y b : Nat) (h : b < 2 ^ n) : 2 ^ n * y + b = (2 ^ n * y) ^^^ b := by
  have := split16 n (2 ^ n * y + b)
  rw [Nat.mul_add_mod, Nat.mod_eq_of_lt h, Nat.mul_add_div (Nat.two_pow_pos n), Nat.div_eq_of_lt h, Nat.add_zero] at this
  exact this
theorem reg_eq (r : Nat) (l : List UInt8) : reg r l = it (8 * l.length) (r ^^^ numL l) := by
  induction l generalizing r with
  | nil => simp [reg, it, numL]
  | cons b l ih =>
    rw [show 8 * (b :: l).length = 8 + 8 * l.length by simp; omega, it_add]
    have h1 : reg r (b :: l) = reg (it 8 (r ^^^ b.toNat)) l := rfl
    rw [h1, ih, numL, add_xor 8 _ _ (u8lt b), xlc r, it_xor 8 (2 ^ 8 * numL l), it_shift, Nat.xor_comm (numL l)]
theorem T_lt {r : Nat} (h : r < 2 ^ 32) : T r < 2 ^ 32 := by
  unfold T
  refine Nat.xor_lt_two_pow (by rw [Nat.shiftRight_eq_div_pow]; omega) ?_
  split <;> decide
theorem T_ne {r : Nat} (h : r < 2 ^ 32) (h0 : r ≠ 0) : T r ≠ 0 := by
  intro e
  unfold T at e
  by_cases ho : r % 2 = 1
  · rw [if_pos ho] at e
    have e1 : r >>> 1 = poly := by
      have e2 := congrArg (· ^^^ poly) e
      simpa [Nat.xor_assoc] using e2
    rw [Nat.shiftRight_eq_div_pow] at e1
    unfold poly at e1
    omega
  · rw [if_neg ho] at e
    simp [Nat.shiftRight_eq_div_pow] at e
    omega
theorem it_ne {r : Nat} (n : Nat) (h : r < 2 ^ 32) (h0 : r ≠ 0) : it n r ≠ 0 := by
  induction n generalizing r with
  | zero => exact h0
  | succ n ih => exact ih (T_lt h) (T_ne h h0)
theorem it_lt {r : Nat} (n : Nat) (h : r < 2 ^ 32) : it n r < 2 ^ 32 := by
  induction n generalizing r with
  | zero => exact h
  | succ n ih => exact ih (T_lt h)
theorem reg_lt (r : Nat) (l : List UInt8) (h : r < 2 ^ 32) : reg r l < 2 ^ 32 := by
  induction l generalizing r with
  | nil => exact h
  | cons b l ih => exact ih _ (it_lt 8 (Nat.xor_lt_two_pow h (by have := u8lt b; omega)))
theorem crc_lt (l : List UInt8) : crc l < 2 ^ 32 := Nat.xor_lt_two_pow (reg_lt _ _ (by decide)) (by decide)
theorem reg_append (r : Nat) (a b : List UInt8) : reg r (a ++ b) = reg (reg r a) b := by simp [reg]
theorem xor_cancel {a b c : Nat} (h : a ^^^ c = b ^^^ c) : a = b := by
  have := congrArg (· ^^^ c) h
  simpa [Nat.xor_assoc] using this
/-- Two lists of one length that differ by a pattern of at most 32 bits: their sums differ if and only if it is not empty. -/
theorem crc_turned (a b : List UInt8) (hl : a.length = b.length) (n E : Nat) (hE : E < 2 ^ 32) (hn : n ≤ 8 * a.length) (h : numL b = numL a ^^^ (2 ^ n * E)) : (crc a ≠ crc b) ↔ E ≠ 0 := by
  have key : reg ones b = reg ones a ^^^ it (8 * a.length - n) E := by
    rw [reg_eq, reg_eq, ← hl, h, ← Nat.xor_assoc, it_xor (8 * a.length) (ones ^^^ numL a)]
    congr 1
    have : 8 * a.length = n + (8 * a.length - n) := by omega
    rw [this, it_add, it_shift]
    congr 1; omega
  constructor
  · intro hne h0
    apply hne
    subst h0
    have : it (8 * a.length - n) 0 = 0 := by
      have := it_shift (8 * a.length - n) 0
      simpa using this
    unfold crc; rw [key, this]; simp
  · intro h0 e
    have e1 := xor_cancel e
    rw [key] at e1
    have := it_ne (8 * a.length - n) hE h0
    apply this
    have e2 := congrArg (reg ones a ^^^ ·) e1
    simpa [← Nat.xor_assoc] using e2.symm
theorem numL_testBit (l : List UInt8) (j : Nat) : (numL l).testBit j = ((l[j / 8]?).map fun b => b.toNat.testBit (j % 8)).getD false := by
  induction l generalizing j with
  | nil => simp [numL]
  | cons b l ih =>
    rw [numL, Nat.testBit_two_pow_mul_add _ (u8lt b)]
    by_cases h : j < 8
    · have : j / 8 = 0 := by omega
      have h2 : j % 8 = j := by omega
      simp [h, this, h2]
    · have : j / 8 = (j - 8) / 8 + 1 := by omega
      have h2 : j % 8 = (j - 8) % 8 := by omega
      rw [if_neg h, ih, this, h2]; simp
theorem numL_flip (l : List UInt8) (k : Nat) (b x : UInt8) (hb : l[k / 8]? = some b) (hx : x.toNat = b.toNat ^^^ 2 ^ (k % 8)) : numL (l.set (k / 8) x) = numL l ^^^ 2 ^ k := by
  apply Nat.eq_of_testBit_eq
  intro j
  rw [Nat.testBit_xor, numL_testBit, numL_testBit, List.getElem?_set, Nat.testBit_two_pow]
  have hlt : k / 8 < l.length := by
    by_cases h : k / 8 < l.length
    · exact h
    · rw [List.getElem?_eq_none (by omega)] at hb; cases hb
  by_cases e : k / 8 = j / 8
  · rw [if_pos e, if_pos hlt, ← e, hb]
    simp only [Option.map_some, Option.getD_some]
    rw [hx, Nat.testBit_xor, Nat.testBit_two_pow]
    congr 1
    by_cases e2 : k = j
    · subst e2; simp
    · have : k % 8 ≠ j % 8 := by omega
      simp [e2, this]
  · rw [if_neg e]
    have : k ≠ j := by intro h; exact e (by rw [h])
    simp [this]
end Go.Proofs.YtlljelfplffglabDoor.K
