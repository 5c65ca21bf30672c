import Derived.Test.YtlljelfplffglabDoorProg
import Derived.Test.YtlljelfplffglabDoorKMath
import Derived.WalkKit
import Derived.WalkSpells
import Derived.WalkLawsBesides
import Derived.Laws.RangeAny
import Derived.Lib.OthersKept
import Derived.Below
/-! The sums. -/
namespace Go.Proofs.YtlljelfplffglabDoor.K
open Go.RowKit
set_option linter.unusedVariables false

/-- A slice of bytes reads so. -/
def Bs (W : World) (p : Option Addr) (l : List UInt8) : Prop := l = [] ∨ ∃ x, p = some x ∧ ∀ j b, l[j]? = some b → W.cell? (x.add j) = some (.int .u8 (b.toNat : Int))
theorem Bs.at {W : World} {p : Option Addr} {l : List UInt8} (h : Bs W p l) (j : Nat) (b : UInt8) (hj : l[j]? = some b) : ∃ x, p = some x ∧ W.cell? (x.add j) = some (.int .u8 (b.toNat : Int)) := by
  rcases h with rfl | ⟨x, rfl, h⟩
  · simp at hj
  · exact ⟨x, rfl, h j b hj⟩

theorem xor32 (a b : Nat) (ha : a < 4294967296) (hb : b < 4294967296) : bits .xor .u32 (a : Int) (b : Int) = ((a ^^^ b : Nat) : Int) := by
  have hx : a ^^^ b < 2 ^ 32 := Nat.xor_lt_two_pow (by omega) (by omega)
  have h1 : (BitVec.ofInt 32 (a : Int)).toNat = a := by
    rw [BitVec.ofInt_natCast, BitVec.toNat_ofNat]; exact Nat.mod_eq_of_lt (by omega)
  have h2 : (BitVec.ofInt 32 (b : Int)).toNat = b := by
    rw [BitVec.ofInt_natCast, BitVec.toNat_ofNat]; exact Nat.mod_eq_of_lt (by omega)
  show IntKind.u32.wrap ((BitVec.ofInt 32 (a : Int) ^^^ BitVec.ofInt 32 (b : Int)).toNat : Int) = _
  rw [BitVec.toNat_xor, h1, h2]
  simp [IntKind.wrap, IntKind.bits, IntKind.signed]
  omega
theorem or32 (a b : Nat) (ha : a < 4294967296) (hb : b < 4294967296) : bits .or .u32 (a : Int) (b : Int) = ((a ||| b : Nat) : Int) := by
  have hx : a ||| b < 2 ^ 32 := Nat.or_lt_two_pow (by omega) (by omega)
  have h1 : (BitVec.ofInt 32 (a : Int)).toNat = a := by
    rw [BitVec.ofInt_natCast, BitVec.toNat_ofNat]; exact Nat.mod_eq_of_lt (by omega)
  have h2 : (BitVec.ofInt 32 (b : Int)).toNat = b := by
    rw [BitVec.ofInt_natCast, BitVec.toNat_ofNat]; exact Nat.mod_eq_of_lt (by omega)
  show IntKind.u32.wrap ((BitVec.ofInt 32 (a : Int) ||| BitVec.ofInt 32 (b : Int)).toNat : Int) = _
  rw [BitVec.toNat_or, h1, h2]
  simp [IntKind.wrap, IntKind.bits, IntKind.signed]
  omega
theorem xor8 (a b : Nat) (ha : a < 256) (hb : b < 256) : bits .xor .u8 (a : Int) (b : Int) = ((a ^^^ b : Nat) : Int) := by
  have hx : a ^^^ b < 2 ^ 8 := Nat.xor_lt_two_pow (by omega) (by omega)
  have h1 : (BitVec.ofInt 8 (a : Int)).toNat = a := by
    rw [BitVec.ofInt_natCast, BitVec.toNat_ofNat]; exact Nat.mod_eq_of_lt (by omega)
  have h2 : (BitVec.ofInt 8 (b : Int)).toNat = b := by
    rw [BitVec.ofInt_natCast, BitVec.toNat_ofNat]; exact Nat.mod_eq_of_lt (by omega)
  show IntKind.u8.wrap ((BitVec.ofInt 8 (a : Int) ^^^ BitVec.ofInt 8 (b : Int)).toNat : Int) = _
  rw [BitVec.toNat_xor, h1, h2]
  simp [IntKind.wrap, IntKind.bits, IntKind.signed]
  omega
theorem and32 (a n : Nat) (ha : a < 4294967296) (hn : n ≤ 31) : bits .and .u32 (a : Int) ((2 ^ n - 1 : Nat) : Int) = ((a % 2 ^ n : Nat) : Int) := by
  have hp : 2 ^ n ≤ 2 ^ 31 := Nat.pow_le_pow_right (by decide) hn
  have hp1 := Nat.two_pow_pos n
  have h1 : (BitVec.ofInt 32 (a : Int)).toNat = a := by
    rw [BitVec.ofInt_natCast, BitVec.toNat_ofNat]; exact Nat.mod_eq_of_lt (by omega)
  have h2 : (BitVec.ofInt 32 ((2 ^ n - 1 : Nat) : Int)).toNat = 2 ^ n - 1 := by
    rw [BitVec.ofInt_natCast, BitVec.toNat_ofNat]; exact Nat.mod_eq_of_lt (by omega)
  show IntKind.u32.wrap ((BitVec.ofInt 32 (a : Int) &&& BitVec.ofInt 32 ((2 ^ n - 1 : Nat) : Int)).toNat : Int) = _
  rw [BitVec.toNat_and, h1, h2, Nat.and_two_pow_sub_one_eq_mod]
  have hlt := Nat.mod_lt a hp1
  generalize a % 2 ^ n = z at *
  simp [IntKind.wrap, IntKind.bits, IntKind.signed]
  omega
theorem reg_take (r : Nat) (l : List UInt8) (k : Nat) (h : k < l.length) : reg r (l.take (k + 1)) = it 8 (reg r (l.take k) ^^^ l[k].toNat) := by
  rw [List.take_succ_eq_append_getElem h, reg_append]; rfl
theorem it_succ (n r : Nat) : it (n + 1) r = T (it n r) := by rw [it_add]; rfl

set_option maxHeartbeats 1000000 in
set_option maxRecDepth 100000 in
theorem rsum_any (p : Option Addr) (c : Nat) (l : List UInt8) (hl : l.length ≤ maxLen) (w : World) (h : Bs w p l) :
    Calls Tryd.prog 34 #[.slice p l.length c] w fun e w' => e = .returned (.int .u32 (crc l : Int)) ∧ w' = w := by
  unfold maxLen at hl
  go_enter Tryd.func34, Tryd.ntmps34
  go_wp2
  go_loopw [3, 4] (fun r i wr => ∃ k : Nat, k ≤ l.length ∧ wr = w ∧ i = .int .i64 (k : Int) ∧ r = .int .u32 (reg ones (l.take k) : Int)) (fun _ i _ => l.length - (intOf i).toNat)
  case atStart => exact ⟨0, by omega, rfl, rfl, rfl⟩
  case round =>
    obtain ⟨k, hk, rfl, rfl, rfl⟩ := hrel
    by_cases hlt : k < l.length
    · obtain ⟨x, rfl, hc⟩ := h.at k (l[k]) (by simp)
      have hr := reg_lt ones (l.take k) (by decide)
      have hb := u8lt l[k]
      have hstep := reg_take ones l k hlt
      generalize hR : reg ones (l.take k) = R at *
      generalize hB : l[k].toNat = B at *
      have hx := xor32 R B hr (by omega)
      have hX : R ^^^ B < 2 ^ 32 := Nat.xor_lt_two_pow hr (by omega)
      go_wp2
      go_loopw [3, 5] (fun r j w3 => ∃ y : Nat, y ≤ 8 ∧ w3 = wr ∧ j = .int .i64 (y : Int) ∧ r = .int .u32 (it y (R ^^^ B) : Int)) (fun _ j _ => 8 - (intOf j).toNat)
      case atStart => exact ⟨0, by omega, rfl, rfl, rfl⟩
      case round =>
        obtain ⟨y, hy, rfl, rfl, rfl⟩ := hrel
        have hI := it_lt y hX
        have hs := it_succ y (R ^^^ B)
        generalize hIy : it y (R ^^^ B) = I at *
        by_cases hy1 : y < 8
        · have y1 : (y : Int) < 8 := by omega
          have hx2 := xor32 (I / 2) poly (by omega) (by decide)
          by_cases ho : I % 2 = 1
          · have hI2 : bits .and .u32 (I : Int) 1 = 1 := by have := and32 I 1 hI (by decide); simpa [ho] using this
            have hT : T I = I / 2 ^^^ poly := by unfold T; rw [if_pos ho, Nat.shiftRight_eq_div_pow]
            have hx3 : bits BinOp.xor IntKind.u32 ((I : Int) / 2) 3988292384 = ((T I : Nat) : Int) := by rw [hT, ← hx2]; rfl
            go_wp2
            go_roundw
            case rel => exact ⟨y + 1, by omega, by trivial, by go_num, by rw [hs, hT]⟩
            case measure => simp [intOf]; omega
          · have hI2 : bits .and .u32 (I : Int) 1 = 0 := by have := and32 I 1 hI (by decide); simpa [show I % 2 = 0 by omega] using this
            have hT : T I = I / 2 := by unfold T; rw [if_neg ho, Nat.shiftRight_eq_div_pow]; simp
            go_wp2
            go_roundw
            case rel => exact ⟨y + 1, by omega, by trivial, by go_num, by rw [hs, hT]; rfl⟩
            case measure => simp [intOf]; omega
        · obtain rfl : y = 8 := by omega
          go_wp2
          go_roundw
          case rel => exact ⟨k + 1, by omega, by trivial, by go_num, by rw [hstep, hIy]⟩
          case measure => simp [intOf]; omega
    · obtain rfl : k = l.length := by omega
      have hr := reg_lt ones l (by decide)
      have hx : bits BinOp.xor IntKind.u32 ((reg ones l : Nat) : Int) 4294967295 = ((crc l : Nat) : Int) := xor32 (reg ones l) ones hr (by decide)
      rw [List.take_length]
      go_wp2
      go_ret
      exact ⟨rfl, rfl⟩
/-- A slice of slices of bytes reads so. -/
def Parts (W : World) (p : Option Addr) (ls : List (List UInt8)) : Prop := ∀ i l, ls[i]? = some l → ∃ x q c, p = some x ∧ W.cell? (x.add i) = some (.slice q l.length c) ∧ Bs W q l ∧ l.length ≤ maxLen
/-- The table. -/
def Tab (W : World) : Prop := ∀ i, i < 16 → W.cell? ⟨0, i, none⟩ = some (.int .u32 (it 4 i : Nat))
theorem nib (r : Nat) (hr : r < 4294967296) : bits .xor .u32 ((r : Int) / 16) ((it 4 (r % 16) : Nat) : Int) = ((it 4 r : Nat) : Int) := by
  have := xor32 (r / 16) (it 4 (r % 16)) (by omega) (it_lt 4 (by omega))
  rw [it4 r, ← this]; rfl

set_option maxHeartbeats 1000000 in
set_option maxRecDepth 100000 in
theorem sum_any (p : Option Addr) (c : Nat) (ls : List (List UInt8)) (hl : ls.length ≤ maxLen) (w : World) (h : Parts w p ls) (ht : Tab w) :
    Calls Tryd.prog 32 #[.slice p ls.length c] w fun e w' => e = .returned (.int .u32 (crc ls.flatten : Int)) ∧ w' = w := by
  unfold maxLen at hl
  go_enter Tryd.func32, Tryd.ntmps32
  go_wp2
  go_loopw [3, 10] (fun r i wr => ∃ k : Nat, k ≤ ls.length ∧ wr = w ∧ i = .int .i64 (k : Int) ∧ r = .int .u32 (reg ones (ls.take k).flatten : Int)) (fun _ i _ => ls.length - (intOf i).toNat)
  case atStart => exact ⟨0, by omega, rfl, rfl, rfl⟩
  case round =>
    obtain ⟨k, hk, rfl, rfl, rfl⟩ := hrel
    by_cases hlt : k < ls.length
    · obtain ⟨x, q, c2, rfl, hc, hbs, hml⟩ := h k (ls[k]) (by simp)
      have hfl : (ls.take (k + 1)).flatten = (ls.take k).flatten ++ ls[k] := by rw [List.take_succ_eq_append_getElem hlt, List.flatten_append, List.flatten_cons, List.flatten_nil, List.append_nil]
      have hr := reg_lt ones (ls.take k).flatten (by decide)
      have hstep := reg_append ones (ls.take k).flatten ls[k]
      rw [← hfl] at hstep
      generalize hR : reg ones (ls.take k).flatten = R at *
      generalize hL : ls[k] = L at *
      unfold maxLen at hml
      go_wp2
      go_loopw [3, 16] (fun r j w3 => ∃ y : Nat, y ≤ L.length ∧ w3 = wr ∧ j = .int .i64 (y : Int) ∧ r = .int .u32 (reg R (L.take y) : Int)) (fun _ j _ => L.length - (intOf j).toNat)
      case atStart => exact ⟨0, by omega, rfl, rfl, rfl⟩
      case round =>
        obtain ⟨y, hy, rfl, rfl, rfl⟩ := hrel
        by_cases hy1 : y < L.length
        · obtain ⟨x2, rfl, hc2⟩ := hbs.at y (L[y]) (by simp)
          have hA := reg_lt R (L.take y) hr
          have hst2 := reg_take R L y hy1
          have hb := u8lt L[y]
          generalize hAe : reg R (L.take y) = A at *
          generalize hBe : L[y].toNat = B at *
          have hx := xor32 A B hA (by omega)
          have hX : A ^^^ B < 2 ^ 32 := Nat.xor_lt_two_pow hA (by omega)
          generalize A ^^^ B = X at *
          have hX4 := it_lt 4 hX
          have h8 : it 4 (it 4 X) = it 8 X := (it_add 4 4 X).symm
          have n1 := nib X hX
          have n2 := nib (it 4 X) hX4
          have a1 : bits .and .u32 (X : Int) 15 = ((X % 16 : Nat) : Int) := and32 X 4 hX (by decide)
          have a2 : bits .and .u32 ((it 4 X : Nat) : Int) 15 = ((it 4 X % 16 : Nat) : Int) := and32 _ 4 hX4 (by decide)
          have t1 := ht (X % 16) (by omega)
          have t2 := ht (it 4 X % 16) (by omega)
          rw [h8] at n2
          generalize it 4 X = Y at *
          have j1 : X % 16 < 16 := by omega
          have j2 : Y % 16 < 16 := by omega
          generalize X % 16 = X0 at *
          generalize Y % 16 = Y0 at *
          generalize it 8 X = Z at *
          go_wp2
          go_roundw
          case rel => exact ⟨y + 1, by omega, by trivial, by go_num, by rw [hst2]⟩
          case measure => simp [intOf]; omega
        · obtain rfl : y = L.length := by omega
          rw [List.take_length, ← hstep]
          go_wp2
          go_roundw
          case rel => exact ⟨k + 1, by omega, by trivial, by go_num, by trivial⟩
          case measure => simp [intOf]; omega
    · obtain rfl : k = ls.length := by omega
      have hr := reg_lt ones ls.flatten (by decide)
      have hx : bits BinOp.xor IntKind.u32 IntKind.u32.max ((reg ones ls.flatten : Nat) : Int) = ((crc ls.flatten : Nat) : Int) := by
        have := xor32 ones (reg ones ls.flatten) (by decide) hr
        rw [Nat.xor_comm] at this
        exact this
      rw [List.take_length]
      go_wp2
      go_ret
      exact ⟨rfl, rfl⟩
end Go.Proofs.YtlljelfplffglabDoor.K
