import Derived.Test.YtmlpijjjkpnioaaDoorCRound
import Derived.Test.YtmlpijjjkpnioaaDoorKTurned
/-! 7.6, by lists: one byte turned; a beginning. -/
namespace Go.Proofs.YtmlpijjjkpnioaaDoor.C
open Go.RowKit
open Go.Proofs.YtmlpijjjkpnioaaDoor.K
set_option linter.unusedVariables false
set_option linter.unusedSimpArgs false
theorem xor_mul (n a b : Nat) : 2 ^ n * (a ^^^ b) = (2 ^ n * a) ^^^ (2 ^ n * b) := by
  have h := Nat.shiftLeft_xor_distrib (a := a) (b := b) (i := n)
  simp only [Nat.shiftLeft_eq] at h
  rw [Nat.mul_comm, h, Nat.mul_comm a, Nat.mul_comm b]
theorem numL_setx : ∀ (l : List UInt8) (k : Nat) (hk : k < l.length) (x : UInt8), numL (l.set k (l[k] ^^^ x)) = numL l ^^^ (2 ^ (8 * k) * x.toNat)
  | b :: l, 0, hk, x => by
    have hb := u8lt b
    have hx : (b ^^^ x).toNat = b.toNat ^^^ x.toNat := UInt8.toNat_xor b x
    have hlt := u8lt (b ^^^ x)
    simp only [List.getElem_cons_zero, List.set_cons_zero, numL, Nat.mul_zero, Nat.pow_zero, Nat.one_mul]
    rw [add_xor 8 (numL l) (b ^^^ x).toNat (by omega), add_xor 8 (numL l) b.toNat (by omega), hx, Nat.xor_assoc]
  | b :: l, k + 1, hk, x => by
    have hb := u8lt b
    have ih := numL_setx l k (by simpa using hk) x
    simp only [List.getElem_cons_succ, List.set_cons_succ, numL]
    rw [ih, add_xor 8 (numL l ^^^ (2 ^ (8 * k) * x.toNat)) b.toNat (by omega), add_xor 8 (numL l) b.toNat (by omega), xor_mul]
    have e : 2 ^ 8 * (2 ^ (8 * k) * x.toNat) = 2 ^ (8 * (k + 1)) * x.toNat := by rw [← Nat.mul_assoc, ← Nat.pow_add]; congr 2; omega
    rw [e, Nat.xor_assoc, Nat.xor_assoc, Nat.xor_comm (2 ^ (8 * (k + 1)) * x.toNat)]
theorem x_ne {x : UInt8} (hx : x ≠ 0) : x.toNat ≠ 0 := fun h => hx (UInt8.toNat_inj.1 h)
theorem xor_ne (b x : UInt8) (hx : x ≠ 0) : b ^^^ x ≠ b := by
  intro h
  apply x_ne hx
  have := congrArg UInt8.toNat h
  rw [UInt8.toNat_xor] at this
  have h2 : b.toNat ^^^ (b.toNat ^^^ x.toNat) = b.toNat ^^^ b.toNat := by rw [this]
  rw [← Nat.xor_assoc, Nat.xor_self, Nat.zero_xor] at h2
  exact h2
theorem set_ne {l : List UInt8} {k : Nat} (hk : k < l.length) {y : UInt8} (h : y ≠ l[k]) : l.set k y ≠ l := by
  intro e
  have h1 : (l.set k y)[k]? = some y := List.getElem?_set_self hk
  rw [e, List.getElem?_eq_getElem hk] at h1
  exact h (Option.some.inj h1).symm
/-- One byte of a cartridge's bytes is turned. -/
theorem turn_dec {c : Ct} (h : may c = true) (k : Nat) (hk : k < (encB c).length) (x : UInt8) (hx : x ≠ 0) : decB ((encB c).set k ((encB c)[k] ^^^ x)) = (70, ct0) ∨ decB ((encB c).set k ((encB c)[k] ^^^ x)) = (71, ct0) := by
  obtain ⟨z1, z2⟩ := enc_size h
  have h5 := enc_five c
  have hbo := enc_body c
  have hso := enc_sum h
  have hle := enc_len c
  unfold body at hbo
  simp only [sumOk, decide_eq_true_eq] at hso
  obtain ⟨_, _, hso⟩ := hso
  have hy : (encB c)[k] ^^^ x ≠ (encB c)[k] := xor_ne _ x hx
  generalize hB : encB c = b at *
  have hln : (b.set k (b[k] ^^^ x)).length = b.length := by simp
  by_cases k5 : k < 5
  · left
    unfold decB
    rw [if_pos]
    rw [List.take_set, ← h5]
    intro e
    have hk5 : k < (b.take 5).length := by simp; omega
    exact set_ne hk5 (by rw [List.getElem_take]; exact hy) e
  · right
    unfold decB
    rw [if_neg (by rw [List.take_set_of_le (by omega), h5]; simp), if_pos]
    simp only [sumOk, decide_eq_false_iff_not, hln]
    rintro ⟨_, _, hs⟩
    by_cases kn : k < b.length - 4
    · have e1 : (b.set k (b[k] ^^^ x)).drop (b.length - 4) = b.drop (b.length - 4) := by rw [List.drop_set_of_lt kn]
      have e2 : (b.set k (b[k] ^^^ x)).take (b.length - 4) = (b.take (b.length - 4)).set k (b[k] ^^^ x) := by rw [List.take_set]
      rw [e1, e2, hso] at hs
      have hkt : k < (b.take (b.length - 4)).length := by simp; omega
      have hg : (b.take (b.length - 4))[k] = b[k] := List.getElem_take
      have hnx := numL_setx (b.take (b.length - 4)) k hkt x
      rw [hg] at hnx
      have := (crc_turned (b.take (b.length - 4)) ((b.take (b.length - 4)).set k (b[k] ^^^ x)) (by simp) (8 * k) x.toNat (by have := u8lt x; omega) (by omega) hnx).2 (x_ne hx)
      exact this hs
    · have e1 : (b.set k (b[k] ^^^ x)).take (b.length - 4) = b.take (b.length - 4) := List.take_set_of_le (by omega)
      rw [e1, ← hso] at hs
      have hl4 : (b.drop (b.length - 4)).length = 4 := by simp; omega
      have hl4' : ((b.set k (b[k] ^^^ x)).drop (b.length - 4)).length = 4 := by simp; omega
      have q1 := low_numL (b.drop (b.length - 4))
      have q2 := low_numL ((b.set k (b[k] ^^^ x)).drop (b.length - 4))
      rw [hl4] at q1
      rw [hl4', hs, q1] at q2
      have q3 : b = b.set k (b[k] ^^^ x) := by
        rw [← List.take_append_drop (b.length - 4) (b.set k (b[k] ^^^ x)), e1, ← q2, List.take_append_drop]
      exact set_ne hk hy q3.symm
/-- A beginning that is too short for a sum. -/
theorem cut_short {l : List UInt8} {n : Nat} (hn : n < 12) : (decB (l.take n)).1 = 70 ∨ (decB (l.take n)).1 = 71 := by
  unfold decB
  by_cases h5 : (l.take n).take 5 = magic
  · right
    rw [if_neg (by simpa using h5), if_pos]
    simp [sumOk]; omega
  · left
    rw [if_pos h5]
theorem cut_long {l : List UInt8} {n : Nat} (hn : 12 ≤ n) (hl : n < l.length) (hm : l.length ≤ 524288) (h5 : l.take 5 = magic) : ((decB (l.take n)).1 = 71 ↔ ¬ numL ((l.drop (n - 4)).take 4) = crc (l.take (n - 4))) := by
  have t5 : (l.take n).take 5 = magic := by rw [List.take_take, Nat.min_eq_left (by omega)]; exact h5
  have hlen : (l.take n).length = n := by simp; omega
  have ed : (l.take n).drop (n - 4) = (l.drop (n - 4)).take 4 := by rw [List.drop_take, show n - (n - 4) = 4 by omega]
  have et : (l.take n).take (n - 4) = l.take (n - 4) := by rw [List.take_take, Nat.min_eq_left (by omega)]
  have hs : sumOk (l.take n) = decide (numL ((l.drop (n - 4)).take 4) = crc (l.take (n - 4))) := by
    simp only [sumOk, hlen, ed, et]
    have a1 : 12 ≤ n := hn
    have a2 : n ≤ 524288 := by omega
    simp [a1, a2]
  unfold decB
  rw [if_neg (by simpa using t5), hs]
  by_cases hq : numL ((l.drop (n - 4)).take 4) = crc (l.take (n - 4))
  · rw [if_neg (by simp [hq])]
    simp only [hq, not_true_eq_false, iff_false]
    split
    · simp
    · split <;> simp
  · rw [if_pos (by simp [hq])]
    simp [hq]
theorem place1 (a : Int) (L : Nat) (h0 : 0 < L) (hL : L ≤ 140737488355328) : ∃ N : Nat, N < L ∧ (wrap64 (a.tmod (L : Int) + (L : Int))).tmod (L : Int) = (N : Int) := by
  have h1 := Int.tmod_lt_of_pos a (b := (L : Int)) (by omega)
  have h2 : -((L : Int)) < a.tmod (L : Int) := by
    have := Int.lt_tmod_of_pos a (b := (L : Int)) (by omega)
    exact this
  generalize a.tmod (L : Int) = r at *
  have h3 : wrap64 (r + (L : Int)) = r + (L : Int) := by unfold wrap64; omega
  rw [h3, Int.tmod_eq_emod_of_nonneg (by omega)]
  have h4 := Int.emod_nonneg (r + (L : Int)) (b := (L : Int)) (by omega)
  have h5 := Int.emod_lt_of_pos (r + (L : Int)) (b := (L : Int)) (by omega)
  exact ⟨((r + (L : Int)) % (L : Int)).toNat, by omega, by omega⟩
end Go.Proofs.YtmlpijjjkpnioaaDoor.C
