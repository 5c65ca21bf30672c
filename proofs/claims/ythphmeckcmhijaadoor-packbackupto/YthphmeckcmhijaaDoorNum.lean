import Derived.Test.YthphmeckcmhijaaDoorReader
/-! A number's form, taken up. -/
namespace Go.Proofs.YthphmeckcmhijaaDoor
open Go.RowKit
set_option linter.unusedVariables false

/-- The number, the form's size, the error. -/
def nmA : Nat → Nat → Nat → List UInt8 → Nat × Nat × Nat
  | 0, _, _, _ => (0, 0, 31)
  | _ + 1, _, _, [] => (0, 0, 30)
  | f + 1, i, s, b :: r =>
    if b.toNat < 128 then
      if (b.toNat = 0 ∧ 0 < i) ∨ 4294967295 < s + 2 ^ (7 * i) * (b.toNat % 128) then (0, 0, 31) else (s + 2 ^ (7 * i) * (b.toNat % 128), i + 1, 0)
    else nmA f (i + 1) (s + 2 ^ (7 * i) * (b.toNat % 128)) r
def nm (l : List UInt8) : Nat × Nat × Nat := nmA 5 0 0 l

theorem nmA_size (f : Nat) : ∀ (i s : Nat) (l : List UInt8), (nmA f i s l).2.1 ≤ i + l.length := by
  induction f with
  | zero => intro i s l; simp [nmA]
  | succ f ih =>
    intro i s l
    cases l with
    | nil => simp [nmA]
    | cons b r =>
      simp only [nmA]
      split
      · split
        · simp
        · simp <;> omega
      · have := ih (i + 1) (s + 2 ^ (7 * i) * (b.toNat % 128)) r
        simp; omega
theorem nm_size (l : List UInt8) : (nm l).2.1 ≤ l.length := by have := nmA_size 5 0 0 l; simpa [nm] using this
theorem nmA_err (f : Nat) : ∀ (i s : Nat) (l : List UInt8), (nmA f i s l).2.2 < 1000 ∧ (nmA f i s l).1 < 4294967296 := by
  induction f with
  | zero => intro i s l; simp [nmA]
  | succ f ih =>
    intro i s l
    cases l with
    | nil => simp [nmA]
    | cons b r =>
      simp only [nmA]
      split
      · split
        · simp
        · simp; omega
      · exact ih _ _ r

theorem shl64 (s b k : Nat) (hk : k ≤ 4) (hb : b < 128) (hs : s < 2 ^ (7 * k)) : IntKind.u64.wrap ((b : Int) * 2 ^ (7 * k)) = ((2 ^ (7 * k) * b : Nat) : Int) ∧ s + 2 ^ (7 * k) * b < 2 ^ (7 * (k + 1)) ∧ s + 2 ^ (7 * k) * b < 34359738368 := by
  have h1 : 2 ^ (7 * k) ≤ 2 ^ 28 := Nat.pow_le_pow_right (by decide) (by omega)
  have h2 : 2 ^ (7 * k) * b ≤ 2 ^ 28 * 127 := Nat.mul_le_mul h1 (by omega)
  have h3 : ((b : Int) * 2 ^ (7 * k)) = ((2 ^ (7 * k) * b : Nat) : Int) := by simp [Int.mul_comm]
  have h4 : 2 ^ (7 * k) * (b + 1) ≤ 2 ^ (7 * k) * 128 := Nat.mul_le_mul_left _ (by omega)
  have h5 : 2 ^ (7 * (k + 1)) = 2 ^ (7 * k) * 128 := by rw [show 7 * (k + 1) = 7 * k + 7 by omega, Nat.pow_add]
  rw [h3, h5]
  refine ⟨by (generalize 2 ^ (7 * k) * b = z at *); simp [IntKind.wrap, IntKind.bits, IntKind.signed]; omega, by rw [Nat.mul_add] at h4; omega, by omega⟩

set_option maxHeartbeats 2000000 in
set_option maxRecDepth 100000 in
theorem number_any (u : Value) (l : List UInt8) (hl : l.length ≤ room) (w : World) (h : Sl w u l) :
    Calls Tryd.prog 41 #[u] w fun r w' => r = .returned (.tuple #[.int .i64 ((nm l).1 : Int), .int .i64 ((nm l).2.1 : Int), .int .i64 ((nm l).2.2 : Int)]) ∧ w' = w := by
  obtain ⟨p, c, rfl, hb⟩ := h.ex
  unfold room at hl
  generalize hN : nm l = N
  unfold nm at hN
  go_enter Tryd.func41, Tryd.ntmps41
  go_wp2
  go_loopw [5, 7] (fun s i wr => ∃ k S : Nat, k ≤ 5 ∧ wr = w ∧ i = .int .i64 (k : Int) ∧ s = .int .u64 (S : Int) ∧ S < 2 ^ (7 * k) ∧ k ≤ l.length ∧ nmA (5 - k) k S (l.drop k) = N) (fun _ i _ => 5 - (intOf i).toNat)
  case atStart => exact ⟨0, 0, by omega, rfl, rfl, rfl, by simp, by omega, by simpa using hN⟩
  case round =>
    clear hN
    obtain ⟨k, S, hk, rfl, rfl, rfl, hS, hkl, hN⟩ := hrel
    by_cases hk5 : k < 5
    · have i1 : (k : Int) < 5 := by omega
      rw [show 5 - k = (5 - (k + 1)) + 1 by omega] at hN
      by_cases hkL : k = l.length
      · rw [hkL, List.drop_length] at hN
        have j1 : ((k : Int) == (l.length : Int)) = true := by simp; omega
        simp only [nmA] at hN
        subst hN
        go_wp2
        go_ret3
        exact ⟨rfl, rfl⟩
      · have j1 : ((k : Int) == (l.length : Int)) = false := by simp; omega
        have hlt : k < l.length := by omega
        obtain ⟨x, rfl, hc⟩ := hb.at k (l[k]) (by simp)
        rw [List.drop_eq_getElem_cons hlt] at hN
        have hbl := u8lt l[k]
        simp only [nmA] at hN
        generalize hbe : l[k].toNat = b at *
        obtain ⟨e1, e2, e3⟩ := shl64 S (b % 128) k (by omega) (by omega) hS
        have i2 : (k : Int) < l.length := by omega
        have e4 : (b : Int) % 128 = ((b % 128 : Nat) : Int) := by omega
        generalize hM : 2 ^ (7 * k) * (b % 128) = M at *
        generalize hb1e : b % 128 = b1 at *
        by_cases hb1 : b < 128
        · have i3 : (b : Int) < 128 := by omega
          rw [if_pos hb1] at hN
          by_cases hbz : b = 0
          · have j2 : ((b : Int) == 0) = true := by simp; omega
            by_cases hk0 : 0 < k
            · have j3 : (0 : Int) < k := by omega
              rw [if_pos (.inl ⟨hbz, hk0⟩)] at hN
              subst hN
              clear hbz
              go_wp2
              go_ret3
              exact ⟨rfl, rfl⟩
            · have j3 : decide ((0 : Int) < (k : Int)) = false := by simp; omega
              have j5 : decide (0 < k) = false := by simp; omega
              obtain rfl : b1 = 0 := by omega
              obtain rfl : M = 0 := by rw [← hM]; simp
              have hk00 : k = 0 := by omega
              obtain rfl : S = 0 := by rw [hk00] at hS; simpa using hS
              rw [if_neg (by omega)] at hN
              subst hN hbz
              clear hk00 hk0 hM hS
              go_wp2
              go_ret3
              exact ⟨by simp, rfl⟩
          · have j2 : ((b : Int) == 0) = false := by simp; omega
            have hne : ¬ (b = 0 ∧ 0 < k) := by omega
            by_cases hsum : 4294967295 < S + M
            · have j4 : (4294967295 : Int) < (S : Int) + (M : Int) := by omega
              rw [if_pos (.inr hsum)] at hN
              subst hN
              go_wp2
              go_ret3
              exact ⟨rfl, rfl⟩
            · have j4 : (S : Int) + (M : Int) ≤ (4294967295 : Int) := by omega
              rw [if_neg (by omega)] at hN
              subst hN
              go_wp2
              go_ret3
              exact ⟨by simp, rfl⟩
        · have i3 : (128 : Int) ≤ (b : Int) := by omega
          rw [if_neg hb1] at hN
          go_wp2
          go_roundw
          case rel => exact ⟨k + 1, S + M, by omega, by trivial, by go_num, by simp, e2, by omega, hN⟩
          case measure => simp [intOf]; omega
    · obtain rfl : k = 5 := by omega
      simp only [nmA, Nat.sub_self] at hN
      subst hN
      go_wp2
      go_ret3
      exact ⟨rfl, rfl⟩
end Go.Proofs.YthphmeckcmhijaaDoor
