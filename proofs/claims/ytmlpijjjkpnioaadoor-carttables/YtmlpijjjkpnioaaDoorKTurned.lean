import Derived.Test.YtmlpijjjkpnioaaDoorKKnownL
/-! PackTurned's walk. -/
namespace Go.Proofs.YtmlpijjjkpnioaaDoor.K
open Go.RowKit
set_option linter.unusedVariables false

theorem parts_one (W : World) (v : Value) (l : List UInt8) (hl : l.length ≤ room) (h : Sl W v l) : Parts (W.alloc (.cells #[v] 22)) (some ⟨W.heap.size, 0, none⟩) [l] ∧ Below W.heap.size W (W.alloc (.cells #[v] 22)) := by
  have hb : Below W.heap.size W (W.alloc (.cells #[v] 22)) := (Below.refl _ _).alloc (Nat.le_refl _) _
  refine ⟨fun i m hi => ?_, hb⟩
  match i, hi with
  | 0, hi =>
    simp at hi; subst hi
    obtain ⟨p, c, rfl, hbs⟩ := (h.below hb).ex
    have hc := cell_of_any _ _ 0 _ _ _ (heap_alloc_any W (.cells #[.slice p l.length c] 22))
    exact ⟨_, p, c, rfl, by simp only [Addr.add, if_pos]; exact hc, hbs, by unfold maxLen; unfold room at hl; omega⟩
  | n + 1, hi => simp at hi
theorem pow_xor (n a i : Nat) : 2 ^ n * (a ^^^ 2 ^ i) = (2 ^ n * a) ^^^ 2 ^ (n + i) := by
  have h := Nat.shiftLeft_xor_distrib (a := a) (b := 2 ^ i) (i := n)
  simp only [Nat.shiftLeft_eq] at h
  rw [Nat.mul_comm, h, Nat.mul_comm a, ← Nat.pow_add, Nat.add_comm i n]
theorem ieq {a b : Int} (h : a = b) : (a == b) = true := by simp [h]
theorem ine {a b : Int} (h : a ≠ b) : (a == b) = false := by simp [h]
/-- The pattern behind i bits, where m bits have room. -/
def pat (x i m : Nat) : Nat := x % 2 ^ (min i m)
theorem pat_zero (x m : Nat) : pat x 0 m = 0 := by simp [pat, Nat.mod_one]
theorem pat_full (x i m : Nat) (h : m ≤ i) : pat x (i + 1) m = pat x i m := by unfold pat; rw [Nat.min_eq_right h, Nat.min_eq_right (by omega)]
theorem pat_lt (x i m : Nat) (hi : i ≤ 32) : pat x i m < 2 ^ 32 := by
  unfold pat
  have h1 := Nat.mod_lt x (Nat.two_pow_pos (min i m))
  have h2 : 2 ^ (min i m) ≤ 2 ^ 32 := Nat.pow_le_pow_right (by decide) (by omega)
  omega
theorem pat_no (x i m : Nat) (h : i < m) (hb : x / 2 ^ i % 2 = 0) : pat x (i + 1) m = pat x i m := by
  unfold pat
  rw [Nat.min_eq_left (by omega), Nat.min_eq_left (by omega), Nat.mod_pow_succ, hb]; simp
theorem pat_yes (x i m : Nat) (h : i < m) (hb : x / 2 ^ i % 2 = 1) : pat x (i + 1) m = pat x i m ^^^ 2 ^ i ∧ pat x (i + 1) m ≠ 0 := by
  unfold pat
  rw [Nat.min_eq_left (by omega), Nat.min_eq_left (by omega), Nat.mod_pow_succ, hb]
  have h1 := Nat.mod_lt x (Nat.two_pow_pos i)
  have h2 := add_xor i 1 (x % 2 ^ i) h1
  have h3 := Nat.two_pow_pos i
  refine ⟨?_, by omega⟩
  rw [Nat.mul_one] at h2 ⊢
  rw [Nat.add_comm, h2, Nat.xor_comm]

theorem place (a : Int) (L : Nat) (h0 : 0 < L) (hL : L ≤ 140737488355328) : ∃ N : Nat, N < 8 * L ∧ (wrap64 (a.tmod (8 * (L : Int)) + 8 * (L : Int))).tmod (8 * (L : Int)) = (N : Int) := by
  have h1 := Int.tmod_lt_of_pos a (b := 8 * (L : Int)) (by omega)
  have h2 : -(8 * (L : Int)) < a.tmod (8 * (L : Int)) := by
    have := Int.lt_tmod_of_pos a (b := 8 * (L : Int)) (by omega)
    exact this
  generalize a.tmod (8 * (L : Int)) = r at *
  have h3 : wrap64 (r + 8 * (L : Int)) = r + 8 * (L : Int) := by unfold wrap64; omega
  rw [h3, Int.tmod_eq_emod_of_nonneg (by omega)]
  have h4 := Int.emod_nonneg (r + 8 * (L : Int)) (b := 8 * (L : Int)) (by omega)
  have h5 := Int.emod_lt_of_pos (r + 8 * (L : Int)) (b := 8 * (L : Int)) (by omega)
  exact ⟨((r + 8 * (L : Int)) % (8 * (L : Int))).toNat, by omega, by omega⟩
theorem shr_and (x i : Nat) (hx : x < 4294967296) : bits .and .u32 ((x : Int) / 2 ^ i) 1 = ((x / 2 ^ i % 2 : Nat) : Int) := by
  have h := and32 (x / 2 ^ i) 1 (by have := Nat.div_le_self x (2 ^ i); omega) (by decide)
  simpa using h

theorem pow8 (k : Nat) : 2 ^ (k % 8) < 256 := by
  have : 2 ^ (k % 8) ≤ 2 ^ 7 := Nat.pow_le_pow_right (by decide) (by omega)
  omega
theorem xor8p (b K : Nat) (hb : b < 256) : bits .xor .u8 (b : Int) ((2 : Int) ^ (K % 8) % 256) = ((b ^^^ 2 ^ (K % 8) : Nat) : Int) := by
  have h1 := pow8 K
  have h2 : (2 : Int) ^ (K % 8) = ((2 ^ (K % 8) : Nat) : Int) := by simp
  have h3 := xor8 b (2 ^ (K % 8)) hb h1
  have h4 : ((2 ^ (K % 8) : Nat) : Int) < 256 := Int.ofNat_lt.2 h1
  rw [h2, Int.emod_eq_of_lt (Int.natCast_nonneg _) h4, h3]
theorem row_fz {W : World} {B g n cap : Nat} {l : List UInt8} (h : Row W B (.slice (some ⟨g, 0, none⟩) n cap) l) (j : Nat) : W.frozen? ⟨g, j, none⟩ = false := by
  rcases h.2 with ⟨e, _⟩ | ⟨g', cap', cur, e, _, hg, _⟩
  · cases e
  · simp only [Value.slice.injEq, Option.some.injEq, Addr.mk.injEq] at e
    obtain ⟨⟨rfl, _⟩, _⟩ := e
    exact frozen_of_row W g j _ _ hg
theorem row_store {W : World} {B g n cap : Nat} {l : List UInt8} (h : Row W B (.slice (some ⟨g, 0, none⟩) n cap) l) (j : Nat) (hj : j < l.length) (b : UInt8) : Row (W.setCell ⟨g, j, none⟩ (.int .u8 (b.toNat : Int))) B (.slice (some ⟨g, 0, none⟩) n cap) (l.set j b) := by
  refine ⟨by simp [bv], ?_⟩
  rcases h.2 with ⟨e, _⟩ | ⟨g', cap', cur, e, hB, hg, h1, h2, h3, h4⟩
  · cases e
  · simp only [Value.slice.injEq, Option.some.injEq, Addr.mk.injEq] at e
    obtain ⟨⟨rfl, _⟩, rfl, rfl⟩ := e
    refine .inr ⟨g, cap, cur.setIfInBounds j (.int .u8 (b.toNat : Int)), by simp, hB, heap_setCell_same W g j _ _ _ hg, by simpa using h1, h2, by simpa using h3, ?_⟩
    rw [Array.toList_setIfInBounds, List.length_set, List.take_set, h4]
    simp [bv, List.map_set]

end Go.Proofs.YtmlpijjjkpnioaaDoor.K
