import Derived.Test.YtmcfbcebjfeemaaLeaf
import Derived.Test.YtmcfbcebjfeemaaRefMath
namespace Go.Proofs.Ytmcfbcebjfeemaa
open Go.RowKit

set_option maxHeartbeats 400000 in
theorem rsigned_any (x : Int) (hx : C x) (w : World) :
    Calls Try.prog 15 #[.int .u16 x] w fun e w' => e = .returned (.int .i64 (sg x)) ∧ w' = w := by
  obtain ⟨h1, h2⟩ := hx
  by_cases h : x < 32768
  · go_enter Try.func15, Try.ntmps15
    go_wp2
    go_ret
    exact ⟨ret_int (by unfold sg; rw [if_pos h]), rfl⟩
  · go_enter Try.func15, Try.ntmps15
    go_wp2
    go_ret
    exact ⟨ret_int (by unfold sg; rw [if_neg (by omega)]), rfl⟩
theorem wrap_cell {a n : Int} (h : a = cl n) : IntKind.u16.wrap a = cl n := by
  rw [h, IntKind.wrap_u16]; exact cl_id (C_cl n)
set_option maxHeartbeats 400000 in
theorem rcell_any (n : Int) (w : World) :
    Calls Try.prog 16 #[.int .i64 n] w fun e w' => e = .returned (.int .u16 (cl n)) ∧ w' = w := by
  by_cases h : n < 0
  · have hr := tmod_neg_range n h
    by_cases h2 : n.tmod 65536 < 0
    · have hc : Hid (n.tmod 65536 + 65536 = cl n) := cell_n1 n h h2
      go_enter Try.func16, Try.ntmps16
      go_wp2
      go_ret
      exact ⟨ret_int (by first | exact hc.out | exact wrap_cell hc.out), rfl⟩
    · have hc : Hid (n.tmod 65536 = cl n) := cell_n2 n h h2
      go_enter Try.func16, Try.ntmps16
      go_wp2
      go_ret
      exact ⟨ret_int (by first | exact hc.out | exact wrap_cell hc.out), rfl⟩
  · go_enter Try.func16, Try.ntmps16
    go_wp2
    go_ret
    exact ⟨ret_int (by first | rfl | exact wrap_cell rfl), rfl⟩
set_option maxHeartbeats 400000 in
theorem rflag_any (b : Bool) (w : World) :
    Calls Try.prog 18 #[.bool b] w fun e w' => e = .returned (.int .u16 (fl b)) ∧ w' = w := by
  cases b
  · go_enter Try.func18, Try.ntmps18
    go_wp2
    go_ret
    exact ⟨rfl, rfl⟩
  · go_enter Try.func18, Try.ntmps18
    go_wp2
    go_ret
    exact ⟨rfl, rfl⟩
set_option maxHeartbeats 400000 in
theorem half_any (n : Int) (hn : -65536 ≤ n ∧ n ≤ 65536) (w : World) :
    Calls Try.prog 24 #[.int .i64 n] w fun e w' => e = .returned (.int .i64 (n / 2)) ∧ w' = w := by
  by_cases h : n < 0
  · have hq := half_neg n h
    have b1 : n ≤ 2 * n.tdiv 2 := by omega
    have b2 : 2 * n.tdiv 2 ≤ n + 1 := by omega
    by_cases h2 : n < 2 * n.tdiv 2
    · have hc : Hid (n.tdiv 2 - 1 = n / 2) := by show _ = _; omega
      clear hq
      go_enter Try.func24, Try.ntmps24
      go_wp2
      go_ret
      exact ⟨ret_int hc.out, rfl⟩
    · have hc : Hid (n.tdiv 2 = n / 2) := by show _ = _; omega
      clear hq
      go_enter Try.func24, Try.ntmps24
      go_wp2
      go_ret
      exact ⟨ret_int hc.out, rfl⟩
  · go_enter Try.func24, Try.ntmps24
    go_wp2
    go_ret
    exact ⟨rfl, rfl⟩
set_option maxHeartbeats 400000 in
theorem away_any (n : Int) (hn : -65536 ≤ n ∧ n ≤ 65536) (w : World) :
    Calls Try.prog 31 #[.int .i64 n] w fun e w' => e = .returned (.int .i64 (aw n)) ∧ w' = w := by
  by_cases h : n < 0
  · have hc : Hid (-n = aw n) := by show _ = _; unfold aw; rw [if_pos h]
    go_enter Try.func31, Try.ntmps31
    go_wp2
    go_ret
    exact ⟨ret_int hc.out, rfl⟩
  · have hc : Hid (n = aw n) := by show _ = _; unfold aw; rw [if_neg h]
    go_enter Try.func31, Try.ntmps31
    go_wp2
    go_ret
    exact ⟨ret_int hc.out, rfl⟩
set_option maxHeartbeats 400000 in
theorem rquot_any (x y : Int) (hx : -65536 ≤ x ∧ x ≤ 65536) (hy : -65536 ≤ y ∧ y ≤ 65536) (h0 : y ≠ 0) (w : World) :
    Calls Try.prog 30 #[.int .i64 x, .int .i64 y] w fun e w' => e = .returned (.int .i64 (x.tdiv y)) ∧ w' = w := by
  have a1 : 0 ≤ aw x ∧ aw x ≤ 65536 := by unfold aw; split <;> omega
  have a2 : 1 ≤ aw y ∧ aw y ≤ 65536 := by unfold aw; split <;> omega
  have hr := ediv_range (aw x) (aw y) a1.1 a1.2 (by omega)
  by_cases h1 : x < 0
  · by_cases h2 : y < 0
    · have hc : Hid (aw x / aw y = x.tdiv y) := by show _ = _; unfold aw; rw [if_pos h1, if_pos h2]; exact rq_nn x y h1
      go_enter Try.func30, Try.ntmps30
      go_wp2_with (first | (go_at_call 31; refine (away_any _ (by omega) _).mono ?_; rintro e w' ⟨rfl, rfl⟩))
      go_ret
      exact ⟨ret_int hc.out, rfl⟩
    · have hc : Hid (-(aw x / aw y) = x.tdiv y) := by show _ = _; unfold aw; rw [if_pos h1, if_neg h2]; exact rq_np x y h1
      have d2 : decide (y < 0) = false := decide_eq_false h2
      go_enter Try.func30, Try.ntmps30
      go_wp2_with (first | (go_at_call 31; refine (away_any _ (by omega) _).mono ?_; rintro e w' ⟨rfl, rfl⟩))
      go_ret
      exact ⟨ret_int hc.out, rfl⟩
  · by_cases h2 : y < 0
    · have hc : Hid (-(aw x / aw y) = x.tdiv y) := by show _ = _; unfold aw; rw [if_neg h1, if_pos h2]; exact rq_pn x y (by omega)
      have d1 : decide (x < 0) = false := decide_eq_false h1
      go_enter Try.func30, Try.ntmps30
      go_wp2_with (first | (go_at_call 31; refine (away_any _ (by omega) _).mono ?_; rintro e w' ⟨rfl, rfl⟩))
      go_ret
      exact ⟨ret_int hc.out, rfl⟩
    · have hc : Hid (aw x / aw y = x.tdiv y) := by show _ = _; unfold aw; rw [if_neg h1, if_neg h2]; exact rq_pp x y (by omega)
      have d1 : decide (x < 0) = false := decide_eq_false h1
      have d2 : decide (y < 0) = false := decide_eq_false h2
      go_enter Try.func30, Try.ntmps30
      go_wp2_with (first | (go_at_call 31; refine (away_any _ (by omega) _).mono ?_; rintro e w' ⟨rfl, rfl⟩))
      go_ret
      exact ⟨ret_int hc.out, rfl⟩
theorem pow_le (k : Nat) (h : k ≤ 15) : (1 : Int) ≤ 2 ^ k ∧ (2 : Int) ^ k ≤ 32768 := by
  have h1 : (2 : Nat) ^ k ≤ 2 ^ 15 := Nat.pow_le_pow_right (by decide) h
  have h2 : 1 ≤ (2 : Nat) ^ k := Nat.one_le_two_pow
  have e : (2 : Int) ^ k = ((2 ^ k : Nat) : Int) := by simp
  rw [e]; omega
set_option maxHeartbeats 400000 in
theorem power_any (n : Int) (h0 : 0 ≤ n) (h : n ≤ 15) (w : World) :
    Calls Try.prog 27 #[.int .i64 n] w fun e w' => e = .returned (.int .i64 (2 ^ n.toNat)) ∧ w' = w := by
  obtain ⟨N, rfl⟩ := Int.eq_ofNat_of_zero_le h0
  rw [Int.toNat_natCast]
  go_enter Try.func27, Try.ntmps27
  go_wp2
  go_loop [3, 4] (fun p i => ∃ (k : Nat) (P : Int), k ≤ N ∧ i = .int .i64 k ∧ p = .int .i64 P ∧ Hid (P = 2 ^ k)) (fun _ i => N - (intOf i).toNat)
  case atStart => exact ⟨0, 1, Nat.zero_le _, rfl, rfl, rfl⟩
  case round =>
    obtain ⟨k, P, hk, rfl, rfl, hP⟩ := hrel
    by_cases hlt : k < N
    · have hb : 1 ≤ P ∧ P ≤ 32768 := by rw [hP.out]; exact pow_le k (by omega)
      go_wp2
      go_round
      case rel => exact ⟨k + 1, 2 * P, by omega, by go_num, rfl, by show _ = _; rw [hP.out, Int.pow_succ, Int.mul_comm]⟩
      case measure => simp [intOf]; omega
    · have e : k = N := by omega
      subst e
      go_wp2
      go_ret
      exact ⟨ret_int hP.out, rfl⟩
end Go.Proofs.Ytmcfbcebjfeemaa
