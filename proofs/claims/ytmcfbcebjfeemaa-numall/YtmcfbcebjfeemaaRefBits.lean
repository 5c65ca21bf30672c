import Derived.Test.YtmcfbcebjfeemaaRef
namespace Go.Proofs.Ytmcfbcebjfeemaa
open Go.RowKit

theorem zb_36t (a b : Int) (h : a + b = 2) : zb 36 a b = true := by simp [zb, h]
theorem zb_36f (a b : Int) (h : a + b ≠ 2) : zb 36 a b = false := by simp [zb, h]
theorem zb_37t (a b : Int) (h : 0 < a + b) : zb 37 a b = true := by simp [zb, h]
theorem zb_37f (a b : Int) (h : ¬ 0 < a + b) : zb 37 a b = false := by simp [zb, h]
theorem zb_38t (a b : Int) (h : a + b = 1) : zb 38 a b = true := by simp [zb, h]
theorem zb_38f (a b : Int) (h : a + b ≠ 1) : zb 38 a b = false := by simp [zb, h]
set_option maxHeartbeats 1000000 in
theorem bits_36 (x y : Int) (hx : C x) (hy : C y) (w : World) :
    Calls Try.prog 26 #[.int .i64 36, .int .u16 x, .int .u16 y] w fun e w' => e = .returned (.int .u16 (bi 36 x y)) ∧ w' = w := by
  have HX : Hid (C x) := hx
  have HY : Hid (C y) := hy
  have HF : Hid (cl ((zz 36 x.toNat y.toNat % 2 ^ 16 : Nat) : Int) = bi 36 x y) := zz_bi 36 (by decide) x y hx hy
  have HR : Hid (∀ (V : Int) (k : Nat), V = 2 ^ k → ((zz 36 x.toNat y.toNat % 2 ^ (k + 1) : Nat) : Int) = ((zz 36 x.toNat y.toNat % 2 ^ k : Nat) : Int) + (if zb 36 (x / V % 2) (y / V % 2) = true then V else 0)) := fun V k h => zz_round 36 (by decide) x y V k hx hy h
  generalize zz 36 x.toNat y.toNat = Z at *
  unfold C at hx hy
  go_enter Try.func26, Try.ntmps26
  go_wp2
  go_loop [7, 8, 9] (fun o i v => ∃ (k : Nat) (V O : Int), k ≤ 16 ∧ i = .int .i64 k ∧ v = .int .i64 V ∧ o = .int .i64 O ∧ Hid (V = 2 ^ k) ∧ Hid (O = ((Z % 2 ^ k : Nat) : Int))) (fun _ i _ => 16 - (intOf i).toNat)
  case atStart => exact ⟨0, 1, 0, by omega, rfl, rfl, rfl, rfl, by show _ = _; simp [Nat.mod_one]⟩
  case round =>
    obtain ⟨k, V, O, hk, rfl, rfl, rfl, hV, hO⟩ := hrel
    by_cases hlt : k < 16
    · have hb : 1 ≤ V ∧ V ≤ 32768 := by rw [hV.out]; exact pow_le k (by omega)
      have hO2 : 0 ≤ O ∧ O ≤ 65536 := by
        rw [hO.out]
        have h1 : Z % 2 ^ k < 2 ^ k := Nat.mod_lt _ (Nat.two_pow_pos k)
        have h2 : (2 : Nat) ^ k ≤ 2 ^ 15 := Nat.pow_le_pow_right (by decide) (by omega)
        omega
      have hV2 : Hid (V * 2 = 2 ^ (k + 1)) := by show _ = _; rw [hV.out, Int.pow_succ]
      have hA := ediv_range x V (by omega) (by omega) (by omega)
      have hB := ediv_range y V (by omega) (by omega) (by omega)
      have hS := HR.out V k hV.out
      rw [← hO.out] at hS
      have HS : Hid (((Z % 2 ^ (k + 1) : Nat) : Int) = O + (if zb 36 (x / V % 2) (y / V % 2) = true then V else 0)) := hS
      clear hS
      by_cases hp : x / V % 2 < 1
      all_goals by_cases hq : y / V % 2 < 1
      · have hz : Hid (zb 36 (x / V % 2) (y / V % 2) = false) := by show _ = _; exact zb_36f _ _ (by omega)
        go_wp2
        go_round
        case rel => exact ⟨k + 1, V * 2, _, by omega, by go_num, rfl, rfl, hV2, by show _ = _; rw [HS.out, hz.out]; simp⟩
        case measure => simp [intOf]; omega
      · have hz : Hid (zb 36 (x / V % 2) (y / V % 2) = false) := by show _ = _; exact zb_36f _ _ (by omega)
        go_wp2
        go_round
        case rel => exact ⟨k + 1, V * 2, _, by omega, by go_num, rfl, rfl, hV2, by show _ = _; rw [HS.out, hz.out]; simp⟩
        case measure => simp [intOf]; omega
      · have hz : Hid (zb 36 (x / V % 2) (y / V % 2) = false) := by show _ = _; exact zb_36f _ _ (by omega)
        go_wp2
        go_round
        case rel => exact ⟨k + 1, V * 2, _, by omega, by go_num, rfl, rfl, hV2, by show _ = _; rw [HS.out, hz.out]; simp⟩
        case measure => simp [intOf]; omega
      · have hz : Hid (zb 36 (x / V % 2) (y / V % 2) = true) := by show _ = _; exact zb_36t _ _ (by omega)
        go_wp2
        go_round
        case rel => exact ⟨k + 1, V * 2, _, by omega, by go_num, rfl, rfl, hV2, by show _ = _; rw [HS.out, hz.out]; simp⟩
        case measure => simp [intOf]; omega
    · have e : k = 16 := by omega
      subst e
      go_wp2_with (first | (go_at_call 16; refine (rcell_any _ _).mono ?_; rintro e w' ⟨rfl, rfl⟩))
      go_ret
      exact ⟨ret_int (by rw [hO.out]; exact HF.out), rfl⟩
set_option maxHeartbeats 1000000 in
theorem bits_37 (x y : Int) (hx : C x) (hy : C y) (w : World) :
    Calls Try.prog 26 #[.int .i64 37, .int .u16 x, .int .u16 y] w fun e w' => e = .returned (.int .u16 (bi 37 x y)) ∧ w' = w := by
  have HX : Hid (C x) := hx
  have HY : Hid (C y) := hy
  have HF : Hid (cl ((zz 37 x.toNat y.toNat % 2 ^ 16 : Nat) : Int) = bi 37 x y) := zz_bi 37 (by decide) x y hx hy
  have HR : Hid (∀ (V : Int) (k : Nat), V = 2 ^ k → ((zz 37 x.toNat y.toNat % 2 ^ (k + 1) : Nat) : Int) = ((zz 37 x.toNat y.toNat % 2 ^ k : Nat) : Int) + (if zb 37 (x / V % 2) (y / V % 2) = true then V else 0)) := fun V k h => zz_round 37 (by decide) x y V k hx hy h
  generalize zz 37 x.toNat y.toNat = Z at *
  unfold C at hx hy
  go_enter Try.func26, Try.ntmps26
  go_wp2
  go_loop [7, 8, 9] (fun o i v => ∃ (k : Nat) (V O : Int), k ≤ 16 ∧ i = .int .i64 k ∧ v = .int .i64 V ∧ o = .int .i64 O ∧ Hid (V = 2 ^ k) ∧ Hid (O = ((Z % 2 ^ k : Nat) : Int))) (fun _ i _ => 16 - (intOf i).toNat)
  case atStart => exact ⟨0, 1, 0, by omega, rfl, rfl, rfl, rfl, by show _ = _; simp [Nat.mod_one]⟩
  case round =>
    obtain ⟨k, V, O, hk, rfl, rfl, rfl, hV, hO⟩ := hrel
    by_cases hlt : k < 16
    · have hb : 1 ≤ V ∧ V ≤ 32768 := by rw [hV.out]; exact pow_le k (by omega)
      have hO2 : 0 ≤ O ∧ O ≤ 65536 := by
        rw [hO.out]
        have h1 : Z % 2 ^ k < 2 ^ k := Nat.mod_lt _ (Nat.two_pow_pos k)
        have h2 : (2 : Nat) ^ k ≤ 2 ^ 15 := Nat.pow_le_pow_right (by decide) (by omega)
        omega
      have hV2 : Hid (V * 2 = 2 ^ (k + 1)) := by show _ = _; rw [hV.out, Int.pow_succ]
      have hA := ediv_range x V (by omega) (by omega) (by omega)
      have hB := ediv_range y V (by omega) (by omega) (by omega)
      have hS := HR.out V k hV.out
      rw [← hO.out] at hS
      have HS : Hid (((Z % 2 ^ (k + 1) : Nat) : Int) = O + (if zb 37 (x / V % 2) (y / V % 2) = true then V else 0)) := hS
      clear hS
      by_cases hp : x / V % 2 < 1
      all_goals by_cases hq : y / V % 2 < 1
      · have hz : Hid (zb 37 (x / V % 2) (y / V % 2) = false) := by show _ = _; exact zb_37f _ _ (by omega)
        go_wp2
        go_round
        case rel => exact ⟨k + 1, V * 2, _, by omega, by go_num, rfl, rfl, hV2, by show _ = _; rw [HS.out, hz.out]; simp⟩
        case measure => simp [intOf]; omega
      · have hz : Hid (zb 37 (x / V % 2) (y / V % 2) = true) := by show _ = _; exact zb_37t _ _ (by omega)
        go_wp2
        go_round
        case rel => exact ⟨k + 1, V * 2, _, by omega, by go_num, rfl, rfl, hV2, by show _ = _; rw [HS.out, hz.out]; simp⟩
        case measure => simp [intOf]; omega
      · have hz : Hid (zb 37 (x / V % 2) (y / V % 2) = true) := by show _ = _; exact zb_37t _ _ (by omega)
        go_wp2
        go_round
        case rel => exact ⟨k + 1, V * 2, _, by omega, by go_num, rfl, rfl, hV2, by show _ = _; rw [HS.out, hz.out]; simp⟩
        case measure => simp [intOf]; omega
      · have hz : Hid (zb 37 (x / V % 2) (y / V % 2) = true) := by show _ = _; exact zb_37t _ _ (by omega)
        go_wp2
        go_round
        case rel => exact ⟨k + 1, V * 2, _, by omega, by go_num, rfl, rfl, hV2, by show _ = _; rw [HS.out, hz.out]; simp⟩
        case measure => simp [intOf]; omega
    · have e : k = 16 := by omega
      subst e
      go_wp2_with (first | (go_at_call 16; refine (rcell_any _ _).mono ?_; rintro e w' ⟨rfl, rfl⟩))
      go_ret
      exact ⟨ret_int (by rw [hO.out]; exact HF.out), rfl⟩
set_option maxHeartbeats 1000000 in
theorem bits_38 (x y : Int) (hx : C x) (hy : C y) (w : World) :
    Calls Try.prog 26 #[.int .i64 38, .int .u16 x, .int .u16 y] w fun e w' => e = .returned (.int .u16 (bi 38 x y)) ∧ w' = w := by
  have HX : Hid (C x) := hx
  have HY : Hid (C y) := hy
  have HF : Hid (cl ((zz 38 x.toNat y.toNat % 2 ^ 16 : Nat) : Int) = bi 38 x y) := zz_bi 38 (by decide) x y hx hy
  have HR : Hid (∀ (V : Int) (k : Nat), V = 2 ^ k → ((zz 38 x.toNat y.toNat % 2 ^ (k + 1) : Nat) : Int) = ((zz 38 x.toNat y.toNat % 2 ^ k : Nat) : Int) + (if zb 38 (x / V % 2) (y / V % 2) = true then V else 0)) := fun V k h => zz_round 38 (by decide) x y V k hx hy h
  generalize zz 38 x.toNat y.toNat = Z at *
  unfold C at hx hy
  go_enter Try.func26, Try.ntmps26
  go_wp2
  go_loop [7, 8, 9] (fun o i v => ∃ (k : Nat) (V O : Int), k ≤ 16 ∧ i = .int .i64 k ∧ v = .int .i64 V ∧ o = .int .i64 O ∧ Hid (V = 2 ^ k) ∧ Hid (O = ((Z % 2 ^ k : Nat) : Int))) (fun _ i _ => 16 - (intOf i).toNat)
  case atStart => exact ⟨0, 1, 0, by omega, rfl, rfl, rfl, rfl, by show _ = _; simp [Nat.mod_one]⟩
  case round =>
    obtain ⟨k, V, O, hk, rfl, rfl, rfl, hV, hO⟩ := hrel
    by_cases hlt : k < 16
    · have hb : 1 ≤ V ∧ V ≤ 32768 := by rw [hV.out]; exact pow_le k (by omega)
      have hO2 : 0 ≤ O ∧ O ≤ 65536 := by
        rw [hO.out]
        have h1 : Z % 2 ^ k < 2 ^ k := Nat.mod_lt _ (Nat.two_pow_pos k)
        have h2 : (2 : Nat) ^ k ≤ 2 ^ 15 := Nat.pow_le_pow_right (by decide) (by omega)
        omega
      have hV2 : Hid (V * 2 = 2 ^ (k + 1)) := by show _ = _; rw [hV.out, Int.pow_succ]
      have hA := ediv_range x V (by omega) (by omega) (by omega)
      have hB := ediv_range y V (by omega) (by omega) (by omega)
      have hS := HR.out V k hV.out
      rw [← hO.out] at hS
      have HS : Hid (((Z % 2 ^ (k + 1) : Nat) : Int) = O + (if zb 38 (x / V % 2) (y / V % 2) = true then V else 0)) := hS
      clear hS
      by_cases hp : x / V % 2 < 1
      all_goals by_cases hq : y / V % 2 < 1
      · have hz : Hid (zb 38 (x / V % 2) (y / V % 2) = false) := by show _ = _; exact zb_38f _ _ (by omega)
        go_wp2
        go_round
        case rel => exact ⟨k + 1, V * 2, _, by omega, by go_num, rfl, rfl, hV2, by show _ = _; rw [HS.out, hz.out]; simp⟩
        case measure => simp [intOf]; omega
      · have hz : Hid (zb 38 (x / V % 2) (y / V % 2) = true) := by show _ = _; exact zb_38t _ _ (by omega)
        go_wp2
        go_round
        case rel => exact ⟨k + 1, V * 2, _, by omega, by go_num, rfl, rfl, hV2, by show _ = _; rw [HS.out, hz.out]; simp⟩
        case measure => simp [intOf]; omega
      · have hz : Hid (zb 38 (x / V % 2) (y / V % 2) = true) := by show _ = _; exact zb_38t _ _ (by omega)
        go_wp2
        go_round
        case rel => exact ⟨k + 1, V * 2, _, by omega, by go_num, rfl, rfl, hV2, by show _ = _; rw [HS.out, hz.out]; simp⟩
        case measure => simp [intOf]; omega
      · have hz : Hid (zb 38 (x / V % 2) (y / V % 2) = false) := by show _ = _; exact zb_38f _ _ (by omega)
        go_wp2
        go_round
        case rel => exact ⟨k + 1, V * 2, _, by omega, by go_num, rfl, rfl, hV2, by show _ = _; rw [HS.out, hz.out]; simp⟩
        case measure => simp [intOf]; omega
    · have e : k = 16 := by omega
      subst e
      go_wp2_with (first | (go_at_call 16; refine (rcell_any _ _).mono ?_; rintro e w' ⟨rfl, rfl⟩))
      go_ret
      exact ⟨ret_int (by rw [hO.out]; exact HF.out), rfl⟩
end Go.Proofs.Ytmcfbcebjfeemaa
