import Derived.Test.YtlljelfplffglabDoorKKnownL
/-! The reference's bytes: Low, Number. -/
namespace Go.Proofs.YtlljelfplffglabDoor.K
open Go.RowKit
set_option linter.unusedVariables false

theorem by8_congr {a b : Nat} (h : a % 256 = b % 256) : by8 a = by8 b := by
  apply UInt8.toNat_inj.1; rw [by8_nat, by8_nat, h]
theorem low1_mod {a b : Nat} (h : a % 256 = b % 256) : low 1 a = low 1 b := by simp only [low]; rw [by8_congr h]
theorem low2_mod {a b : Nat} (h : a % 65536 = b % 65536) : low 2 a = low 2 b := by
  rw [low2, low2, by8_congr (a := a) (b := b) (by omega), by8_congr (a := a / 256) (b := b / 256) (by omega)]
theorem low4_mod {a b : Nat} (h : a % 4294967296 = b % 4294967296) : low 4 a = low 4 b := by
  rw [low4, low4, by8_congr (a := a) (b := b) (by omega), by8_congr (a := a / 256) (b := b / 256) (by omega), by8_congr (a := a / 65536) (b := b / 65536) (by omega), by8_congr (a := a / 16777216) (b := b / 16777216) (by omega)]
theorem low_len (k : Nat) : ∀ x, (low k x).length = k := by
  induction k with
  | zero => intro x; rfl
  | succ k ih => intro x; simp [low, ih]
theorem low_split (k : Nat) : ∀ x, low (k + 1) x = low k x ++ [by8 (x / 256 ^ k)] := by
  induction k with
  | zero => intro x; simp [low]
  | succ k ih =>
    intro x
    rw [show low (k + 1 + 1) x = by8 x :: low (k + 1) (x / 256) from rfl, ih (x / 256), show low (k + 1) x = by8 x :: low k (x / 256) from rfl, Nat.div_div_eq_div_mul, Nat.pow_succ, Nat.mul_comm 256]
    simp
/-- One byte more onto a row, from a slice built for it. -/
theorem row1 (W : World) (x : UInt8) : Sl (W.alloc (.cells #[.int .u8 (x.toNat : Int)] 5)) (.slice (some ⟨W.heap.size, 0, none⟩) 1 1) [x] ∧ Below W.heap.size W (W.alloc (.cells #[.int .u8 (x.toNat : Int)] 5)) :=
  ⟨(row_of_alloc W W.heap.size (Nat.le_refl _) [x] (by simp [maxLen])).sl, (Below.refl _ _).alloc (Nat.le_refl _) _⟩

set_option maxHeartbeats 1000000 in
set_option maxRecDepth 100000 in
theorem low_any (X : Nat) (hX : X < 18446744073709551616) (n : Nat) (hn : n ≤ 8) (w : World) :
    Calls Tryd.prog 45 #[.int .u64 (X : Int), .int .i64 (n : Int)] w fun r w' => ∃ u, r = .returned u ∧ Row w' w.heap.size u (low n X) ∧ Below w.heap.size w w' := by
  go_enter Tryd.func45, Tryd.ntmps45
  go_wp2
  go_loopw [0, 5, 6] (fun vx vb i wr => ∃ k : Nat, k ≤ n ∧ vx = .int .u64 ((X / 256 ^ k : Nat) : Int) ∧ i = .int .i64 (k : Int) ∧ Row wr w.heap.size vb (low k X) ∧ Below w.heap.size w wr) (fun _ _ i _ => n - (intOf i).toNat)
  case atStart => exact ⟨0, by omega, by simp, rfl, row_nil _ _, Below.refl _ _⟩
  case round =>
    obtain ⟨k, hk, rfl, rfl, hr, hb⟩ := hrel
    have hz := hb.size
    by_cases hlt : k < n
    · have i1 : (k : Int) < n := by omega
      have hY : X / 256 ^ k ≤ X := Nat.div_le_self _ _
      have hsp := low_split k X
      have hnx : X / 256 ^ (k + 1) = X / 256 ^ k / 256 := by rw [Nat.pow_succ, Nat.div_div_eq_div_mul]
      have hll := low_len k X
      generalize X / 256 ^ k = Y at *
      have hb8 : ((by8 Y).toNat : Int) = (Y : Int) % 256 := by rw [by8_nat]; omega
      obtain ⟨hs1, hb1⟩ := row1 wr (by8 Y)
      rw [hb8] at hs1 hb1
      have hr1 := hr.below hb1
      have hb2 := hb.trans (hb1.mono hz)
      go_wp2_with (first | (at_builtin; refine wpList_append_bytes _ rfl _ _ rfl w.heap.size _ _ rfl hr1 _ [by8 Y] rfl hs1 (by unfold room; simp; omega) hb2.size ?_))
      intro v' w' hr' hg'
      have hb' : Below w.heap.size w w' := hg'.belowAll (fun g e => (hr.lt g e).1) hb2 (Nat.le_refl _)
      rw [← hsp] at hr'
      clear hr hr1 hg' hs1 hb1 hb2 hsp
      go_wp2
      go_roundw
      case rel =>
        first
          | exact ⟨k + 1, by omega, by rw [hnx]; simp, by go_num, hr', hb'⟩
          | ((repeat apply Exists.intro); refine ⟨⟨k + 1, by omega, ?_, ?_, hr', hb'⟩, rfl⟩; · rw [hnx]; simp
             · go_num)
      case measure => simp [intOf]; omega
    · obtain rfl : k = n := by omega
      go_wp2
      go_ret
      exact ⟨_, rfl, hr, hb⟩
end Go.Proofs.YtlljelfplffglabDoor.K
