import Derived.Test.YtokhlcioekbjdaaTRowKit
namespace Go.Proofs.Ytokhlcioekbjdaa.T
open Go.RowKit
set_option linter.unusedVariables false

theorem info3 : (Try.prog.info? 3).map (fun i => (i.zero, i.size, i.bytes)) = some (some (.int .i64 0), 1, 8) := by kernel_rfl
theorem info27 : (Try.prog.info? 24).map (fun i => (i.zero, i.size, i.bytes)) = some (some (.agg #[.int .i64 0, .int .i64 0]), 2, 16) := by kernel_rfl
theorem make_ints (n : Nat) (hn : n ≤ 1000000) (w : World) : (Instr.makeSlice 48 (.int .i64 (n : Int)) (.int .i64 (n : Int))).run Try.prog w = .ok (.slice (some ⟨w.heap.size, 0, none⟩) n n) (w.alloc (.cells (irow (fun _ => 0) n) 3)) := by
  obtain ⟨i0, hi, hz0, hz1, hz2⟩ := info_parts info3
  have := run_make (P := Try.prog) w 48 3 i0 (.int .i64 0) Try.underlying48 hi hz0 .i64 .i64 n n (by omega) (by omega) (by rw [hz2]; omega) (by omega)
  rw [this, hz1]; simp [made_int]
theorem make_poss (n : Nat) (hn : n ≤ 1000000) (w : World) : (Instr.makeSlice 51 (.int .i64 (n : Int)) (.int .i64 (n : Int))).run Try.prog w = .ok (.slice (some ⟨w.heap.size, 0, none⟩) n n) (w.alloc (.cells (irow (fun _ => 0) (n * 2)) 24)) := by
  obtain ⟨i0, hi, hz0, hz1, hz2⟩ := info_parts info27
  have := run_make (P := Try.prog) w 51 24 i0 _ Try.underlying51 hi hz0 .i64 .i64 n n (by omega) (by omega) (by rw [hz2]; omega) (by omega)
  rw [this, hz1]; simp [made_pos]

theorem clampI_if (o : Int) (n : Nat) : (if 0 < if (n : Int) < o then (n : Int) else o then if (n : Int) < o then (n : Int) else o else 0) = clampI o n := by
  unfold clampI; split <;> split <;> omega
theorem add_block (x : Addr) (k : Nat) : (x.add k).block = x.block := by unfold Addr.add; split <;> rfl

set_option maxHeartbeats 1000000 in
set_option maxRecDepth 100000 in
theorem within_any (p : Option Addr) (n c : Nat) (f : Nat → Int) (len : Nat) (hn : n ≤ 1000000) (hl : len ≤ maxLen) (w : World)
    (hc : n = 0 ∨ ∃ x, p = some x ∧ x.block < w.heap.size ∧ ∀ j, j < n → w.cell? (x.add j) = some (.int .i64 (f j))) :
    Calls Try.prog 33 #[.slice p n c, .int .i64 len] w fun e w' => e = .returned (.slice (some ⟨w.heap.size, 0, none⟩) n n) ∧ Below w.heap.size w w' ∧ IRow w' w.heap.size 3 (fun j => clampI (f j) len) n := by
  have hm := fun W => make_ints n hn W
  unfold maxLen at hl
  go_enter Try.func33, Try.ntmps33
  go_wp2
  go_loopw [13] (fun i wr => ∃ k : Nat, k ≤ n ∧ i = .int .i64 k ∧ Below w.heap.size w wr ∧ IRow wr w.heap.size 3 (fun j => if j < k then clampI (f j) len else 0) n) (fun i _ => n - (intOf i).toNat)
  case atStart => exact ⟨0, Nat.zero_le _, rfl, (Below.refl _ _).alloc (Nat.le_refl _) _, (IRow.made w 3 _ n).congr (fun j _ => by simp)⟩
  case round =>
    obtain ⟨k, hk, rfl, hb, hr⟩ := hrel
    by_cases hlt : k < n
    · rcases hc with h0 | ⟨x, rfl, hx, hcx⟩
      · omega
      · have hcell : wr.cell? (x.add k) = some (.int .i64 (f k)) := by rw [hb.cell (p := x.add k) (by rw [add_block]; exact hx)]; exact hcx k hlt
        have hfz := hr.frozen k
        have hold := hr.cell k hlt
        have hst := hr.store k (clampI (f k) len)
        have hb2 := hb.setCell (p := ⟨w.heap.size, k, none⟩) (Nat.le_refl _) (.int .i64 (clampI (f k) len))
        clear hm
        go_wp2
        go_roundw
        case rel =>
          refine ⟨k + 1, by omega, by go_num, ?_, ?_⟩
          · rw [clampI_if]; exact hb2
          · rw [clampI_if]
            refine hst.congr fun j _ => ?_
            unfold upd
            by_cases e : j = k
            · subst e; simp
            · by_cases e2 : j < k
              · have : j < k + 1 := by omega
                simp [e, e2, this]
              · have : ¬ j < k + 1 := by omega
                simp [e, e2, this]
        case measure => simp [intOf]; omega
    · clear hm
      go_wp2
      go_ret
      exact ⟨rfl, hb, hr.congr fun j hj => by rw [if_pos (by omega)]⟩
end Go.Proofs.Ytokhlcioekbjdaa.T
