import Derived.Test.YtcmaccefjlgbfaaOps
/-! New. -/
namespace Go.Proofs.Ytcmaccefjlgbfaa
open Go.RowKit
open Go.Proofs
set_option linter.unusedVariables false
set_option linter.unusedSimpArgs false
/-- A memory as New makes it, with no bank. -/
def m0 : MS := { ram := List.replicate 16384 0, scr := List.replicate 3072 0, ch := 0, pad := 0, pitch := 0, vol := 0, time := 0, cyc := 0, tones := [], banks := fun _ => none }
theorem m0_wf : Wf m0 := ⟨by simp only [m0, List.length_replicate], by simp only [m0, List.length_replicate], by decide, by decide, by decide, by decide, by decide, by decide, by decide, by decide, by decide, by decide, by intro n l h; cases h⟩
theorem nbq {i k : Nat} (h : i ≠ k) : Nat.beq i k = false := by rw [Bool.eq_false_iff]; intro c; exact h (Nat.eq_of_beq_eq_true c)
theorem fm_regs : ∀ j, j < 7 → some (fm (19457 + j)) = (regs m0 (.slice none 0 0))[j]?
  | 0, _ => by kernel_rfl
  | 1, _ => by kernel_rfl
  | 2, _ => by kernel_rfl
  | 3, _ => by kernel_rfl
  | 4, _ => by kernel_rfl
  | 5, _ => by kernel_rfl
  | 6, _ => by kernel_rfl
  | n + 7, h => by omega
theorem zero_cells (mb : Nat) : zero86.set 0 (.map (some mb)) = mcells mb m0 (.slice none 0 0) := by
  apply List.ext_getElem?
  intro i
  by_cases h0 : i = 0
  · subst h0
    rw [List.getElem?_set_self (by rw [zero86_len]; omega)]
    exact (mcells_0 mb m0 _).symm
  rw [List.getElem?_set_ne (by omega)]
  by_cases h1 : i < 19464
  · rw [zero86_get i h1]
    by_cases h2 : i < 16385
    · have e := mcells_ram mb m0 (.slice none 0 0) m0_wf (i - 1) 0 (by simp only [m0]; rw [List.getElem?_replicate, if_pos (by omega)])
      rw [show 1 + (i - 1) = i by omega] at e
      rw [e]
      have b1 : Nat.beq i 0 = false := nbq (by omega)
      have b2 : Nat.ble 19463 i = false := by rw [Bool.eq_false_iff]; intro c; have := Nat.le_of_ble_eq_true c; omega
      have b3 : Nat.beq i 19462 = false := nbq (by omega)
      have b4 : Nat.beq i 19461 = false := nbq (by omega)
      have b5 : Nat.beq i 19459 = false := nbq (by omega)
      simp only [fm, b1, b2, b3, b4, b5, cond_false]
      rfl
    by_cases h3 : i < 19457
    · have e := mcells_scr mb m0 (.slice none 0 0) m0_wf (i - 16385) 0 (by simp only [m0]; rw [List.getElem?_replicate, if_pos (by omega)])
      rw [show 16385 + (i - 16385) = i by omega] at e
      rw [e]
      have b1 : Nat.beq i 0 = false := nbq (by omega)
      have b2 : Nat.ble 19463 i = false := by rw [Bool.eq_false_iff]; intro c; have := Nat.le_of_ble_eq_true c; omega
      have b3 : Nat.beq i 19462 = false := nbq (by omega)
      have b4 : Nat.beq i 19461 = false := nbq (by omega)
      have b5 : Nat.beq i 19459 = false := nbq (by omega)
      simp only [fm, b1, b2, b3, b4, b5, cond_false]
      rfl
    · have e := mcells_reg mb m0 (.slice none 0 0) m0_wf (i - 19457)
      rw [show 19457 + (i - 19457) = i by omega] at e
      rw [e, ← fm_regs _ (by omega), show 19457 + (i - 19457) = i by omega]
  · rw [List.getElem?_eq_none (by rw [zero86_len]; omega), List.getElem?_eq_none (by rw [mcells_len mb m0 _ m0_wf]; omega)]
theorem build86 (W : World) (mb : Nat) : (Instr.build 86 #[(0, .map (some mb))]).run Try.prog W = .ok (.agg (mcells mb m0 (.slice none 0 0)).toArray) W := by
  have hl : zero86.length = 19464 := zero86_len
  have e : Instr.fill ([(0, 1), (1, 16384), (16385, 3072), (19457, 1), (19458, 1), (19459, 1), (19460, 1), (19461, 1), (19462, 1), (19463, 1)][·]?) zero86.toArray [(0, .map (some mb))] = some (mcells mb m0 (.slice none 0 0)).toArray := by
    rw [← zero_cells]
    simp [Instr.fill, Value.cells, hl]
  simp [Instr.build, zeroValue86, Value.cells, run_underlying Try.underlying86, Try.sizeOf82, Try.sizeOf83, Try.sizeOf84, Try.sizeOf5, Try.sizeOf23, Try.sizeOf3, Try.sizeOf52, e]
end Go.Proofs.Ytcmaccefjlgbfaa
