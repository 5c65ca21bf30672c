import Derived.Test.YtgponcjjnjpfkaaGreatMOps
/-! New. -/
namespace Go.Proofs.YtgponcjjnjpfkaaGreat.M
open Go.RowKit
open Go.Proofs
set_option linter.unusedVariables false
set_option linter.unusedSimpArgs false
/-- A memory as New makes it, with no bank. -/
def m0 : MS := { ram := List.replicate 16384 0, scr := List.replicate 3072 0, ch := 0, pad := 0, pitch := 0, vol := 0, time := 0, cyc := 0, tones := [], banks := fun _ => none }
theorem m0_wf : Wf m0 := ⟨by simp only [m0, List.length_replicate], by simp only [m0, List.length_replicate], by decide, by decide, by decide, by decide, by decide, by decide, by decide, by decide, by decide, by decide, by intro n l h; cases h⟩
theorem nbq {i k : Nat} (h : i ≠ k) : Nat.beq i k = false := by rw [Bool.eq_false_iff]; intro c; exact h (Nat.eq_of_beq_eq_true c)
theorem fm_regs : ∀ j, j < 7 → some (fm (19457 + j)) = (regs m0 (.slice none 0 0))[j]?
  | 0, _ => by kernel_rfl
  | 1, _ => by kernel_rfl
  | 2, _ => by kernel_rfl
  | 3, _ => by kernel_rfl
  | 4, _ => by kernel_rfl
  | 5, _ => by kernel_rfl
  | 6, _ => by kernel_rfl
  | n + 7, h => by omega
theorem zero_cells (mb : Nat) : zero86.set 0 (.map (some mb)) = mcells mb m0 (.slice none 0 0) := by
  apply List.ext_getElem?
  intro i
  by_cases h0 : i = 0
  · subst h0
    rw [List.getElem?_set_self (by rw [zero86_len]; omega)]
    exact (mcells_0 mb m0 _).symm
  rw [List.getElem?_set_ne (by omega)]
  by_cases h1 : i < 19464
  · rw [zero86_get i h1]
    by_cases h2 : i < 16385
    · have e := mcells_ram mb m0 (.slice none 0 0) m0_wf (i - 1) 0 (by simp only [m0]; rw [List.getElem?_replicate, if_pos (by omega)])
      rw [show 1 + (i - 1) = i by omega] at e
      rw [e]
      have b1 : Nat.beq i 0 = false := nbq (by omega)
      have b2 : Nat.ble 19463 i = false := by rw [Bool.eq_false_iff]; intro c; have := Nat.le_of_ble_eq_true c; omega
      have b3 : Nat.beq i 19462 = false := nbq (by omega)
      have b4 : Nat.beq i 19461 = false := nbq (by omega)
      have b5 : Nat.beq i 19459 = false := nbq (by omega)
      simp only [fm, b1, b2, b3, b4, b5, cond_false]
      rfl
    by_cases h3 : i < 19457
    · have e := mcells_scr mb m0 (.slice none 0 0) m0_wf (i - 16385) 0 (by simp only [m0]; rw [List.getElem?_replicate, if_pos (by omega)])
      rw [show 16385 + (i - 16385) = i by omega] at e
      rw [e]
      have b1 : Nat.beq i 0 = false := nbq (by omega)
      have b2 : Nat.ble 19463 i = false := by rw [Bool.eq_false_iff]; intro c; have := Nat.le_of_ble_eq_true c; omega
      have b3 : Nat.beq i 19462 = false := nbq (by omega)
      have b4 : Nat.beq i 19461 = false := nbq (by omega)
      have b5 : Nat.beq i 19459 = false := nbq (by omega)
      simp only [fm, b1, b2, b3, b4, b5, cond_false]
      rfl
    · have e := mcells_reg mb m0 (.slice none 0 0) m0_wf (i - 19457)
      rw [show 19457 + (i - 19457) = i by omega] at e
      rw [e, ← fm_regs _ (by omega), show 19457 + (i - 19457) = i by omega]
  · rw [List.getElem?_eq_none (by rw [zero86_len]; omega), List.getElem?_eq_none (by rw [mcells_len mb m0 _ m0_wf]; omega)]
theorem build86 (W : World) (mb : Nat) : (Instr.build 119 #[(0, .map (some mb))]).run Tryz.prog W = .ok (.agg (mcells mb m0 (.slice none 0 0)).toArray) W := by
  have hl : zero86.length = 19464 := zero86_len
  have e : Instr.fill ([(0, 1), (1, 16384), (16385, 3072), (19457, 1), (19458, 1), (19459, 1), (19460, 1), (19461, 1), (19462, 1), (19463, 1)][·]?) zero86.toArray [(0, .map (some mb))] = some (mcells mb m0 (.slice none 0 0)).toArray := by
    rw [← zero_cells]
    simp [Instr.fill, Value.cells, hl]
  simp [Instr.build, zc86 W, Value.cells, run_underlying Tryz.underlying119, Tryz.sizeOf115, Tryz.sizeOf116, Tryz.sizeOf117, Tryz.sizeOf5, Tryz.sizeOf26, Tryz.sizeOf3, Tryz.sizeOf50, e]
end Go.Proofs.YtgponcjjnjpfkaaGreat.M
/-! Which banks may be. -/
namespace Go.Proofs.YtgponcjjnjpfkaaGreat.M
open Go.RowKit
open Go.Proofs
set_option linter.unusedVariables false
set_option linter.unusedSimpArgs false
/-- Banks that a slice tells. -/
def BnS (W : World) (p : Option Addr) (bs : List (Int × List UInt8)) : Prop := ∀ (i : Nat) (t : Int × List UInt8), bs[i]? = some t → ∃ b o dv, p = some ⟨b, o, none⟩ ∧ W.cell? ⟨b, o + i * 2, none⟩ = some (.int .i64 t.1) ∧ W.cell? ⟨b, o + i * 2 + 1, none⟩ = some dv ∧ Sl W dv t.2 ∧ t.2.length ≤ room
theorem BnS.kept {W W' : World} {p : Option Addr} {bs : List (Int × List UInt8)} (h : BnS W p bs) (k : ∀ a u, W.cell? a = some u → W'.cell? a = some u) : BnS W' p bs := by
  intro i t ht
  obtain ⟨b, o, dv, e1, e2, e3, e4, e5⟩ := h i t ht
  exact ⟨b, o, dv, e1, k _ _ e2, k _ _ e3, e4.kept fun a u e _ => k a u e, e5⟩
theorem BnS.below {W W' : World} {p : Option Addr} {bs : List (Int × List UInt8)} (h : BnS W p bs) (b : Below W.heap.size W W') : BnS W' p bs :=
  h.kept fun a u e => by rw [b.cell (World.block_lt_of_cell? W a e)]; exact e
/-- 4.1. -/
def mayB : Int → List (Int × List UInt8) → Bool
  | _, [] => true
  | last, t :: r => if t.1 ≤ last ∨ 16 ≤ t.1 ∨ 16384 < t.2.length then false else mayB t.1 r
theorem mayB_take : ∀ (bs : List (Int × List UInt8)) (k : Nat) (last : Int), (∀ j t, j < k → bs[j]? = some t → (match j with | 0 => last | j + 1 => ((bs.getD j (0, [])).1)) < t.1 ∧ t.1 < 16 ∧ t.2.length ≤ 16384) → k ≤ bs.length → mayB last bs = mayB (match k with | 0 => last | k + 1 => (bs.getD k (0, [])).1) (bs.drop k)
  | [], k, last, h, hk => by simp at hk; subst hk; rfl
  | t :: r, 0, last, h, hk => rfl
  | t :: r, k + 1, last, h, hk => by
    have h0 := h 0 t (by omega) rfl
    simp only at h0
    have e : mayB last (t :: r) = mayB t.1 r := by simp [mayB]; omega
    rw [e, List.drop_succ_cons]
    have := mayB_take r k t.1 (fun j u hj hu => by
      have := h (j + 1) u (by omega) hu
      cases j with
      | zero => simpa using this
      | succ j => simpa using this) (by simpa using hk)
    rw [this]
    cases k with
    | zero => rfl
    | succ k => rfl
/-- The number ahead of the k-th. -/
def ahead (bs : List (Int × List UInt8)) : Nat → Int
  | 0 => -1
  | k + 1 => (bs.getD k (0, [])).1
def Good (bs : List (Int × List UInt8)) (k : Nat) : Prop := ∀ j t, j < k → bs[j]? = some t → ahead bs j < t.1 ∧ t.1 < 16 ∧ t.2.length ≤ 16384
theorem mayB_at (bs : List (Int × List UInt8)) (k : Nat) (h : Good bs k) (hk : k ≤ bs.length) : mayB (-1) bs = mayB (ahead bs k) (bs.drop k) := by
  have := mayB_take bs k (-1) (fun j t hj ht => by have := h j t hj ht; cases j <;> exact this) hk
  rw [this]; cases k <;> rfl
set_option maxHeartbeats 1000000
set_option maxRecDepth 100000
theorem mayBe_any (p : Option Addr) (c : Nat) (bs : List (Int × List UInt8)) (hl : bs.length ≤ room) (w : World) (h : BnS w p bs) :
    Calls Tryz.prog 63 #[.slice p bs.length c] w fun e w' => e = .returned (.bool (mayB (-1) bs)) ∧ Below w.heap.size w w' := by
  unfold room at hl
  go_enter Tryz.func63, Tryz.ntmps63
  go_wp2
  go_loopw [3, 8] (fun a i wr => ∃ k : Nat, k ≤ bs.length ∧ a = .int .i64 (ahead bs k) ∧ i = .int .i64 (k : Int) ∧ Good bs k ∧ Below w.heap.size w wr) (fun _ i _ => bs.length - (intOf i).toNat)
  case atStart => exact ⟨0, by omega, rfl, rfl, fun j t hj => by omega, Below.refl _ _⟩
  case round =>
    obtain ⟨k, hk, rfl, rfl, hG, hB⟩ := hrel
    by_cases hlt : k < bs.length
    · have i1 : (k : Int) < bs.length := by omega
      obtain ⟨b, o, dv, rfl, e1, e2, e3, e4⟩ := h.below hB k bs[k] (List.getElem?_eq_getElem hlt)
      obtain ⟨dp, dc, rfl, _⟩ := e3.ex
      unfold room at e4
      have hd : bs.drop k = bs[k] :: bs.drop (k + 1) := by rw [List.drop_eq_getElem_cons hlt]
      have hM := mayB_at bs k hG hk
      rw [hd] at hM
      have hA : ahead bs (k + 1) = (bs[k]).1 := by simp [ahead, List.getD, List.getElem?_eq_getElem hlt]
      have hG2 : ¬ ((bs[k]).1 ≤ ahead bs k) → ¬ (16 ≤ (bs[k]).1) → ¬ (16384 < (bs[k]).2.length) → Good bs (k + 1) := by
        intro c1 c2 c3 j t hj ht
        by_cases e : j = k
        · subst e; rw [List.getElem?_eq_getElem hlt] at ht; cases ht; exact ⟨by omega, by omega, by omega⟩
        · exact hG j t (by omega) ht
      have hM2 : (bs[k]).1 ≤ ahead bs k ∨ 16 ≤ (bs[k]).1 ∨ 16384 < (bs[k]).2.length → mayB (-1) bs = false := fun c => by rw [hM, mayB, if_pos c]
      have hB2 : Below w.heap.size w (wr.alloc (Obj.cells #[.int .i64 (bs[k]).1, .slice dp (bs[k]).2.length dc] 82)) := hB.alloc hB.size _
      clear hM hd e3 hG hB
      generalize hn : (bs[k]).1 = n at *
      generalize hL : (bs[k]).2.length = L at *
      have HA : Hid _ := hA
      have HG : Hid _ := hG2
      have HB : Hid _ := hB2
      have HM : Hid _ := hM2
      clear hG2 hB2 hM2 hA
      by_cases c1 : n ≤ ahead bs k
      · have f1 := HM.out (.inl c1)
        have d1 : decide (n ≤ ahead bs k) = true := by simpa using c1
        go_wp2
        go_ret
        exact ⟨rfl, HB.out⟩
      have d1 : decide (n ≤ ahead bs k) = false := by simpa using c1
      by_cases c2 : 16 ≤ n
      · have f1 := HM.out (.inr (.inl c2))
        have d2 : decide (16 ≤ n) = true := by simp; omega
        go_wp2
        go_ret
        exact ⟨rfl, HB.out⟩
      have d2 : decide (16 ≤ n) = false := by simp; omega
      by_cases c3 : 16384 < L
      · have f1 := HM.out (.inr (.inr c3))
        have d3 : decide ((16384 : Int) < L) = true := by simp; omega
        go_wp2
        go_ret
        exact ⟨rfl, HB.out⟩
      have d3 : decide ((16384 : Int) < L) = false := by simp; omega
      go_wp2
      go_roundw
      case rel =>
        first
          | exact ⟨k + 1, by omega, by rw [HA.out], by go_num, HG.out c1 c2 c3, HB.out⟩
          | ((repeat apply Exists.intro); refine ⟨⟨k + 1, by omega, by rw [HA.out], ?_, HG.out c1 c2 c3, HB.out⟩, rfl⟩; go_num)
      case measure => simp [intOf]; omega
    · obtain rfl : k = bs.length := by omega
      have hM := mayB_at bs bs.length hG (Nat.le_refl _)
      rw [List.drop_length] at hM
      go_wp2
      go_ret
      exact ⟨by rw [hM]; rfl, hB⟩
theorem mayBanks_any (p : Option Addr) (c : Nat) (bs : List (Int × List UInt8)) (hl : bs.length ≤ room) (w : World) (h : BnS w p bs) :
    Calls Tryz.prog 64 #[.slice p bs.length c] w fun e w' => e = .returned (.bool (mayB (-1) bs)) ∧ Below w.heap.size w w' := by
  unfold room at hl
  go_enter Tryz.func64, Tryz.ntmps64
  go_wp2
  go_loopw [3, 8] (fun a i wr => ∃ k : Nat, k ≤ bs.length ∧ a = .int .i64 (ahead bs k) ∧ i = .int .i64 (k : Int) ∧ Good bs k ∧ Below w.heap.size w wr) (fun _ i _ => bs.length - (intOf i).toNat)
  case atStart => exact ⟨0, by omega, rfl, rfl, fun j t hj => by omega, Below.refl _ _⟩
  case round =>
    obtain ⟨k, hk, rfl, rfl, hG, hB⟩ := hrel
    by_cases hlt : k < bs.length
    · have i1 : (k : Int) < bs.length := by omega
      obtain ⟨b, o, dv, rfl, e1, e2, e3, e4⟩ := h.below hB k bs[k] (List.getElem?_eq_getElem hlt)
      obtain ⟨dp, dc, rfl, _⟩ := e3.ex
      unfold room at e4
      have hd : bs.drop k = bs[k] :: bs.drop (k + 1) := by rw [List.drop_eq_getElem_cons hlt]
      have hM := mayB_at bs k hG hk
      rw [hd] at hM
      have hA : ahead bs (k + 1) = (bs[k]).1 := by simp [ahead, List.getD, List.getElem?_eq_getElem hlt]
      have hG2 : ¬ ((bs[k]).1 ≤ ahead bs k) → ¬ (16 ≤ (bs[k]).1) → ¬ (16384 < (bs[k]).2.length) → Good bs (k + 1) := by
        intro c1 c2 c3 j t hj ht
        by_cases e : j = k
        · subst e; rw [List.getElem?_eq_getElem hlt] at ht; cases ht; exact ⟨by omega, by omega, by omega⟩
        · exact hG j t (by omega) ht
      have hM2 : (bs[k]).1 ≤ ahead bs k ∨ 16 ≤ (bs[k]).1 ∨ 16384 < (bs[k]).2.length → mayB (-1) bs = false := fun c => by rw [hM, mayB, if_pos c]
      have hB2 : Below w.heap.size w (wr.alloc (Obj.cells #[.int .i64 (bs[k]).1, .slice dp (bs[k]).2.length dc] 82)) := hB.alloc hB.size _
      clear hM hd e3 hG hB
      generalize hn : (bs[k]).1 = n at *
      generalize hL : (bs[k]).2.length = L at *
      have HA : Hid _ := hA
      have HG : Hid _ := hG2
      have HB : Hid _ := hB2
      have HM : Hid _ := hM2
      clear hG2 hB2 hM2 hA
      by_cases c1 : n ≤ ahead bs k
      · have f1 := HM.out (.inl c1)
        have d1 : decide (n ≤ ahead bs k) = true := by simpa using c1
        go_wp2
        go_ret
        exact ⟨rfl, HB.out⟩
      have d1 : decide (n ≤ ahead bs k) = false := by simpa using c1
      by_cases c2 : 16 ≤ n
      · have f1 := HM.out (.inr (.inl c2))
        have d2 : decide (15 < n) = true := by simp; omega
        go_wp2
        go_ret
        exact ⟨rfl, HB.out⟩
      have d2 : decide (15 < n) = false := by simp; omega
      by_cases c3 : 16384 < L
      · have f1 := HM.out (.inr (.inr c3))
        have d3 : decide ((16384 : Int) < L) = true := by simp; omega
        go_wp2
        go_ret
        exact ⟨rfl, HB.out⟩
      have d3 : decide ((16384 : Int) < L) = false := by simp; omega
      go_wp2
      go_roundw
      case rel =>
        first
          | exact ⟨k + 1, by omega, by rw [HA.out], by go_num, HG.out c1 c2 c3, HB.out⟩
          | ((repeat apply Exists.intro); refine ⟨⟨k + 1, by omega, by rw [HA.out], ?_, HG.out c1 c2 c3, HB.out⟩, rfl⟩; go_num)
      case measure => simp [intOf]; omega
    · obtain rfl : k = bs.length := by omega
      have hM := mayB_at bs bs.length hG (Nat.le_refl _)
      rw [List.drop_length] at hM
      go_wp2
      go_ret
      exact ⟨by rw [hM]; rfl, hB⟩
end Go.Proofs.YtgponcjjnjpfkaaGreat.M
