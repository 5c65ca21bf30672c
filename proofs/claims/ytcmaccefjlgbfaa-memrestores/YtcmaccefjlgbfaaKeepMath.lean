import Derived.Test.YtcmaccefjlgbfaaOwn
/-! What a write changes, and what it does not. -/
namespace Go.Proofs.Ytcmaccefjlgbfaa
open Go.Proofs
set_option linter.unusedVariables false
set_option linter.unusedSimpArgs false
theorem lb_set (l : List UInt8) (i j : Nat) (x : UInt8) (h : i < l.length) : lb (l.set i x) j = if i = j then bt x else lb l j := by
  unfold lb bt
  simp only [List.getD_eq_getElem?_getD, List.getElem?_set]
  by_cases e : i = j
  · subst e; simp [h]
  · simp [e]
theorem st_pad (m : MS) (z : Int) (x : UInt8) : (st m z x).pad = m.pad := by
  unfold st stp; repeat' split
  all_goals rfl
theorem st_time (m : MS) (z : Int) (x : UInt8) : (st m z x).time = m.time := by
  unfold st stp; repeat' split
  all_goals rfl
theorem st_ch (m : MS) (z : Int) (x : UInt8) (h : z ≠ 65280) : (st m z x).ch = m.ch := by
  unfold st stp; repeat' split
  all_goals first | rfl | (exfalso; omega)
theorem st_low_tones (m : MS) (z : Int) (x : UInt8) (h : z < 65280) : (st m z x).tones = m.tones := by
  unfold st stp; repeat' split
  all_goals first | rfl | (exfalso; omega)
theorem st_banks (m : MS) (z : Int) (x : UInt8) (n : Nat) (l : List UInt8) (h : m.banks n = some l) : ∃ l', (st m z x).banks n = some l' := by
  unfold st stp
  split
  · exact ⟨l, h⟩
  split
  · split
    · exact ⟨l, h⟩
    · simp only [upd]; split
      · exact ⟨_, rfl⟩
      · exact ⟨l, h⟩
  repeat' split
  all_goals exact ⟨l, h⟩
theorem ld_low (m : MS) (z : Int) (h : z < 16384) : ld m z = 0 := by unfold ld; rw [if_pos h]
theorem ld_same (m : MS) (hw : Wf m) (z : Int) (x : UInt8) (h0 : 16384 ≤ z) (h1 : z < 52224) (hb : z < 32768 → ∃ l, m.banks m.ch.toNat = some l) : ld (st m z x) z = bt x := by
  have a1 : ¬ z < 16384 := by omega
  by_cases a2 : z < 32768
  · obtain ⟨l, hl⟩ := hb a2
    have hll := (hw.bk _ _ hl).2
    simp only [st, ld, a1, a2, if_true, if_false, hl, upd]
    rw [lb_set _ _ _ _ (by omega), if_pos rfl]
  by_cases a3 : z < 49152
  · simp only [st, ld, a1, a2, a3, if_true, if_false]
    rw [lb_set _ _ _ _ (by rw [hw.ram]; omega), if_pos rfl]
  · simp only [st, ld, a1, a2, a3, h1, if_true, if_false]
    rw [lb_set _ _ _ _ (by rw [hw.scr]; omega), if_pos rfl]
theorem ld_stp (m : MS) (z o : Int) (x : UInt8) (ho : o < 65280) (hn : ¬ (z = 65280 ∧ 16384 ≤ o ∧ o < 32768)) : ld (stp m z x) o = ld m o := by
  unfold stp
  by_cases c0 : z = 65280
  · rw [if_pos c0]
    unfold ld
    by_cases a1 : o < 16384
    · simp only [a1, if_true]
    by_cases a2 : o < 32768
    · exact absurd ⟨c0, by omega, a2⟩ hn
    simp only [a1, a2, if_false]
    split
    · rfl
    split
    · rfl
    rw [pt_low _ o ho, pt_low _ o ho]
  rw [if_neg c0]
  have hp : ∀ m' : MS, m'.ram = m.ram → m'.scr = m.scr → m'.ch = m.ch → m'.banks = m.banks → ld m' o = ld m o := by
    intro m' e1 e2 e3 e4
    unfold ld
    rw [e1, e2, e3, e4, pt_low m' o ho, pt_low m o ho]
  repeat' split
  all_goals first | exact hp _ rfl rfl rfl rfl | rfl
theorem ld_other (m : MS) (hw : Wf m) (z o : Int) (x : UInt8) (h0 : 0 ≤ z) (ho0 : 0 ≤ o) (ho : o < 65280) (hne : o ≠ z) (hn : ¬ (z = 65280 ∧ 16384 ≤ o ∧ o < 32768)) : ld (st m z x) o = ld m o := by
  by_cases a1 : z < 16384
  · simp only [st, a1, if_true]
  by_cases a2 : z < 32768
  · simp only [st, a1, a2, if_true, if_false]
    cases hb : m.banks m.ch.toNat with
    | none => rfl
    | some l =>
      have hll := (hw.bk _ _ hb).2
      simp only [ld, upd, if_true, hb]
      by_cases b1 : o < 16384
      · simp only [b1, if_true]
      by_cases b2 : o < 32768
      · simp only [b1, b2, if_true, if_false]
        rw [lb_set _ _ _ _ (by omega), if_neg (by omega)]
      simp only [b1, b2, if_false]
      rfl
  by_cases a3 : z < 49152
  · simp only [st, a1, a2, a3, if_true, if_false]
    unfold ld
    by_cases b1 : o < 16384
    · simp only [b1, if_true]
    by_cases b2 : o < 32768
    · simp only [b1, b2, if_true, if_false]; try rfl
    by_cases b3 : o < 49152
    · simp only [b1, b2, b3, if_true, if_false]
      rw [lb_set _ _ _ _ (by rw [hw.ram]; omega), if_neg (by omega)]
    simp only [b1, b2, b3, if_false]
    rfl
  by_cases a4 : z < 52224
  · simp only [st, a1, a2, a3, a4, if_true, if_false]
    unfold ld
    by_cases b1 : o < 16384
    · simp only [b1, if_true]
    by_cases b2 : o < 32768
    · simp only [b1, b2, if_true, if_false]; try rfl
    by_cases b3 : o < 49152
    · simp only [b1, b2, b3, if_true, if_false]; try rfl
    by_cases b4 : o < 52224
    · simp only [b1, b2, b3, b4, if_true, if_false]
      rw [lb_set _ _ _ _ (by rw [hw.scr]; omega), if_neg (by omega)]
    simp only [b1, b2, b3, b4, if_false]
    rfl
  simp only [st, a1, a2, a3, a4, if_false]
  exact ld_stp m z o x ho hn
/-- What holds of the memory all the while. -/
structure Inv (some_ : Prop) (m : MS) : Prop where
  tones : m.tones = []
  pad : m.pad = 77
  time : m.time = 1
  bank : some_ → ∃ l, m.banks m.ch.toNat = some l
theorem Inv.st {s : Prop} {m : MS} (h : Inv s m) (z : Int) (x : UInt8) (hz : z < 65280) : Inv s (st m z x) := by
  refine ⟨(st_low_tones m z x hz).trans h.tones, (st_pad m z x).trans h.pad, (st_time m z x).trans h.time, fun hs => ?_⟩
  obtain ⟨l, hl⟩ := h.bank hs
  rw [st_ch m z x (by omega)]
  exact st_banks m z x _ l hl
theorem ld_pad (m : MS) : ld m 65282 = m.pad := by simp [ld, pt]
theorem ld_time (m : MS) : ld m 65288 = m.time % 256 := by simp [ld, pt]
end Go.Proofs.Ytcmaccefjlgbfaa
