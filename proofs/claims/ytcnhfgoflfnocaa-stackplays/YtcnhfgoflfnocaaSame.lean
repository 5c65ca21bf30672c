import Derived.Test.YtcnhfgoflfnocaaRetB
import Derived.Laws.StructEq
/-! SameCells, SameReturn, May. -/
namespace Go.Proofs.Ytcnhfgoflfnocaa
open Go.RowKit
open Go.Proofs
set_option linter.unusedVariables false
set_option linter.unusedSimpArgs false
def okK (t : Int × Int) : Bool := decide (1 ≤ t.1) && decide (t.1 ≤ 4)
def okR (r : List (Int × Int)) : Bool := r.all okK
def mayS (d : List Int) (r : List (Int × Int)) : Bool := okR r && (decide (d.length ≤ 256) && decide (r.length ≤ 128))
set_option maxHeartbeats 1000000
set_option maxRecDepth 100000
theorem sameU (p p' : Option Addr) (c c' : Nat) (l : List Int) (hl : l.length ≤ room) (w : World) (h : Sl eU 1 w p l) (h' : Sl eU 1 w p' l) :
    Calls Try.prog 43 #[.slice p l.length c, .slice p' l.length c'] w fun e w' => e = .returned (.bool true) ∧ ∃ q, w' = w.drewN q := by
  unfold room at hl
  go_enter Try.func43, Try.ntmps43
  go_wp2
  go_loopw [5] (fun i wr => ∃ k q : Nat, k ≤ l.length ∧ i = .int .i64 (k : Int) ∧ wr = w.drewN q) (fun i _ => l.length - (intOf i).toNat)
  case atStart => exact ⟨0, 0, by omega, rfl, rfl⟩
  case round =>
    obtain ⟨k, q, hk, rfl, rfl⟩ := hrel
    by_cases hlt : k < l.length
    · have i1 : (k : Int) < l.length := by omega
      obtain ⟨b, o, rfl, e1⟩ := h.u k l[k] (List.getElem?_eq_getElem hlt)
      obtain ⟨b', o', rfl, f1⟩ := h'.u k l[k] (List.getElem?_eq_getElem hlt)
      generalize l[k] = t at *
      have g1 : ∀ q, (w.drewN q).cell? ⟨b, o + k, none⟩ = some (.int .u16 t) := fun q => e1
      have g4 : ∀ q, (w.drewN q).cell? ⟨b', o' + k, none⟩ = some (.int .u16 t) := fun q => f1
      clear h h'
      go_wp2_with fail
      go_quiet (fail)
      go_wp2
      go_roundw
      case rel =>
        first
          | exact ⟨k + 1, _, by omega, by go_num, rfl⟩
          | ((repeat apply Exists.intro); refine ⟨⟨k + 1, _, by omega, ?_, rfl⟩, rfl⟩; go_num)
      case measure => simp [intOf]; omega
    · obtain rfl : k = l.length := by omega
      go_wp2
      go_ret
      exact ⟨rfl, _, rfl⟩
theorem sameK (p p' : Option Addr) (c c' : Nat) (l : List (Int × Int)) (hl : l.length ≤ room) (w : World) (h : Sl eK 2 w p l) (h' : Sl eK 2 w p' l) :
    Calls Try.prog 21 #[.slice p l.length c, .slice p' l.length c'] w fun e w' => e = .returned (.bool true) ∧ ∃ q, w' = w.drewN q := by
  unfold room at hl
  go_enter Try.func21, Try.ntmps21
  go_wp2
  go_loopw [5] (fun i wr => ∃ k q : Nat, k ≤ l.length ∧ i = .int .i64 (k : Int) ∧ wr = w.drewN q) (fun i _ => l.length - (intOf i).toNat)
  case atStart => exact ⟨0, 0, by omega, rfl, rfl⟩
  case round =>
    obtain ⟨k, q, hk, rfl, rfl⟩ := hrel
    by_cases hlt : k < l.length
    · have i1 : (k : Int) < l.length := by omega
      obtain ⟨b, o, rfl, e1, e2⟩ := h.k k l[k] (List.getElem?_eq_getElem hlt)
      obtain ⟨b', o', rfl, f1, f2⟩ := h'.k k l[k] (List.getElem?_eq_getElem hlt)
      generalize l[k] = t at *
      have g1 : ∀ q, (w.drewN q).cell? ⟨b, o + k * 2, none⟩ = some (.int .i64 t.1) := fun q => e1
      have g2 : ∀ q, (w.drewN q).cell? ⟨b, o + k * 2 + 1, none⟩ = some (.int .u16 t.2) := fun q => e2
      have g4 : ∀ q, (w.drewN q).cell? ⟨b', o' + k * 2, none⟩ = some (.int .i64 t.1) := fun q => f1
      have g5 : ∀ q, (w.drewN q).cell? ⟨b', o' + k * 2 + 1, none⟩ = some (.int .u16 t.2) := fun q => f2
      clear h h'
      go_wp2_with fail
      go_quiet (fail)
      go_wp2
      go_roundw
      case rel =>
        first
          | exact ⟨k + 1, _, by omega, by go_num, rfl⟩
          | ((repeat apply Exists.intro); refine ⟨⟨k + 1, _, by omega, ?_, rfl⟩, rfl⟩; go_num)
      case measure => simp [intOf]; omega
    · obtain rfl : k = l.length := by omega
      go_wp2
      go_ret
      exact ⟨rfl, _, rfl⟩
theorem okR_no (r : List (Int × Int)) (k : Nat) (a : Int × Int) (h : r[k]? = some a) (hk : okK a = false) : okR r = false := by
  rw [okR, Bool.eq_false_iff]
  intro c
  rw [List.all_eq_true] at c
  have := c a (List.mem_of_getElem? h)
  rw [hk] at this; cases this
theorem okK_t {t : Int × Int} (h1 : 1 ≤ t.1) (h2 : t.1 ≤ 4) : okK t = true := by rw [okK, decide_eq_true h1, decide_eq_true h2]; rfl
theorem okK_f {t : Int × Int} (h : t.1 < 1 ∨ 4 < t.1) : okK t = false := by
  rcases h with h | h
  · rw [okK, decide_eq_false (by omega)]; rfl
  · rw [okK, decide_eq_false (p := t.1 ≤ 4) (by omega), Bool.and_false]
theorem okR_yes (r : List (Int × Int)) (h : ∀ (j : Nat) a, r[j]? = some a → okK a = true) : okR r = true := by
  rw [okR, List.all_eq_true]
  intro a ha
  obtain ⟨j, hj⟩ := List.mem_iff_getElem?.1 ha
  exact h j a hj
theorem may_any (pd pr : Option Addr) (cd cr : Nat) (d : List Int) (r : List (Int × Int)) (hd : d.length ≤ room) (hr : r.length ≤ room) (w : World) (h : Sl eK 2 w pr r) :
    Calls Try.prog 20 #[.slice pd d.length cd, .slice pr r.length cr] w fun e w' => e = .returned (.bool (mayS d r)) ∧ w' = w := by
  unfold room at hd hr
  go_enter Try.func20, Try.ntmps20
  go_wp2
  go_loopw [5] (fun i wr => ∃ k : Nat, k ≤ r.length ∧ i = .int .i64 (k : Int) ∧ (∀ j a, j < k → r[j]? = some a → okK a = true) ∧ wr = w) (fun i _ => r.length - (intOf i).toNat)
  case atStart => exact ⟨0, by omega, rfl, fun j a hj => by omega, rfl⟩
  case round =>
    obtain ⟨k, hk, rfl, hG, rfl⟩ := hrel
    by_cases hlt : k < r.length
    · have i1 : (k : Int) < r.length := by omega
      have ha := List.getElem?_eq_getElem hlt
      obtain ⟨b, o, rfl, e1, e2⟩ := h.k k r[k] ha
      have hno : okK r[k] = false → mayS d r = false := fun c => by rw [mayS, okR_no r k _ ha c]; rfl
      have hG2 : okK r[k] = true → ∀ j a, j < k + 1 → r[j]? = some a → okK a = true := by
        intro c j a hj he
        by_cases e : j = k
        · subst e; rw [ha] at he; cases he; exact c
        · exact hG j a (by omega) he
      clear hG h e2 ha
      have HG : Hid _ := hG2
      have HN : Hid _ := hno
      clear hG2 hno
      generalize r[k] = t at *
      by_cases c1 : t.1 < 1
      · have d1 : decide (t.1 < 1) = true := decide_eq_true c1
        have f1 := HN.out (okK_f (.inl c1))
        have HF : Hid _ := f1
        clear f1
        go_wp2
        go_ret
        exact ⟨by rw [HF.out]; rfl, rfl⟩
      have d1 : decide (t.1 < 1) = false := decide_eq_false c1
      by_cases c2 : 4 < t.1
      · have d2 : decide (4 < t.1) = true := decide_eq_true c2
        have f1 := HN.out (okK_f (.inr c2))
        have HF : Hid _ := f1
        clear f1
        go_wp2
        go_ret
        exact ⟨by rw [HF.out]; rfl, rfl⟩
      have d2 : decide (4 < t.1) = false := decide_eq_false c2
      go_wp2
      go_roundw
      case rel =>
        have hz := HG.out (okK_t (by omega) (by omega))
        exact ⟨k + 1, by omega, by go_num, hz, trivial⟩
      case measure => simp [intOf]; omega
    · obtain rfl : k = r.length := by omega
      have hM : mayS d r = (decide (d.length ≤ 256) && decide (r.length ≤ 128)) := by
        rw [mayS, okR_yes r (fun j a he => hG j a (List.getElem?_eq_some_iff.1 he).1 he), Bool.true_and]
      have HM : Hid _ := hM
      clear hM hG h
      by_cases c1 : d.length ≤ 256
      · have d1 : decide ((d.length : Int) ≤ 256) = true := decide_eq_true (by omega)
        by_cases c2 : r.length ≤ 128
        · have d2 : decide ((r.length : Int) ≤ 128) = true := decide_eq_true (by omega)
          go_wp2
          go_ret
          exact ⟨by rw [HM.out, decide_eq_true c1, decide_eq_true c2]; rfl, rfl⟩
        · have d2 : decide ((r.length : Int) ≤ 128) = false := decide_eq_false (by omega)
          go_wp2
          go_ret
          exact ⟨by rw [HM.out, decide_eq_true c1, decide_eq_false c2]; rfl, rfl⟩
      · have d1 : decide ((d.length : Int) ≤ 256) = false := decide_eq_false (by omega)
        go_wp2
        go_ret
        exact ⟨by rw [HM.out, decide_eq_false c1]; rfl, rfl⟩
end Go.Proofs.Ytcnhfgoflfnocaa
