import Derived.Test.YtokhlcioekbjdaaKTok
/-! The reference's digits, Numeral, token. -/
namespace Go.Proofs.Ytokhlcioekbjdaa.K
open Go.RowKit
open Go.Proofs
open Go.Proofs.Ytokhlcioekbjdaa
open Go.Proofs.Ytokhlcioekbjdaa.T (size_list numE numC dig val stepV val_snoc take_snoc val_take_none cap_step)
set_option linter.unusedVariables false
set_option linter.unusedSimpArgs false

/-- What digits answers. -/
def dg (b : Nat) (l : List UInt8) : Int := if l = [] then -1 else match val b l with | none => -1 | some v => ((min v 100000 : Nat) : Int)
theorem hid0 {p : Prop} (h : p) : Hid p := h
theorem dg_nil (b : Nat) : dg b [] = -1 := rfl
theorem dg_none {b : Nat} {l : List UInt8} (h : val b l = none) : dg b l = -1 := by unfold dg; rw [h]; split <;> rfl
theorem dg_some {b : Nat} {l : List UInt8} {v : Nat} (hl : l ≠ []) (h : val b l = some v) : dg b l = ((min v 100000 : Nat) : Int) := by unfold dg; rw [if_neg hl, h]
theorem dig_cases (c : Nat) : (48 ≤ c ∧ c ≤ 57 ∧ dig c = c - 48) ∨ (¬ (48 ≤ c ∧ c ≤ 57) ∧ 97 ≤ c ∧ c ≤ 102 ∧ dig c = c - 87) ∨ (¬ (48 ≤ c ∧ c ≤ 57) ∧ ¬ (97 ≤ c ∧ c ≤ 102) ∧ dig c = 99) := by
  unfold dig
  by_cases h1 : 48 ≤ c ∧ c ≤ 57
  · left; exact ⟨h1.1, h1.2, by rw [if_pos h1]⟩
  · by_cases h2 : 97 ≤ c ∧ c ≤ 102
    · right; left; exact ⟨h1, h2.1, h2.2, by rw [if_neg h1, if_pos h2]⟩
    · right; right; exact ⟨h1, h2, by rw [if_neg h1, if_neg h2]⟩

set_option maxHeartbeats 2000000 in
set_option maxRecDepth 20000 in
theorem digits_any (s : ByteArray) (b : Nat) (hs : s.size ≤ 65536) (hb2 : 2 ≤ b) (hb16 : b ≤ 16) (w : World) :
    Calls Try.prog 44 #[.string s, .int .i64 b] w fun e w' => e = .returned (.int .i64 (dg b s.data.toList)) ∧ w' = w := by
  by_cases h0 : s.size = 0
  · have hl : s.data.toList = [] := List.eq_nil_of_length_eq_zero (by rw [size_list]; exact h0)
    have H := hid0 (show dg b s.data.toList = -1 by rw [hl]; rfl)
    clear hl
    go_enter Try.func44, Try.ntmps44
    go_wp2_with fail
    go_ret
    rw [H.out]
    exact ⟨rfl, rfl⟩
  have hne : s.data.toList ≠ [] := fun e => h0 (by rw [← size_list, e]; rfl)
  have HNE := hid0 hne
  clear hne
  have hz0 : ((s.size : Int) == 0) = false := beq_eq_false_iff_ne.2 (by omega)
  go_enter Try.func44, Try.ntmps44
  go_wp2_with fail
  go_loopw [5, 6] (fun n x wr => ∃ p v : Nat, x = .int .i64 (p : Int) ∧ p ≤ s.size ∧ val b (s.data.toList.take p) = some v ∧ n = .int .i64 ((min v 100000 : Nat) : Int) ∧ wr = w) (fun _ x wr => s.size - (Lib.intOf x).toNat)
  case atStart => exact ⟨0, 0, rfl, Nat.zero_le _, rfl, rfl, rfl⟩
  case round =>
    obtain ⟨p, v, rfl, hp, hv, rfl, rfl⟩ := hrel
    by_cases hlt : p < s.size
    · have hts := take_snoc s p hlt
      have HV := hid0 (show val b (s.data.toList.take (p + 1)) = stepV b (some v) (dig s[p].toNat) by rw [hts, val_snoc, hv])
      have hc := s[p].toNat_lt
      clear hts hv
      have hbI : (2 : Int) ≤ b := by omega
      have hm0 : (0 : Int) ≤ ((min v 100000 : Nat) : Int) := by omega
      have hm1 : ((min v 100000 : Nat) : Int) ≤ 100000 := by omega
      rcases dig_cases s[p].toNat with ⟨a1, a2, ad⟩ | ⟨a0, a1, a2, ad⟩ | ⟨a0, a1, ad⟩
      · by_cases hd : s[p].toNat - 48 < b
        · have hv2 : val b (s.data.toList.take (p + 1)) = some (v * b + (s[p].toNat - 48)) := by rw [HV.out, ad]; unfold stepV; simp [hd]
          have hcap := cap_step v b (s[p].toNat - 48) 100000 (by omega)
          have hmb : min v 100000 * b ≤ 100000 * 16 := Nat.mul_le_mul (by omega) hb16
          have HC := hid0 hcap
          have HV2 := hid0 hv2
          clear HV ad hcap hv2
          generalize hmm : min v 100000 = m at *
          have hmul : ((m : Int) * (b : Int)) = ((m * b : Nat) : Int) := by simp
          generalize hmq : m * b = mb at *
          have e1 : (48 : Int) ≤ s[p].toNat := by omega
          have e2 : (s[p].toNat : Int) ≤ 57 := by omega
          have e3 : (s[p].toNat : Int) - 48 < b := by omega
          clear hd a1 a2
          go_wp2_with fail
          all_goals
            go_roundw
            case rel =>
              first
                | exact ⟨p + 1, v * b + (s[p].toNat - 48), by simp, by omega, HV2.out, by congr 1; rw [← HC.out]; first | omega | (simp; omega), trivial⟩
                | ((repeat apply Exists.intro); refine ⟨⟨p + 1, v * b + (s[p].toNat - 48), ?_, by omega, HV2.out, ?_, trivial⟩, rfl⟩; (first | rfl | simp); (congr 1; rw [← HC.out]; first | omega | (simp; omega)))
            case measure => simp only [Lib.intOf]; omega
        · have hn : dg b s.data.toList = -1 := dg_none (val_take_none b _ (p + 1) (by rw [HV.out, ad]; unfold stepV; simp; omega))
          have HN := hid0 hn
          clear HV hn ad
          have e1 : (48 : Int) ≤ s[p].toNat := by omega
          have e2 : (s[p].toNat : Int) ≤ 57 := by omega
          have e3 : (b : Int) ≤ (s[p].toNat : Int) - 48 := by omega
          go_wp2_with fail
          go_ret
          rw [HN.out]
          exact ⟨rfl, rfl⟩
      · have e0 : (57 : Int) < s[p].toNat := by omega
        by_cases hd : s[p].toNat - 87 < b
        · have hv2 : val b (s.data.toList.take (p + 1)) = some (v * b + (s[p].toNat - 87)) := by rw [HV.out, ad]; unfold stepV; simp [hd]
          have hcap := cap_step v b (s[p].toNat - 87) 100000 (by omega)
          have hmb : min v 100000 * b ≤ 100000 * 16 := Nat.mul_le_mul (by omega) hb16
          have HC := hid0 hcap
          have HV2 := hid0 hv2
          clear HV ad hcap hv2
          generalize hmm : min v 100000 = m at *
          have hmul : ((m : Int) * (b : Int)) = ((m * b : Nat) : Int) := by simp
          generalize hmq : m * b = mb at *
          have e1 : (97 : Int) ≤ s[p].toNat := by omega
          have e2 : (s[p].toNat : Int) ≤ 102 := by omega
          have e3 : (s[p].toNat : Int) - 87 < b := by omega
          have e4 : (s[p].toNat : Int) - 97 + 10 < b := by omega
          clear hd a1 a2
          go_wp2_with fail
          all_goals
            go_roundw
            case rel =>
              first
                | exact ⟨p + 1, v * b + (s[p].toNat - 87), by simp, by omega, HV2.out, by congr 1; rw [← HC.out]; first | omega | (simp; omega), trivial⟩
                | ((repeat apply Exists.intro); refine ⟨⟨p + 1, v * b + (s[p].toNat - 87), ?_, by omega, HV2.out, ?_, trivial⟩, rfl⟩; (first | rfl | simp); (congr 1; rw [← HC.out]; first | omega | (simp; omega)))
            case measure => simp only [Lib.intOf]; omega
        · have hn : dg b s.data.toList = -1 := dg_none (val_take_none b _ (p + 1) (by rw [HV.out, ad]; unfold stepV; simp; omega))
          have HN := hid0 hn
          clear HV hn ad
          have e1 : (97 : Int) ≤ s[p].toNat := by omega
          have e2 : (s[p].toNat : Int) ≤ 102 := by omega
          have e3 : (b : Int) ≤ (s[p].toNat : Int) - 97 + 10 := by omega
          go_wp2_with fail
          go_ret
          rw [HN.out]
          exact ⟨rfl, rfl⟩
      · have hn : dg b s.data.toList = -1 := dg_none (val_take_none b _ (p + 1) (by rw [HV.out, ad]; unfold stepV; simp; omega))
        have HN := hid0 hn
        clear HV hn ad
        by_cases q1 : s[p].toNat < 48
        · have e1 : (s[p].toNat : Int) < 48 := by omega
          have e2 : (s[p].toNat : Int) < 97 := by omega
          go_wp2_with fail
          go_ret
          rw [HN.out]
          exact ⟨rfl, rfl⟩
        · have e1 : (57 : Int) < s[p].toNat := by omega
          have e0 : (48 : Int) ≤ s[p].toNat := by omega
          by_cases q2 : s[p].toNat < 97
          · have e2 : (s[p].toNat : Int) < 97 := by omega
            go_wp2_with fail
            go_ret
            rw [HN.out]
            exact ⟨rfl, rfl⟩
          · have e2 : (102 : Int) < s[p].toNat := by omega
            have e3 : (97 : Int) ≤ s[p].toNat := by omega
            go_wp2_with fail
            go_ret
            rw [HN.out]
            exact ⟨rfl, rfl⟩
    · have hall : s.data.toList.take p = s.data.toList := List.take_of_length_le (by rw [size_list]; omega)
      rw [hall] at hv
      have HN := hid0 (dg_some HNE.out hv)
      clear hall hv
      go_wp2_with fail
      go_ret
      rw [HN.out]
      exact ⟨rfl, rfl⟩
/-- What Numeral answers. -/
theorem quo_dec (s : ByteArray) : (T.quo s.data.toList = true ∧ s.size = 3 ∧ ∃ h : 2 < s.size, s[0].toNat = 39 ∧ s[2].toNat = 39 ∧ 33 ≤ s[1].toNat ∧ s[1].toNat ≤ 126) ∨ T.quo s.data.toList = false := by
  cases h : T.quo s.data.toList with
  | false => right; rfl
  | true =>
    left
    have h3 : s.size = 3 := by
      by_cases h3 : s.size = 3
      · exact h3
      · rw [T.quo_else s h3] at h; cases h
    rw [T.quo_three s h3] at h
    simp only [Bool.and_eq_true, decide_eq_true_eq, T.seen] at h
    exact ⟨rfl, h3, by omega, h.1, h.2.1, h.2.2.1, h.2.2.2⟩
theorem ret_three {a a' : Int} {b b' c c' : Bool} (h1 : a = a') (h2 : b = b') (h3 : c = c') : Ending.returned (.tuple #[.int .u16 a, .bool b, .bool c]) = .returned (.tuple #[.int .u16 a', .bool b', .bool c']) := by rw [h1, h2, h3]
/-- What Numeral makes of the number of its digits. -/
theorem dg_body (b : Nat) (l : List UInt8) : (dg b l = -1 ∧ T.body b l = none) ∨ ∃ v : Nat, dg b l = ((min v 100000 : Nat) : Int) ∧ T.body b l = some v := by
  unfold T.body
  by_cases hl : l = []
  · left; subst hl; exact ⟨rfl, rfl⟩
  · rw [if_neg hl]
    cases hv : val b l with
    | none => left; exact ⟨dg_none hv, rfl⟩
    | some v => right; exact ⟨v, dg_some hl hv, rfl⟩
theorem ext1_le (s : ByteArray) (h : s.size ≤ 31) : (s.extract 1 s.size).size ≤ 65536 := by rw [ByteArray.size_extract]; omega
def is3 (l : List UInt8) : Value := .tuple #[.int .u16 (numC l), .bool (decide (numE l ≠ 20)), .bool (decide (numE l = 0))]
end Go.Proofs.Ytokhlcioekbjdaa.K
