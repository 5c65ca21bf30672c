import Derived.Test.YtokhlcioekbjdaaKRNum
import Derived.Deep.DeepCutAuto
/-! The reference's Numeral. -/
namespace Go.Proofs.Ytokhlcioekbjdaa.K
open Go.RowKit
open Go.Proofs
open Go.Proofs.Ytokhlcioekbjdaa
open Go.Proofs.Ytokhlcioekbjdaa.T (size_list numE numC)
set_option linter.unusedVariables false
set_option linter.unusedSimpArgs false
set_option maxRecDepth 20000
set_option maxHeartbeats 4000000

theorem quo_no (s : ByteArray) (h : T.quo s.data.toList = false) : (¬ (s.size : Int) = 3) ∨ (s.size = 3 ∧ ∃ h : 2 < s.size, (¬ (s[0].toNat : Int) = 39) ∨ ((s[0].toNat : Int) = 39 ∧ ¬ (s[2].toNat : Int) = 39) ∨ ((s[0].toNat : Int) = 39 ∧ (s[2].toNat : Int) = 39 ∧ (s[1].toNat : Int) < 33) ∨ ((s[0].toNat : Int) = 39 ∧ (s[2].toNat : Int) = 39 ∧ (33 : Int) ≤ s[1].toNat ∧ (126 : Int) < s[1].toNat)) := by
  by_cases h3 : s.size = 3
  · right
    refine ⟨h3, by omega, ?_⟩
    rw [T.quo_three s h3] at h
    by_cases a : s[0].toNat = 39
    · by_cases b : s[2].toNat = 39
      · have c : ¬ (33 ≤ s[1].toNat ∧ s[1].toNat ≤ 126) := by simpa [a, b, T.seen] using h
        omega
      · omega
    · omega
  · left; omega
theorem hd_get (s : ByteArray) (h : 0 < s.size) : T.hd s.data.toList = s[0].toNat := by
  obtain ⟨⟨l⟩⟩ := s
  cases l with
  | nil => exact absurd h (Nat.lt_irrefl 0)
  | cons a t => rfl
/-- What the three answers are. -/
theorem is3_none {l : List UInt8} (h : T.numI l = none) : is3 l = .tuple #[.int .u16 0, .bool false, .bool false] := by
  obtain ⟨h1, h2⟩ := T.numC_none h; unfold is3; rw [h1, h2]; rfl
theorem is3_out {l : List UInt8} {n : Int} (h : T.numI l = some n) (a : n < -32768 ∨ 65535 < n) : is3 l = .tuple #[.int .u16 0, .bool true, .bool false] := by
  obtain ⟨h1, h2⟩ := T.numC_out h a; unfold is3; rw [h1, h2]; rfl
theorem is3_in {l : List UInt8} {n : Int} (h : T.numI l = some n) (a : -32768 ≤ n) (b : n ≤ 65535) : is3 l = .tuple #[.int .u16 (n % 65536), .bool true, .bool true] := by
  obtain ⟨h1, h2⟩ := T.numC_in h a b; unfold is3; rw [h1, h2]; rfl
theorem ret_is {x : Value} {l : List UInt8} (h : is3 l = x) : Ending.returned x = .returned (is3 l) := by rw [h]
theorem rnum_quo (s : ByteArray) (hq : T.quo s.data.toList = true) (w : World) : Calls Try.prog 36 #[.string s] w fun e w' => e = .returned (is3 s.data.toList) ∧ w' = w := by
  rcases quo_dec s with ⟨_, h3, h2, a0, a2, a1, b1⟩ | h
  · have hn : T.numI s.data.toList = some (s[1].toNat : Int) := by
      rw [T.numI_quo _ hq]
      obtain ⟨a, b, c, rfl⟩ := T.three s h3
      rfl
    have H := hid0 (is3_in hn (by omega) (by omega))
    clear hn hq
    have e0 : (s[0].toNat : Int) = 39 := by omega
    have e2 : (s[2].toNat : Int) = 39 := by omega
    have e1 : (33 : Int) ≤ s[1].toNat := by omega
    have e1' : (s[1].toNat : Int) ≤ 126 := by omega
    clear a0 a2 a1 b1
    go_enter Try.func36, Try.ntmps36
    go_wp2_with fail
    refine bodyPost_ret (v := .tuple #[.int .u16 (s[1].toNat : Int), .bool true, .bool true]) (by simp [results, Try.results36, go_sem]) rfl ⟨ret_is ?_, rfl⟩
    rw [H.out, Int.emod_eq_of_lt (by omega) (by omega)]
  · rw [hq] at h; cases h
theorem rnum_dollar (s : ByteArray) (h1 : 1 ≤ s.size) (hs : s.size ≤ 31) (hq : T.quo s.data.toList = false) (hc : T.hd s.data.toList = 36) (w : World) : Calls Try.prog 36 #[.string s] w fun e w' => e = .returned (is3 s.data.toList) ∧ w' = w := by
  have HQ := hid0 (quo_no s hq)
  have h0 : 0 < s.size := by omega
  have hg := hd_get s h0
  have hbody : T.numI s.data.toList = (T.body 16 (s.extract 1 s.size).data.toList).map fun n => (n : Int) := by
    obtain ⟨x, t, e, hx⟩ := T.hd_cons hc (by omega)
    rw [T.numI_dollar _ t x hq e hx, T.tail_list s x t e]
  have hD := fun W => digits_any (s.extract 1 s.size) 16 (ext1_le s hs) (by omega) (by omega) W
  rw [hc] at hg
  have g36 : (s[0].toNat : Int) = 36 := by omega
  clear hc hg hq
  rcases dg_body 16 (s.extract 1 s.size).data.toList with ⟨hdg, hb⟩ | ⟨v, hdg, hb⟩
  · rw [hb] at hbody
    have H := hid0 (is3_none (by rw [hbody]; rfl))
    clear hb hbody
    simp only [hdg] at hD
    go_enter Try.func36, Try.ntmps36
    go_upto_region 4 with fail
    try simp only [Act.put, List.setIfInBounds_toArray, List.set_cons_zero, List.set_cons_succ]
    go_cut [10] (fun x wc => x = .bool false ∧ wc = w)
    case first =>
      as_aux_lemma =>
        rcases HQ.out with q | ⟨q3, q2, q | ⟨q, q'⟩ | ⟨q, q', q''⟩ | ⟨q, q', q'', q4⟩⟩
        · go_wp2
          go_meet
          case rel => exact ⟨rfl, rfl⟩
        · go_wp2
          go_meet
          case rel => exact ⟨rfl, rfl⟩
        · go_wp2
          go_meet
          case rel => exact ⟨rfl, rfl⟩
        · go_wp2
          go_meet
          case rel => exact ⟨rfl, rfl⟩
        · go_wp2
          go_meet
          case rel => first | exact ⟨rfl, rfl⟩ | exact ⟨congrArg Value.bool (decide_eq_false (by omega)), rfl⟩
    case rest =>
      as_aux_lemma =>
        obtain ⟨hc1, hc2⟩ := hcut
        subst hc1 hc2
        go_wp2_with (go_at_call 44; refine (hD _).mono ?_; rintro e w' ⟨rfl, rfl⟩)
        refine bodyPost_ret (v := .tuple #[.int .u16 0, .bool false, .bool false]) (by simp [results, Try.results36, go_sem]) rfl ⟨ret_is ?_, rfl⟩
        exact H.out
  · rw [hb] at hbody
    have hbody : T.numI s.data.toList = some (v : Int) := hbody
    simp only [hdg] at hD
    clear hb hdg
    have hm0 : (0 : Int) ≤ ((min v 100000 : Nat) : Int) := by omega
    have hm1 : ((min v 100000 : Nat) : Int) ≤ 100000 := by omega
    by_cases hv : v ≤ 65535
    · have hmv : ((min v 100000 : Nat) : Int) = (v : Int) := by omega
      simp only [hmv] at hD
      clear hm0 hm1 hmv
      have hv0 : (0 : Int) ≤ v := by omega
      have hv1 : (v : Int) ≤ 65535 := by omega
      have H := hid0 (is3_in hbody (by omega) (by omega))
      clear hbody hv
      go_enter Try.func36, Try.ntmps36
      go_upto_region 4 with fail
      try simp only [Act.put, List.setIfInBounds_toArray, List.set_cons_zero, List.set_cons_succ]
      go_cut [10] (fun x wc => x = .bool false ∧ wc = w)
      case first =>
        as_aux_lemma =>
          rcases HQ.out with q | ⟨q3, q2, q | ⟨q, q'⟩ | ⟨q, q', q''⟩ | ⟨q, q', q'', q4⟩⟩
          · go_wp2
            go_meet
            case rel => exact ⟨rfl, rfl⟩
          · go_wp2
            go_meet
            case rel => exact ⟨rfl, rfl⟩
          · go_wp2
            go_meet
            case rel => exact ⟨rfl, rfl⟩
          · go_wp2
            go_meet
            case rel => exact ⟨rfl, rfl⟩
          · go_wp2
            go_meet
            case rel => first | exact ⟨rfl, rfl⟩ | exact ⟨congrArg Value.bool (decide_eq_false (by omega)), rfl⟩
      case rest =>
        as_aux_lemma =>
          obtain ⟨hc1, hc2⟩ := hcut
          subst hc1 hc2
          go_wp2_with (go_at_call 44; refine (hD _).mono ?_; rintro e w' ⟨rfl, rfl⟩)
          refine bodyPost_ret (v := .tuple #[.int .u16 (v : Int), .bool true, .bool true]) (by simp [results, Try.results36, go_sem]) rfl ⟨ret_is ?_, rfl⟩
          rw [H.out, Int.emod_eq_of_lt (by omega) (by omega)]
    · have hm2 : (65535 : Int) < ((min v 100000 : Nat) : Int) := by omega
      have H := hid0 (is3_out hbody (by omega))
      generalize min v 100000 = m at *
      clear hbody hv
      go_enter Try.func36, Try.ntmps36
      go_upto_region 4 with fail
      try simp only [Act.put, List.setIfInBounds_toArray, List.set_cons_zero, List.set_cons_succ]
      go_cut [10] (fun x wc => x = .bool false ∧ wc = w)
      case first =>
        as_aux_lemma =>
          rcases HQ.out with q | ⟨q3, q2, q | ⟨q, q'⟩ | ⟨q, q', q''⟩ | ⟨q, q', q'', q4⟩⟩
          · go_wp2
            go_meet
            case rel => exact ⟨rfl, rfl⟩
          · go_wp2
            go_meet
            case rel => exact ⟨rfl, rfl⟩
          · go_wp2
            go_meet
            case rel => exact ⟨rfl, rfl⟩
          · go_wp2
            go_meet
            case rel => exact ⟨rfl, rfl⟩
          · go_wp2
            go_meet
            case rel => first | exact ⟨rfl, rfl⟩ | exact ⟨congrArg Value.bool (decide_eq_false (by omega)), rfl⟩
      case rest =>
        as_aux_lemma =>
          obtain ⟨hc1, hc2⟩ := hcut
          subst hc1 hc2
          go_wp2_with (go_at_call 44; refine (hD _).mono ?_; rintro e w' ⟨rfl, rfl⟩)
          refine bodyPost_ret (v := .tuple #[.int .u16 0, .bool true, .bool false]) (by simp [results, Try.results36, go_sem]) rfl ⟨ret_is ?_, rfl⟩
          exact H.out
theorem rnum_percent (s : ByteArray) (h1 : 1 ≤ s.size) (hs : s.size ≤ 31) (hq : T.quo s.data.toList = false) (hc : T.hd s.data.toList = 37) (w : World) : Calls Try.prog 36 #[.string s] w fun e w' => e = .returned (is3 s.data.toList) ∧ w' = w := by
  have HQ := hid0 (quo_no s hq)
  have h0 : 0 < s.size := by omega
  have hg := hd_get s h0
  have hbody : T.numI s.data.toList = (T.body 2 (s.extract 1 s.size).data.toList).map fun n => (n : Int) := by
    obtain ⟨x, t, e, hx⟩ := T.hd_cons hc (by omega)
    rw [T.numI_percent _ t x hq e hx, T.tail_list s x t e]
  have hD := fun W => digits_any (s.extract 1 s.size) 2 (ext1_le s hs) (by omega) (by omega) W
  rw [hc] at hg
  have g36 : ¬ (s[0].toNat : Int) = 36 := by omega
  have g37 : (s[0].toNat : Int) = 37 := by omega
  clear hc hg hq
  rcases dg_body 2 (s.extract 1 s.size).data.toList with ⟨hdg, hb⟩ | ⟨v, hdg, hb⟩
  · rw [hb] at hbody
    have H := hid0 (is3_none (by rw [hbody]; rfl))
    clear hb hbody
    simp only [hdg] at hD
    go_enter Try.func36, Try.ntmps36
    go_upto_region 4 with fail
    try simp only [Act.put, List.setIfInBounds_toArray, List.set_cons_zero, List.set_cons_succ]
    go_cut [10] (fun x wc => x = .bool false ∧ wc = w)
    case first =>
      as_aux_lemma =>
        rcases HQ.out with q | ⟨q3, q2, q | ⟨q, q'⟩ | ⟨q, q', q''⟩ | ⟨q, q', q'', q4⟩⟩
        · go_wp2
          go_meet
          case rel => exact ⟨rfl, rfl⟩
        · go_wp2
          go_meet
          case rel => exact ⟨rfl, rfl⟩
        · go_wp2
          go_meet
          case rel => exact ⟨rfl, rfl⟩
        · go_wp2
          go_meet
          case rel => exact ⟨rfl, rfl⟩
        · go_wp2
          go_meet
          case rel => first | exact ⟨rfl, rfl⟩ | exact ⟨congrArg Value.bool (decide_eq_false (by omega)), rfl⟩
    case rest =>
      as_aux_lemma =>
        obtain ⟨hc1, hc2⟩ := hcut
        subst hc1 hc2
        go_wp2_with (go_at_call 44; refine (hD _).mono ?_; rintro e w' ⟨rfl, rfl⟩)
        refine bodyPost_ret (v := .tuple #[.int .u16 0, .bool false, .bool false]) (by simp [results, Try.results36, go_sem]) rfl ⟨ret_is ?_, rfl⟩
        exact H.out
  · rw [hb] at hbody
    have hbody : T.numI s.data.toList = some (v : Int) := hbody
    simp only [hdg] at hD
    clear hb hdg
    have hm0 : (0 : Int) ≤ ((min v 100000 : Nat) : Int) := by omega
    have hm1 : ((min v 100000 : Nat) : Int) ≤ 100000 := by omega
    by_cases hv : v ≤ 65535
    · have hmv : ((min v 100000 : Nat) : Int) = (v : Int) := by omega
      simp only [hmv] at hD
      clear hm0 hm1 hmv
      have hv0 : (0 : Int) ≤ v := by omega
      have hv1 : (v : Int) ≤ 65535 := by omega
      have H := hid0 (is3_in hbody (by omega) (by omega))
      clear hbody hv
      go_enter Try.func36, Try.ntmps36
      go_upto_region 4 with fail
      try simp only [Act.put, List.setIfInBounds_toArray, List.set_cons_zero, List.set_cons_succ]
      go_cut [10] (fun x wc => x = .bool false ∧ wc = w)
      case first =>
        as_aux_lemma =>
          rcases HQ.out with q | ⟨q3, q2, q | ⟨q, q'⟩ | ⟨q, q', q''⟩ | ⟨q, q', q'', q4⟩⟩
          · go_wp2
            go_meet
            case rel => exact ⟨rfl, rfl⟩
          · go_wp2
            go_meet
            case rel => exact ⟨rfl, rfl⟩
          · go_wp2
            go_meet
            case rel => exact ⟨rfl, rfl⟩
          · go_wp2
            go_meet
            case rel => exact ⟨rfl, rfl⟩
          · go_wp2
            go_meet
            case rel => first | exact ⟨rfl, rfl⟩ | exact ⟨congrArg Value.bool (decide_eq_false (by omega)), rfl⟩
      case rest =>
        as_aux_lemma =>
          obtain ⟨hc1, hc2⟩ := hcut
          subst hc1 hc2
          go_wp2_with (go_at_call 44; refine (hD _).mono ?_; rintro e w' ⟨rfl, rfl⟩)
          refine bodyPost_ret (v := .tuple #[.int .u16 (v : Int), .bool true, .bool true]) (by simp [results, Try.results36, go_sem]) rfl ⟨ret_is ?_, rfl⟩
          rw [H.out, Int.emod_eq_of_lt (by omega) (by omega)]
    · have hm2 : (65535 : Int) < ((min v 100000 : Nat) : Int) := by omega
      have H := hid0 (is3_out hbody (by omega))
      generalize min v 100000 = m at *
      clear hbody hv
      go_enter Try.func36, Try.ntmps36
      go_upto_region 4 with fail
      try simp only [Act.put, List.setIfInBounds_toArray, List.set_cons_zero, List.set_cons_succ]
      go_cut [10] (fun x wc => x = .bool false ∧ wc = w)
      case first =>
        as_aux_lemma =>
          rcases HQ.out with q | ⟨q3, q2, q | ⟨q, q'⟩ | ⟨q, q', q''⟩ | ⟨q, q', q'', q4⟩⟩
          · go_wp2
            go_meet
            case rel => exact ⟨rfl, rfl⟩
          · go_wp2
            go_meet
            case rel => exact ⟨rfl, rfl⟩
          · go_wp2
            go_meet
            case rel => exact ⟨rfl, rfl⟩
          · go_wp2
            go_meet
            case rel => exact ⟨rfl, rfl⟩
          · go_wp2
            go_meet
            case rel => first | exact ⟨rfl, rfl⟩ | exact ⟨congrArg Value.bool (decide_eq_false (by omega)), rfl⟩
      case rest =>
        as_aux_lemma =>
          obtain ⟨hc1, hc2⟩ := hcut
          subst hc1 hc2
          go_wp2_with (go_at_call 44; refine (hD _).mono ?_; rintro e w' ⟨rfl, rfl⟩)
          refine bodyPost_ret (v := .tuple #[.int .u16 0, .bool true, .bool false]) (by simp [results, Try.results36, go_sem]) rfl ⟨ret_is ?_, rfl⟩
          exact H.out
theorem rnum_minus (s : ByteArray) (h1 : 1 ≤ s.size) (hs : s.size ≤ 31) (hq : T.quo s.data.toList = false) (hc : T.hd s.data.toList = 45) (w : World) : Calls Try.prog 36 #[.string s] w fun e w' => e = .returned (is3 s.data.toList) ∧ w' = w := by
  have HQ := hid0 (quo_no s hq)
  have h0 : 0 < s.size := by omega
  have hg := hd_get s h0
  have hbody : T.numI s.data.toList = (T.body 10 (s.extract 1 s.size).data.toList).map fun n => -(n : Int) := by
    obtain ⟨x, t, e, hx⟩ := T.hd_cons hc (by omega)
    rw [T.numI_minus _ t x hq e hx, T.tail_list s x t e]
  have hD := fun W => digits_any (s.extract 1 s.size) 10 (ext1_le s hs) (by omega) (by omega) W
  rw [hc] at hg
  have g36 : ¬ (s[0].toNat : Int) = 36 := by omega
  have g37 : ¬ (s[0].toNat : Int) = 37 := by omega
  have g45 : (s[0].toNat : Int) = 45 := by omega
  clear hc hg hq
  rcases dg_body 10 (s.extract 1 s.size).data.toList with ⟨hdg, hb⟩ | ⟨v, hdg, hb⟩
  · rw [hb] at hbody
    have H := hid0 (is3_none (by rw [hbody]; rfl))
    clear hb hbody
    simp only [hdg] at hD
    go_enter Try.func36, Try.ntmps36
    go_upto_region 4 with fail
    try simp only [Act.put, List.setIfInBounds_toArray, List.set_cons_zero, List.set_cons_succ]
    go_cut [10] (fun x wc => x = .bool false ∧ wc = w)
    case first =>
      as_aux_lemma =>
        rcases HQ.out with q | ⟨q3, q2, q | ⟨q, q'⟩ | ⟨q, q', q''⟩ | ⟨q, q', q'', q4⟩⟩
        · go_wp2
          go_meet
          case rel => exact ⟨rfl, rfl⟩
        · go_wp2
          go_meet
          case rel => exact ⟨rfl, rfl⟩
        · go_wp2
          go_meet
          case rel => exact ⟨rfl, rfl⟩
        · go_wp2
          go_meet
          case rel => exact ⟨rfl, rfl⟩
        · go_wp2
          go_meet
          case rel => first | exact ⟨rfl, rfl⟩ | exact ⟨congrArg Value.bool (decide_eq_false (by omega)), rfl⟩
    case rest =>
      as_aux_lemma =>
        obtain ⟨hc1, hc2⟩ := hcut
        subst hc1 hc2
        go_wp2_with (go_at_call 44; refine (hD _).mono ?_; rintro e w' ⟨rfl, rfl⟩)
        refine bodyPost_ret (v := .tuple #[.int .u16 0, .bool false, .bool false]) (by simp [results, Try.results36, go_sem]) rfl ⟨ret_is ?_, rfl⟩
        exact H.out
  · rw [hb] at hbody
    have hbody : T.numI s.data.toList = some (-(v : Int)) := hbody
    simp only [hdg] at hD
    clear hb hdg
    have hm0 : (0 : Int) ≤ ((min v 100000 : Nat) : Int) := by omega
    have hm1 : ((min v 100000 : Nat) : Int) ≤ 100000 := by omega
    by_cases hv : v ≤ 32768
    · have hmv : ((min v 100000 : Nat) : Int) = (v : Int) := by omega
      simp only [hmv] at hD
      clear hm0 hm1 hmv
      have hv0 : (0 : Int) ≤ v := by omega
      have hv1 : (v : Int) ≤ 32768 := by omega
      have H := hid0 (is3_in hbody (by omega) (by omega))
      clear hbody hv
      go_enter Try.func36, Try.ntmps36
      go_upto_region 4 with fail
      try simp only [Act.put, List.setIfInBounds_toArray, List.set_cons_zero, List.set_cons_succ]
      go_cut [10] (fun x wc => x = .bool false ∧ wc = w)
      case first =>
        as_aux_lemma =>
          rcases HQ.out with q | ⟨q3, q2, q | ⟨q, q'⟩ | ⟨q, q', q''⟩ | ⟨q, q', q'', q4⟩⟩
          · go_wp2
            go_meet
            case rel => exact ⟨rfl, rfl⟩
          · go_wp2
            go_meet
            case rel => exact ⟨rfl, rfl⟩
          · go_wp2
            go_meet
            case rel => exact ⟨rfl, rfl⟩
          · go_wp2
            go_meet
            case rel => exact ⟨rfl, rfl⟩
          · go_wp2
            go_meet
            case rel => first | exact ⟨rfl, rfl⟩ | exact ⟨congrArg Value.bool (decide_eq_false (by omega)), rfl⟩
      case rest =>
        as_aux_lemma =>
          obtain ⟨hc1, hc2⟩ := hcut
          subst hc1 hc2
          go_wp2_with (go_at_call 44; refine (hD _).mono ?_; rintro e w' ⟨rfl, rfl⟩)
          have hmd : (65536 - (v : Int)).tmod 65536 = (-(v : Int)) % 65536 := by rw [Int.tmod_eq_emod_of_nonneg (by omega)]; omega
          refine bodyPost_ret (v := .tuple #[.int .u16 ((-(v : Int)) % 65536), .bool true, .bool true]) (by simp [results, Try.results36, go_sem]) rfl ⟨ret_is ?_, rfl⟩
          exact H.out
    · have hm2 : (32768 : Int) < ((min v 100000 : Nat) : Int) := by omega
      have H := hid0 (is3_out hbody (by omega))
      generalize min v 100000 = m at *
      clear hbody hv
      go_enter Try.func36, Try.ntmps36
      go_upto_region 4 with fail
      try simp only [Act.put, List.setIfInBounds_toArray, List.set_cons_zero, List.set_cons_succ]
      go_cut [10] (fun x wc => x = .bool false ∧ wc = w)
      case first =>
        as_aux_lemma =>
          rcases HQ.out with q | ⟨q3, q2, q | ⟨q, q'⟩ | ⟨q, q', q''⟩ | ⟨q, q', q'', q4⟩⟩
          · go_wp2
            go_meet
            case rel => exact ⟨rfl, rfl⟩
          · go_wp2
            go_meet
            case rel => exact ⟨rfl, rfl⟩
          · go_wp2
            go_meet
            case rel => exact ⟨rfl, rfl⟩
          · go_wp2
            go_meet
            case rel => exact ⟨rfl, rfl⟩
          · go_wp2
            go_meet
            case rel => first | exact ⟨rfl, rfl⟩ | exact ⟨congrArg Value.bool (decide_eq_false (by omega)), rfl⟩
      case rest =>
        as_aux_lemma =>
          obtain ⟨hc1, hc2⟩ := hcut
          subst hc1 hc2
          go_wp2_with (go_at_call 44; refine (hD _).mono ?_; rintro e w' ⟨rfl, rfl⟩)
          refine bodyPost_ret (v := .tuple #[.int .u16 0, .bool true, .bool false]) (by simp [results, Try.results36, go_sem]) rfl ⟨ret_is ?_, rfl⟩
          exact H.out
theorem rnum_plain (s : ByteArray) (h1 : 1 ≤ s.size) (hs : s.size ≤ 31) (hq : T.quo s.data.toList = false) (c1 : T.hd s.data.toList ≠ 45) (c2 : T.hd s.data.toList ≠ 36) (c3 : T.hd s.data.toList ≠ 37) (w : World) : Calls Try.prog 36 #[.string s] w fun e w' => e = .returned (is3 s.data.toList) ∧ w' = w := by
  have HQ := hid0 (quo_no s hq)
  have h0 : 0 < s.size := by omega
  have hg := hd_get s h0
  have hbody : T.numI s.data.toList = (T.body 10 s.data.toList).map fun n => (n : Int) := T.numI_else _ hq c1 c2 c3
  have hD := fun W => digits_any s 10 (by omega) (by omega) (by omega) W
  rw [hg] at c1 c2 c3
  have g36 : ¬ (s[0].toNat : Int) = 36 := by omega
  have g37 : ¬ (s[0].toNat : Int) = 37 := by omega
  have g45 : ¬ (s[0].toNat : Int) = 45 := by omega
  clear c1 c2 c3 hg hq
  rcases dg_body 10 s.data.toList with ⟨hdg, hb⟩ | ⟨v, hdg, hb⟩
  · rw [hb] at hbody
    have H := hid0 (is3_none (by rw [hbody]; rfl))
    clear hb hbody
    simp only [hdg] at hD
    go_enter Try.func36, Try.ntmps36
    go_upto_region 4 with fail
    try simp only [Act.put, List.setIfInBounds_toArray, List.set_cons_zero, List.set_cons_succ]
    go_cut [10] (fun x wc => x = .bool false ∧ wc = w)
    case first =>
      as_aux_lemma =>
        rcases HQ.out with q | ⟨q3, q2, q | ⟨q, q'⟩ | ⟨q, q', q''⟩ | ⟨q, q', q'', q4⟩⟩
        · go_wp2
          go_meet
          case rel => exact ⟨rfl, rfl⟩
        · go_wp2
          go_meet
          case rel => exact ⟨rfl, rfl⟩
        · go_wp2
          go_meet
          case rel => exact ⟨rfl, rfl⟩
        · go_wp2
          go_meet
          case rel => exact ⟨rfl, rfl⟩
        · go_wp2
          go_meet
          case rel => first | exact ⟨rfl, rfl⟩ | exact ⟨congrArg Value.bool (decide_eq_false (by omega)), rfl⟩
    case rest =>
      as_aux_lemma =>
        obtain ⟨hc1, hc2⟩ := hcut
        subst hc1 hc2
        go_wp2_with (go_at_call 44; refine (hD _).mono ?_; rintro e w' ⟨rfl, rfl⟩)
        refine bodyPost_ret (v := .tuple #[.int .u16 0, .bool false, .bool false]) (by simp [results, Try.results36, go_sem]) rfl ⟨ret_is ?_, rfl⟩
        exact H.out
  · rw [hb] at hbody
    have hbody : T.numI s.data.toList = some (v : Int) := hbody
    simp only [hdg] at hD
    clear hb hdg
    have hm0 : (0 : Int) ≤ ((min v 100000 : Nat) : Int) := by omega
    have hm1 : ((min v 100000 : Nat) : Int) ≤ 100000 := by omega
    by_cases hv : v ≤ 65535
    · have hmv : ((min v 100000 : Nat) : Int) = (v : Int) := by omega
      simp only [hmv] at hD
      clear hm0 hm1 hmv
      have hv0 : (0 : Int) ≤ v := by omega
      have hv1 : (v : Int) ≤ 65535 := by omega
      have H := hid0 (is3_in hbody (by omega) (by omega))
      clear hbody hv
      go_enter Try.func36, Try.ntmps36
      go_upto_region 4 with fail
      try simp only [Act.put, List.setIfInBounds_toArray, List.set_cons_zero, List.set_cons_succ]
      go_cut [10] (fun x wc => x = .bool false ∧ wc = w)
      case first =>
        as_aux_lemma =>
          rcases HQ.out with q | ⟨q3, q2, q | ⟨q, q'⟩ | ⟨q, q', q''⟩ | ⟨q, q', q'', q4⟩⟩
          · go_wp2
            go_meet
            case rel => exact ⟨rfl, rfl⟩
          · go_wp2
            go_meet
            case rel => exact ⟨rfl, rfl⟩
          · go_wp2
            go_meet
            case rel => exact ⟨rfl, rfl⟩
          · go_wp2
            go_meet
            case rel => exact ⟨rfl, rfl⟩
          · go_wp2
            go_meet
            case rel => first | exact ⟨rfl, rfl⟩ | exact ⟨congrArg Value.bool (decide_eq_false (by omega)), rfl⟩
      case rest =>
        as_aux_lemma =>
          obtain ⟨hc1, hc2⟩ := hcut
          subst hc1 hc2
          go_wp2_with (go_at_call 44; refine (hD _).mono ?_; rintro e w' ⟨rfl, rfl⟩)
          refine bodyPost_ret (v := .tuple #[.int .u16 (v : Int), .bool true, .bool true]) (by simp [results, Try.results36, go_sem]) rfl ⟨ret_is ?_, rfl⟩
          rw [H.out, Int.emod_eq_of_lt (by omega) (by omega)]
    · have hm2 : (65535 : Int) < ((min v 100000 : Nat) : Int) := by omega
      have H := hid0 (is3_out hbody (by omega))
      generalize min v 100000 = m at *
      clear hbody hv
      go_enter Try.func36, Try.ntmps36
      go_upto_region 4 with fail
      try simp only [Act.put, List.setIfInBounds_toArray, List.set_cons_zero, List.set_cons_succ]
      go_cut [10] (fun x wc => x = .bool false ∧ wc = w)
      case first =>
        as_aux_lemma =>
          rcases HQ.out with q | ⟨q3, q2, q | ⟨q, q'⟩ | ⟨q, q', q''⟩ | ⟨q, q', q'', q4⟩⟩
          · go_wp2
            go_meet
            case rel => exact ⟨rfl, rfl⟩
          · go_wp2
            go_meet
            case rel => exact ⟨rfl, rfl⟩
          · go_wp2
            go_meet
            case rel => exact ⟨rfl, rfl⟩
          · go_wp2
            go_meet
            case rel => exact ⟨rfl, rfl⟩
          · go_wp2
            go_meet
            case rel => first | exact ⟨rfl, rfl⟩ | exact ⟨congrArg Value.bool (decide_eq_false (by omega)), rfl⟩
      case rest =>
        as_aux_lemma =>
          obtain ⟨hc1, hc2⟩ := hcut
          subst hc1 hc2
          go_wp2_with (go_at_call 44; refine (hD _).mono ?_; rintro e w' ⟨rfl, rfl⟩)
          refine bodyPost_ret (v := .tuple #[.int .u16 0, .bool true, .bool false]) (by simp [results, Try.results36, go_sem]) rfl ⟨ret_is ?_, rfl⟩
          exact H.out
theorem rnum_any (s : ByteArray) (h1 : 1 ≤ s.size) (hs : s.size ≤ 31) (w : World) : Calls Try.prog 36 #[.string s] w fun e w' => e = .returned (is3 s.data.toList) ∧ w' = w := by
  cases hq : T.quo s.data.toList with
  | true => exact rnum_quo s hq w
  | false =>
    by_cases c2 : T.hd s.data.toList = 36
    · exact rnum_dollar s h1 hs hq c2 w
    · by_cases c3 : T.hd s.data.toList = 37
      · exact rnum_percent s h1 hs hq c3 w
      · by_cases c1 : T.hd s.data.toList = 45
        · exact rnum_minus s h1 hs hq c1 w
        · exact rnum_plain s h1 hs hq c1 c2 c3 w
end Go.Proofs.Ytokhlcioekbjdaa.K
