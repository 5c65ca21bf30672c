import Derived.Test.YtmlpijjjkpnioaaDoorCEnc
import Derived.Deep.RegionWith
/-! Decode's leaves: bytes.Equal, bytes.HasPrefix, rowMayBe, must, readCode, readData. -/
namespace Go.Proofs.YtmlpijjjkpnioaaDoor.C
open Go.RowKit
open Go.Proofs
open Go.Proofs.YtmlpijjjkpnioaaDoor.K
set_option linter.unusedVariables false
set_option linter.unusedSimpArgs false
set_option maxHeartbeats 2000000
set_option maxRecDepth 100000
theorem ba_loop (bs : ByteArray) : ∀ (n i : Nat) (r : List UInt8), bs.size - i = n → ByteArray.toList.loop bs i r = r.reverse ++ bs.data.toList.drop i := by
  intro n
  induction n with
  | zero =>
    intro i r h
    unfold ByteArray.toList.loop
    rw [if_neg (by omega), List.drop_of_length_le (by rw [Array.length_toList]; show bs.size ≤ i; omega)]
    simp
  | succ n ih =>
    intro i r h
    have hi : i < bs.size := by omega
    have hd : i < bs.data.toList.length := by rw [Array.length_toList]; exact hi
    unfold ByteArray.toList.loop
    rw [if_pos hi, ih (i + 1) _ (by omega), List.drop_eq_getElem_cons hd]
    have hg : bs.get! i = bs.data.toList[i] := by
      show bs.data[i]! = _
      have hi' : i < bs.data.size := hi
      rw [Array.getElem_toList]; exact getElem!_pos bs.data i hi'
    rw [hg]
    simp
theorem ba_list (l : List UInt8) : (⟨l.toArray⟩ : ByteArray).toList = l := by
  unfold ByteArray.toList
  rw [ba_loop _ _ 0 [] rfl]; simp
theorem equal_any (v u : Value) (l m : List UInt8) (hl : l.length ≤ room) (hm : m.length ≤ room) (w : World) (h : Sl w v l) (hu : Sl w u m) :
    Calls Tryd.prog 52 #[v, u] w fun e w' => e = .returned (.bool (decide (l = m))) ∧ w' = w := by
  have c1 := h.conv (by unfold maxLen; unfold room at hl; omega)
  have c2 := hu.conv (by unfold maxLen; unfold room at hm; omega)
  obtain ⟨p, c, rfl, _⟩ := h.ex
  obtain ⟨q, d, rfl, _⟩ := hu.ex
  by_cases e : l = m
  · subst e
    simp only [decide_true]
    generalize (⟨l.toArray⟩ : ByteArray) = s at *
    go_enter Tryd.func52, Tryd.ntmps52
    go_wp2
    go_ret
    exact ⟨rfl, rfl⟩
  · have hne : ¬ (⟨l.toArray⟩ : ByteArray).toList = (⟨m.toArray⟩ : ByteArray).toList := by rw [ba_list, ba_list]; exact e
    simp only [e, decide_false]
    generalize (⟨l.toArray⟩ : ByteArray) = s at *
    generalize (⟨m.toArray⟩ : ByteArray) = t at *
    go_enter Tryd.func52, Tryd.ntmps52
    go_wp2
    go_ret
    exact ⟨by first | rfl | simp [hne], rfl⟩
theorem prefix_any (v u : Value) (l m : List UInt8) (hl : l.length ≤ room) (hm : m.length ≤ room) (w : World) (h : Sl w v l) (hu : Sl w u m) :
    Calls Tryd.prog 34 #[v, u] w fun e w' => e = .returned (.bool (decide (l.take m.length = m))) ∧ w' = w := by
  have hs := h
  obtain ⟨p, c, rfl, _⟩ := h.ex
  have hlc : l.length ≤ c := by
    rcases hs with ⟨e, rfl⟩ | ⟨_, _, e, hc, _⟩
    · cases e; simp
    · cases e; exact hc
  by_cases hlt : l.length < m.length
  · have hd : decide (l.take m.length = m) = false := by
      simp only [decide_eq_false_iff_not]
      intro e
      have := congrArg List.length e
      simp at this; omega
    have i1 : decide ((m.length : Int) ≤ l.length) = false := by simp; omega
    rw [hd]
    obtain ⟨q, d, rfl, _⟩ := hu.ex
    clear hd
    go_enter Tryd.func34, Tryd.ntmps34
    go_wp2
    go_ret
    exact ⟨rfl, rfl⟩
  · have hst := hs.take m.length (by omega)
    have heq := equal_any _ u (l.take m.length) m (by simp; omega) hm w hst hu
    have s1 := slice_to w p l.length c m.length (m.length : Int) rfl (by omega)
    have i1 : decide ((m.length : Int) ≤ l.length) = true := by simp; omega
    have i2 : (m.length : Int) ≤ l.length := by omega
    have i3 : (m.length : Int) ≤ c := by omega
    obtain ⟨q, d, rfl, _⟩ := hu.ex
    generalize decide (l.take m.length = m) = t at *
    go_enter Tryd.func34, Tryd.ntmps34
    go_wp2_with (first | (go_at_call 52; refine heq.mono ?_; rintro e w1 ⟨rfl, rfl⟩))
    go_ret
    exact ⟨rfl, rfl⟩
theorem must_true (w : World) : Calls Tryd.prog 63 #[.bool true] w fun e w' => e = .returned (.tuple #[]) ∧ w' = w := by
  go_enter Tryd.func63, Tryd.ntmps63
  go_wp2
  go_end0
  exact ⟨rfl, rfl⟩
/-- What a section that may not be ends in. -/
def refused : List PanicEntry := [{ v := .iface 28 (.int .i64 73), recovered := false }]
theorem must_false (w : World) : Calls Tryd.prog 63 #[.bool false] w fun e w' => e = .panicked refused ∧ w' = w := by
  go_enter Tryd.func63, Tryd.ntmps63
  go_wp2
  simp [bodyPost, refused]
theorem readCode_ok (v : Value) (l : List UInt8) (hl : l.length ≤ room) (w : World) (h : Sl w v l) (hc : codeB l = true) :
    Calls Tryd.prog 58 #[v] w fun e w' => ∃ u, e = .returned u ∧ Row w' w.heap.size u l ∧ Below w.heap.size w w' := by
  have hcl := clone_any v l hl w h
  obtain ⟨p, c, rfl, _⟩ := h.ex
  have h1 := codeMay_any p l.length c l rfl hl w
  have h2 := must_true w
  rw [hc] at h1
  go_enter Tryd.func58, Tryd.ntmps58
  go_wp2_with (first | (go_at_call 31; refine h1.mono ?_; rintro e w1 ⟨rfl, rfl⟩) | (go_at_call 63; refine h2.mono ?_; rintro e w1 ⟨rfl, rfl⟩) | (go_at_call 42; refine hcl.mono ?_; rintro e w1 ⟨u, rfl, hu, hb⟩))
  go_ret
  exact ⟨_, rfl, hu, hb⟩
theorem readCode_no (v : Value) (l : List UInt8) (hl : l.length ≤ room) (w : World) (h : Sl w v l) (hc : codeB l = false) :
    Calls Tryd.prog 58 #[v] w fun e w' => e = .panicked refused ∧ w' = w := by
  obtain ⟨p, c, rfl, _⟩ := h.ex
  have h1 := codeMay_any p l.length c l rfl hl w
  have h2 := must_false w
  rw [hc] at h1
  go_enter Tryd.func58, Tryd.ntmps58
  go_wp2_with (first | (go_at_call 31; refine h1.mono ?_; rintro e w1 ⟨rfl, rfl⟩) | (go_at_call 63; refine h2.mono ?_; rintro e w1 ⟨rfl, rfl⟩))
  simp [bodyPost]
theorem readData_ok (v : Value) (l : List UInt8) (hl : l.length ≤ room) (w : World) (h : Sl w v l) (hc : datOk l = true) :
    Calls Tryd.prog 60 #[v] w fun e w' => ∃ u, e = .returned u ∧ Row w' w.heap.size u l ∧ Below w.heap.size w w' := by
  have hcl := clone_any v l hl w h
  obtain ⟨p, c, rfl, _⟩ := h.ex
  have h1 := dataMay_any p l.length c l rfl w
  have h2 := must_true w
  rw [hc] at h1
  go_enter Tryd.func60, Tryd.ntmps60
  go_wp2_with (first | (go_at_call 51; refine h1.mono ?_; rintro e w1 ⟨rfl, rfl⟩) | (go_at_call 63; refine h2.mono ?_; rintro e w1 ⟨rfl, rfl⟩) | (go_at_call 42; refine hcl.mono ?_; rintro e w1 ⟨u, rfl, hu, hb⟩))
  go_ret
  exact ⟨_, rfl, hu, hb⟩
theorem readData_no (v : Value) (l : List UInt8) (hl : l.length ≤ room) (w : World) (h : Sl w v l) (hc : datOk l = false) :
    Calls Tryd.prog 60 #[v] w fun e w' => e = .panicked refused ∧ w' = w := by
  obtain ⟨p, c, rfl, _⟩ := h.ex
  have h1 := dataMay_any p l.length c l rfl w
  have h2 := must_false w
  rw [hc] at h1
  go_enter Tryd.func60, Tryd.ntmps60
  go_wp2_with (first | (go_at_call 51; refine h1.mono ?_; rintro e w1 ⟨rfl, rfl⟩) | (go_at_call 63; refine h2.mono ?_; rintro e w1 ⟨rfl, rfl⟩))
  simp [bodyPost]
theorem rowMay_any (i : Nat) (hi : i < 1000) (k n : UInt8) (last : Int) (w : World) :
    Calls Tryd.prog 56 #[.int .i64 (i : Int), .int .u8 (k.toNat : Int), .int .i64 (n.toNat : Int), .int .i64 last] w fun e w' => e = .returned (.bool (rowOk i k n last)) ∧ w' = w := by
  have key : ∀ (c : Bool), rowOk i k n last = c → Calls Tryd.prog 56 #[.int .i64 (i : Int), .int .u8 (k.toNat : Int), .int .i64 (n.toNat : Int), .int .i64 last] w fun e w' => e = .returned (.bool c) ∧ w' = w := by
    intro c hc
    have ek : ∀ (a : UInt8), (k = a) ↔ (k.toNat = a.toNat) := fun a => ⟨fun h => by rw [h], fun h => UInt8.toNat_inj.1 h⟩
    have en : (n = 0) ↔ (n.toNat = 0) := ⟨fun h => by rw [h]; rfl, fun h => UInt8.toNat_inj.1 h⟩
    unfold rowOk at hc
    simp only [ek 1, ek 2, ek 3, en] at hc
    simp only [show (1 : UInt8).toNat = 1 from rfl, show (2 : UInt8).toNat = 2 from rfl, show (3 : UInt8).toNat = 3 from rfl] at hc
    clear ek en
    generalize k.toNat = kk at *
    generalize n.toNat = nn at *
    rcases Nat.lt_or_ge i 2 with h2 | h2
    · have h01 : i = 0 ∨ i = 1 := by omega
      rcases h01 with rfl | rfl
      · simp only [if_true] at hc
        by_cases h1 : kk = 1
        · by_cases h3 : nn = 0
          · obtain rfl : c = true := by rw [← hc]; simp [h1, h3]
            subst h1 h3
            go_enter Tryd.func56, Tryd.ntmps56
            go_wp2
            go_ret
            exact ⟨rfl, rfl⟩
          · obtain rfl : c = false := by rw [← hc]; simp [h3]
            have d2 : ((nn : Int) == 0) = false := by simp; omega
            subst h1
            clear hc
            go_enter Tryd.func56, Tryd.ntmps56
            go_wp2
            go_ret
            exact ⟨rfl, rfl⟩
        · obtain rfl : c = false := by rw [← hc]; simp [h1]
          have d1 : ((kk : Int) == 1) = false := by simp; omega
          clear hc
          go_enter Tryd.func56, Tryd.ntmps56
          go_wp2
          go_ret
          exact ⟨rfl, rfl⟩
      · simp only [show ¬ (1 = 0) by decide, if_false, if_true] at hc
        by_cases h1 : kk = 2
        · by_cases h3 : nn = 0
          · obtain rfl : c = true := by rw [← hc]; simp [h1, h3]
            subst h1 h3
            go_enter Tryd.func56, Tryd.ntmps56
            go_wp2
            go_ret
            exact ⟨rfl, rfl⟩
          · obtain rfl : c = false := by rw [← hc]; simp [h3]
            have d2 : ((nn : Int) == 0) = false := by simp; omega
            subst h1
            clear hc
            go_enter Tryd.func56, Tryd.ntmps56
            go_wp2
            go_ret
            exact ⟨rfl, rfl⟩
        · obtain rfl : c = false := by rw [← hc]; simp [h1]
          have d1 : ((kk : Int) == 2) = false := by simp; omega
          clear hc
          go_enter Tryd.func56, Tryd.ntmps56
          go_wp2
          go_ret
          exact ⟨rfl, rfl⟩
    · rw [if_neg (by omega), if_neg (by omega)] at hc
      have d01 : ((i : Int) == 0) = false := by simp; omega
      have d02 : ((i : Int) == 1) = false := by simp; omega
      by_cases h1 : kk = 3
      · by_cases h3 : last < (nn : Int)
        · by_cases h4 : nn < 16
          · obtain rfl : c = true := by rw [← hc]; simp [h1, h3, h4]
            have d3 : decide (last < (nn : Int)) = true := by simpa using h3
            have d4 : decide (nn < 16) = true := by simpa using h4
            have d5 : (nn : Int) < 16 := by omega
            subst h1
            clear hc
            go_enter Tryd.func56, Tryd.ntmps56
            go_wp2
            go_ret
            exact ⟨rfl, rfl⟩
          · obtain rfl : c = false := by rw [← hc]; simp; omega
            have d3 : decide (last < (nn : Int)) = true := by simpa using h3
            have d5 : decide ((nn : Int) < 16) = false := by simp; omega
            subst h1
            clear hc
            go_enter Tryd.func56, Tryd.ntmps56
            go_wp2
            go_ret
            exact ⟨rfl, rfl⟩
        · obtain rfl : c = false := by rw [← hc]; simp [h3]
          have d3 : decide (last < (nn : Int)) = false := by simpa using h3
          subst h1
          clear hc
          go_enter Tryd.func56, Tryd.ntmps56
          go_wp2
          go_ret
          exact ⟨rfl, rfl⟩
      · obtain rfl : c = false := by rw [← hc]; simp [h1]
        have d1 : ((kk : Int) == 3) = false := by simp; omega
        clear hc
        go_enter Tryd.func56, Tryd.ntmps56
        go_wp2
        go_ret
        exact ⟨rfl, rfl⟩
  exact key _ rfl
end Go.Proofs.YtmlpijjjkpnioaaDoor.C
