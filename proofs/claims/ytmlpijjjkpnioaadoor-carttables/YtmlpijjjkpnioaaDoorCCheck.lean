import Derived.Test.YtmlpijjjkpnioaaDoorCKit
/-! 7.1: Check. -/
namespace Go.Proofs.YtmlpijjjkpnioaaDoor.C
open Go.RowKit
open Go.Proofs
open Go.Proofs.YtmlpijjjkpnioaaDoor.K
set_option linter.unusedVariables false
set_option linter.unusedSimpArgs false
set_option maxHeartbeats 1000000
set_option maxRecDepth 100000
theorem codeMay_any (p : Option Addr) (n c : Nat) (l : List UInt8) (hn : l.length = n) (hl : n ≤ room) (w : World) :
    Calls Tryd.prog 31 #[.slice p n c] w fun e w' => e = .returned (.bool (codeB l)) ∧ w' = w := by
  unfold room at hl
  have ht : (n : Int).tmod 2 = ((n % 2 : Nat) : Int) := (Int.ofNat_tmod n 2).symm
  by_cases h1 : n % 2 = 0
  · by_cases h2 : n ≤ 16384
    · have e : codeB l = true := by simp [codeB]; omega
      have i1 : ((n : Int).tmod 2 == 0) = true := by rw [ht, h1]; rfl
      have i2 : (n : Int) ≤ 16384 := by omega
      rw [e]
      clear ht
      go_enter Tryd.func31, Tryd.ntmps31
      go_wp2
      go_ret
      exact ⟨rfl, rfl⟩
    · have e : codeB l = false := by simp [codeB]; omega
      have i1 : ((n : Int).tmod 2 == 0) = true := by rw [ht, h1]; rfl
      have i2 : decide ((n : Int) ≤ 16384) = false := by simp; omega
      rw [e]
      clear ht
      go_enter Tryd.func31, Tryd.ntmps31
      go_wp2
      go_ret
      exact ⟨rfl, rfl⟩
  · have e : codeB l = false := by simp [codeB]; omega
    have i1 : ((n : Int).tmod 2 == 0) = false := by rw [ht]; simp; omega
    rw [e]
    clear ht
    go_enter Tryd.func31, Tryd.ntmps31
    go_wp2
    go_ret
    exact ⟨rfl, rfl⟩
theorem heightMay_any (x : Int) (w : World) :
    Calls Tryd.prog 50 #[.int .i64 x] w fun e w' => e = .returned (.bool (hgt x)) ∧ w' = w := by
  by_cases h1 : 0 ≤ x
  · by_cases h2 : x ≤ 256
    · have e : hgt x = true := by simp [hgt]; omega
      rw [e]
      go_enter Tryd.func50, Tryd.ntmps50
      go_wp2
      go_ret
      exact ⟨rfl, rfl⟩
    · have e : hgt x = false := by simp [hgt]; omega
      have i2 : decide (x ≤ 256) = false := by simp; omega
      rw [e]
      go_enter Tryd.func50, Tryd.ntmps50
      go_wp2
      go_ret
      exact ⟨rfl, rfl⟩
  · have e : hgt x = false := by simp [hgt]; omega
    have i1 : decide (0 ≤ x) = false := by simp; omega
    rw [e]
    go_enter Tryd.func50, Tryd.ntmps50
    go_wp2
    go_ret
    exact ⟨rfl, rfl⟩
theorem dataMay_any (p : Option Addr) (n c : Nat) (l : List UInt8) (hn : l.length = n) (w : World) :
    Calls Tryd.prog 51 #[.slice p n c] w fun e w' => e = .returned (.bool (datOk l)) ∧ w' = w := by
  by_cases h2 : n ≤ 16384
  · have e : datOk l = true := by simp [datOk]; omega
    have i2 : (n : Int) ≤ 16384 := by omega
    rw [e]
    go_enter Tryd.func51, Tryd.ntmps51
    go_wp2
    go_ret
    exact ⟨rfl, rfl⟩
  · have e : datOk l = false := by simp [datOk]; omega
    have i2 : decide ((n : Int) ≤ 16384) = false := by simp; omega
    rw [e]
    go_enter Tryd.func51, Tryd.ntmps51
    go_wp2
    go_ret
    exact ⟨rfl, rfl⟩
theorem banksMay_any (p : Option Addr) (c : Nat) (bs : List Bk) (hl : bs.length ≤ room) (w : World) (h : BnS w p bs) :
    Calls Tryd.prog 33 #[.slice p bs.length c] w fun e w' => e = .returned (.bool (bankG (-1) bs)) ∧ Below w.heap.size w w' := by
  unfold room at hl
  go_enter Tryd.func33, Tryd.ntmps33
  go_wp2
  go_loopw [3, 8] (fun a i wr => ∃ (k : Nat) (q : Int), k ≤ bs.length ∧ a = .int .i64 q ∧ i = .int .i64 (k : Int) ∧ bankG (-1) bs = bankG q (bs.drop k) ∧ Below w.heap.size w wr) (fun _ i _ => bs.length - (intOf i).toNat)
  case atStart => exact ⟨0, -1, by omega, rfl, rfl, rfl, Below.refl _ _⟩
  case round =>
    obtain ⟨k, q, hk, rfl, rfl, hG0, hB⟩ := hrel
    have hG := hid hG0
    clear hG0
    by_cases hlt : k < bs.length
    · have i1 : (k : Int) < bs.length := by omega
      obtain ⟨b, o, dv, rfl, e1, e2, e3, e4⟩ := h.below hB k bs[k] (List.getElem?_eq_getElem hlt)
      have hd : bs.drop k = bs[k] :: bs.drop (k + 1) := by rw [List.drop_eq_getElem_cons hlt]
      have hG := hG.out
      rw [hd] at hG
      generalize bs[k] = t at *
      obtain ⟨n, l⟩ := t
      simp only [bankG] at hG e1 e2 e3 e4
      have hL : l.length ≤ room := e4
      obtain ⟨dp, dc, rfl, _⟩ := e3.ex
      unfold room at hL
      have hdm := fun W => dataMay_any dp l.length dc l rfl W
      have HB : Hid _ := hB.alloc hB.size (Obj.cells #[.int .i64 n, .slice dp l.length dc] 82)
      have HG := hid hG
      clear hG hd e3 hB e4 h
      by_cases c1 : n ≤ q
      · have d1 : decide (n ≤ q) = true := by simpa using c1
        have hf : bankG (-1) bs = false := by rw [HG.out]; simp; intro h; omega
        go_wp2
        go_ret
        exact ⟨by first | rfl | (rw [hf]; rfl), HB.out⟩
      have d1 : decide (n ≤ q) = false := by simpa using c1
      by_cases c2 : 16 ≤ n
      · have d2 : decide (16 ≤ n) = true := by simpa using c2
        have hf : bankG (-1) bs = false := by rw [HG.out]; simp; intro h; omega
        go_wp2
        go_ret
        exact ⟨by first | rfl | (rw [hf]; rfl), HB.out⟩
      have d2 : decide (16 ≤ n) = false := by simpa using c2
      by_cases c3 : datOk l = true
      · have HN : Hid (bankG (-1) bs = bankG n (bs.drop (k + 1))) := by
          have : (decide (q < n ∧ n < 16) && datOk l) = true := by rw [c3]; simp; omega
          have e := HG.out; rw [this] at e; exact hid (by simpa using e)
        rw [c3] at hdm
        clear HG c3
        go_wp2_with (first | (go_at_call 51; refine (hdm _).mono ?_; rintro e w1 ⟨rfl, rfl⟩))
        go_roundw
        case rel =>
          first
            | exact ⟨k + 1, n, by omega, rfl, by go_num, HN.out, HB.out⟩
            | ((repeat apply Exists.intro); refine ⟨⟨k + 1, n, by omega, rfl, ?_, HN.out, HB.out⟩, rfl⟩; go_num)
        case measure => simp [intOf]; omega
      · have c3' : datOk l = false := by simpa using c3
        have hf : bankG (-1) bs = false := by rw [HG.out, c3']; simp
        rw [c3'] at hdm
        clear HG c3 c3'
        go_wp2_with (first | (go_at_call 51; refine (hdm _).mono ?_; rintro e w1 ⟨rfl, rfl⟩))
        go_ret
        exact ⟨by first | rfl | (rw [hf]; rfl), HB.out⟩
    · obtain rfl : k = bs.length := by omega
      have hf : bankG (-1) bs = true := by rw [hG.out, List.drop_length]; rfl
      clear hG
      go_wp2
      go_ret
      exact ⟨by first | rfl | (rw [hf]; rfl), hB⟩
end Go.Proofs.YtmlpijjjkpnioaaDoor.C
