import Derived.Test.YtcmaccefjlgbfaaImageKit
/-! whole, Restore. -/
namespace Go.Proofs.Ytcmaccefjlgbfaa
open Go.RowKit
open Go.Proofs
set_option linter.unusedVariables false
set_option linter.unusedSimpArgs false
def allF (bs : List (Int × List UInt8)) : Bool := bs.all fun t => t.2.length == 16384
def whB (bs : List (Int × List UInt8)) (ram scr : List UInt8) (ch : Int) : Bool := allF bs && (ram.length == 16384) && (scr.length == 3072) && decide (ch < 16)
theorem allF_at (bs : List (Int × List UInt8)) (k : Nat) (hk : k < bs.length) (h : (bs[k]).2.length ≠ 16384) : allF bs = false := by
  rw [Bool.eq_false_iff]; intro c
  rw [allF, List.all_eq_true] at c
  exact h (by simpa using c _ (List.getElem_mem hk))
theorem allF_all (bs : List (Int × List UInt8)) (h : ∀ (j : Nat) t, bs[j]? = some t → t.2.length = 16384) : allF bs = true := by
  rw [allF, List.all_eq_true]
  intro t ht
  obtain ⟨j, hj, e⟩ := List.mem_iff_getElem.1 ht
  simpa using h j t (by rw [List.getElem?_eq_getElem hj, e])
set_option maxHeartbeats 2000000
set_option maxRecDepth 100000
theorem whole_any (p : Option Addr) (c : Nat) (bs : List (Int × List UInt8)) (hl : bs.length ≤ room) (rp sp : Option Addr) (rn rc sn sc' : Nat) (m : MS) (w : World) (h : BnS w p bs) (ram scr : List UInt8) (hrn : rn = ram.length) (hsn : sn = scr.length) :
    Calls Try.prog 47 #[.agg (imgC (.slice p bs.length c) (.slice rp rn rc) (.slice sp sn sc') m).toArray] w fun e w' => e = .returned (.bool (whB bs ram scr m.ch)) ∧ Below w.heap.size w w' := by
  unfold room at hl
  subst hrn hsn
  obtain ⟨w1, hw1⟩ : ∃ w1, w1 = w.alloc (.cells (imgC (.slice p bs.length c) (.slice rp ram.length rc) (.slice sp scr.length sc') m).toArray 48) := ⟨_, rfl⟩
  have hB1 : Below w.heap.size w w1 := by rw [hw1]; exact (Below.refl _ w).alloc (Nat.le_refl _) _
  have hx : w1.heap[w.heap.size]? = some (.cells (imgC (.slice p bs.length c) (.slice rp ram.length rc) (.slice sp scr.length sc') m).toArray 48 (0, 0)) := by rw [hw1]; exact heap_alloc_new w _
  have hz : w1.heap.size = w.heap.size + 1 := by rw [hw1]; simp
  have c0 := cell_of w1 _ 0 _ 48 _ hx rfl
  have HB1 : Hid _ := hB1
  have HX : Hid _ := hx
  have HZ : Hid _ := hz
  clear hB1 hx hz
  unfold imgC at hw1 ⊢
  go_enter Try.func47, Try.ntmps47
  go_wp2_with fail
  rw [← hw1]
  clear hw1
  go_wp2
  go_loopw [8] (fun i wr => ∃ k : Nat, k ≤ bs.length ∧ i = .int .i64 (k : Int) ∧ (∀ (j : Nat) t, j < k → bs[j]? = some t → t.2.length = 16384) ∧ Below w1.heap.size w1 wr) (fun i _ => bs.length - (intOf i).toNat)
  case atStart => exact ⟨0, by omega, rfl, fun j t hj => by omega, Below.refl _ _⟩
  case round =>
    obtain ⟨k, hk, rfl, hA, hB⟩ := hrel
    have hBw : Below w.heap.size w wr := HB1.out.trans (hB.mono HB1.out.size)
    by_cases hlt : k < bs.length
    · have i1 : (k : Int) < bs.length := by omega
      obtain ⟨b, o, dv, rfl, e1, e2, e3, e4⟩ := h.below hBw k bs[k] (List.getElem?_eq_getElem hlt)
      obtain ⟨dp, dc, rfl, _⟩ := e3.ex
      unfold room at e4
      have hAf := allF_at bs k hlt
      have hA2 : (bs[k]).2.length = 16384 → ∀ (j : Nat) t, j < k + 1 → bs[j]? = some t → t.2.length = 16384 := by
        intro c j t hj ht
        by_cases e : j = k
        · subst e; rw [List.getElem?_eq_getElem hlt] at ht; cases ht; exact c
        · exact hA j t (by omega) ht
      have hB2 : Below w1.heap.size w1 (wr.alloc (Obj.cells #[.int .i64 (bs[k]).1, .slice dp (bs[k]).2.length dc] 37)) := hB.alloc hB.size _
      have hB3 : Below w.heap.size w (wr.alloc (Obj.cells #[.int .i64 (bs[k]).1, .slice dp (bs[k]).2.length dc] 37)) := hBw.alloc hBw.size _
      clear e3 hA hB hBw
      generalize hn : (bs[k]).1 = n at *
      generalize hL : (bs[k]).2.length = L at *
      have HA : Hid _ := hA2
      have HB : Hid _ := hB2
      have HB3 : Hid _ := hB3
      have HF : Hid _ := hAf
      clear hA2 hB2 hB3 hAf hL hn
      by_cases c1 : L = 16384
      · have d1 : ((L : Int) != 16384) = false := by simp; omega
        have HA3 : Hid _ := HA.out c1
        clear c1 HA HF
        go_wp2
        go_roundw
        case rel =>
          first
            | exact ⟨k + 1, by omega, by go_num, HA3.out, HB.out⟩
            | ((repeat apply Exists.intro); refine ⟨⟨k + 1, by omega, ?_, HA3.out, HB.out⟩, rfl⟩; go_num)
        case measure => simp [intOf]; omega
      · have d1 : ((L : Int) != 16384) = true := by simp; omega
        have f1 : whB bs ram scr m.ch = false := by simp [whB, HF.out c1]
        clear c1 HA HF
        go_wp2
        go_ret
        exact ⟨by rw [f1]; rfl, HB3.out⟩
    · obtain rfl : k = bs.length := by omega
      have hAf := allF_all bs (fun j t ht => hA j t (List.getElem?_eq_some_iff.1 ht).1 ht)
      have hx2 : wr.heap[w.heap.size]? = _ := (hB.block _ (by rw [HZ.out]; omega)).trans HX.out
      have k1 := cell_of wr _ 1 _ 48 _ hx2 rfl
      have k2 := cell_of wr _ 2 _ 48 _ hx2 rfl
      have k3 := cell_of wr _ 3 _ 48 _ hx2 rfl
      have HBw : Hid _ := hBw
      clear hx2 hA hB hBw
      have hw' : whB bs ram scr m.ch = ((ram.length == 16384) && (scr.length == 3072) && decide (m.ch < 16)) := by simp [whB, hAf]
      have HW : Hid _ := hw'
      clear hAf hw'
      by_cases q1 : ram.length = 16384
      · by_cases q2 : scr.length = 3072
        · by_cases q3 : m.ch < 16
          · have d1 : ((ram.length : Int) == 16384) = true := by simp; omega
            have d2 : ((scr.length : Int) == 3072) = true := by simp; omega
            have d3 : decide (m.ch < 16) = true := by simpa using q3
            have d4 : (ram.length == 16384) = true := by simpa using q1
            have d5 : (scr.length == 3072) = true := by simpa using q2
            clear q1 q2 q3
            go_wp2
            go_ret
            (refine ⟨congrArg Ending.returned (congrArg Value.bool ?_), HBw.out⟩; rw [HW.out]; simp [d3, d4, d5])
          · have d1 : ((ram.length : Int) == 16384) = true := by simp; omega
            have d2 : ((scr.length : Int) == 3072) = true := by simp; omega
            have d3 : decide (m.ch < 16) = false := by simpa using q3
            clear q1 q2 q3
            go_wp2
            go_ret
            (refine ⟨congrArg Ending.returned (congrArg Value.bool ?_), HBw.out⟩; rw [HW.out]; simp [d3])
        · have d1 : ((ram.length : Int) == 16384) = true := by simp; omega
          have d2 : ((scr.length : Int) == 3072) = false := by simp; omega
          have d5 : (scr.length == 3072) = false := by simpa using q2
          clear q1 q2
          go_wp2
          go_ret
          (refine ⟨congrArg Ending.returned (congrArg Value.bool ?_), HBw.out⟩; rw [HW.out]; simp [d5])
      · have d1 : ((ram.length : Int) == 16384) = false := by simp; omega
        have d4 : (ram.length == 16384) = false := by simpa using q1
        clear q1
        go_wp2
        go_ret
        (refine ⟨congrArg Ending.returned (congrArg Value.bool ?_), HBw.out⟩; rw [HW.out]; simp [d4])
end Go.Proofs.Ytcmaccefjlgbfaa
