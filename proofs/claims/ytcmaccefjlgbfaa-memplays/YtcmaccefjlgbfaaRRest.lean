import Derived.Test.YtcmaccefjlgbfaaRCopy
import Derived.Test.YtcmaccefjlgbfaaWhole
/-! The reference: Restore. -/
namespace Go.Proofs.Ytcmaccefjlgbfaa
open Go.RowKit
open Go.Proofs
set_option linter.unusedVariables false
set_option linter.unusedSimpArgs false
theorem allF_take (bs : List (Int × List UInt8)) (k : Nat) (hk : k < bs.length) : allF (bs.take (k + 1)) = (allF (bs.take k) && ((bs[k]).2.length == 16384)) := by
  unfold allF; rw [List.take_succ_eq_append_getElem hk, List.all_append]; simp only [List.all_cons, List.all_nil, Bool.and_true]
set_option maxHeartbeats 4000000
set_option maxRecDepth 100000
theorem rrest_a (p : Option Addr) (c : Nat) (bs : List (Int × List UInt8)) (hl : bs.length * 32 ≤ room) (rp sp : Option Addr) (rc sc' : Nat) (m : MS) (w : World) (h : BnS w p bs) (ram scr : List UInt8) (hm : mayB (-1) bs = false) :
    Calls Try.prog 28 #[.agg (imgC (.slice p bs.length c) (.slice rp ram.length rc) (.slice sp scr.length sc') m).toArray] w fun e w' => e = .returned (.tuple #[.pointer none, .int .i64 2]) ∧ Below w.heap.size w w' := by
  obtain ⟨w1, hw1⟩ : ∃ w1, w.alloc (.cells (imgC (.slice p bs.length c) (.slice rp ram.length rc) (.slice sp scr.length sc') m).toArray 56) = w1 := ⟨_, rfl⟩
  have hB1 : Below w.heap.size w w1 := by rw [← hw1]; exact (Below.refl _ w).alloc (Nat.le_refl _) _
  have hx : w1.heap[w.heap.size]? = some (.cells (imgC (.slice p bs.length c) (.slice rp ram.length rc) (.slice sp scr.length sc') m).toArray 56 (0, 0)) := by rw [← hw1]; exact heap_alloc_new w _
  have hz : w1.heap.size = w.heap.size + 1 := by rw [← hw1]; simp
  have hmy := mayBanks_any p c bs (by omega) w1 (h.below hB1)
  have k0 := cell_of w1 _ 0 _ 56 _ hx rfl
  have HX : Hid _ := hx
  have HB1 : Hid _ := hB1
  have HZ : Hid _ := hz
  unfold room at hl
  clear hx hB1 hz
  unfold imgC at hw1 ⊢
  rw [hm] at hmy
  go_enter Try.func28, Try.ntmps28
  go_wp2_with fail
  clear hw1
  refine hmy.mono ?_
  rintro e w2 ⟨rfl, hb2⟩
  have hB2 : Below w.heap.size w w2 := HB1.out.trans (hb2.mono HB1.out.size)
  have hx2 := (hb2.block _ (by rw [HZ.out]; omega)).trans HX.out
  have hz2 : w.heap.size < w2.heap.size := by have := hb2.size; have := HZ.out; omega
  have q0 := cell_of w2 _ 0 _ 56 _ hx2 rfl
  have q1 := cell_of w2 _ 1 _ 56 _ hx2 rfl
  have q2 := cell_of w2 _ 2 _ 56 _ hx2 rfl
  have q3 := cell_of w2 _ 3 _ 56 _ hx2 rfl
  have HX2 : Hid _ := hx2
  have HB2 : Hid _ := hB2
  clear hmy hb2 hx2 hB2 k0
  go_wp2
  go_loopw [4, 31] (fun o i wr => ∃ k : Nat, k ≤ bs.length ∧ o = .bool false ∧ i = .int .i64 (k : Int) ∧ Below w.heap.size w wr) (fun _ i _ => bs.length - (intOf i).toNat)
  case atStart => exact ⟨0, by omega, rfl, rfl, HB2.out⟩
  case round =>
    obtain ⟨k, hk, rfl, rfl, hB⟩ := hrel
    by_cases hlt : k < bs.length
    · have i1 : (k : Int) < bs.length := by omega
      obtain ⟨b, o, dv, rfl, e1, e2, e3, e4⟩ := h.below hB k bs[k] (List.getElem?_eq_getElem hlt)
      obtain ⟨dp, dc, rfl, _⟩ := e3.ex
      have hB3 : Below w.heap.size w (wr.alloc (Obj.cells #[.int .i64 (bs[k]).1, .slice dp (bs[k]).2.length dc] 37)) := hB.alloc hB.size _
      generalize (bs[k]).1 = n at *
      generalize (bs[k]).2.length = L at *
      have HB : Hid _ := hB3
      clear hB3 hB e3
      go_wp2
      go_roundw
      case rel =>
        first
          | exact ⟨k + 1, by omega, rfl, by go_num, HB.out⟩
          | ((repeat apply Exists.intro); refine ⟨⟨k + 1, by omega, rfl, ?_, HB.out⟩, rfl⟩; go_num)
      case measure => simp [intOf]; omega
    · obtain rfl : k = bs.length := by omega
      go_wp2
      go_ret2
      exact ⟨rfl, hB⟩
theorem rrest_b (p : Option Addr) (c : Nat) (bs : List (Int × List UInt8)) (hl : bs.length * 32 ≤ room) (rp sp : Option Addr) (rc sc' : Nat) (m : MS) (w : World) (h : BnS w p bs) (ram scr : List UInt8) (hm : mayB (-1) bs = true) (q : ¬ ram.length = 16384) :
    Calls Try.prog 28 #[.agg (imgC (.slice p bs.length c) (.slice rp ram.length rc) (.slice sp scr.length sc') m).toArray] w fun e w' => e = .returned (.tuple #[.pointer none, .int .i64 2]) ∧ Below w.heap.size w w' := by
  obtain ⟨w1, hw1⟩ : ∃ w1, w.alloc (.cells (imgC (.slice p bs.length c) (.slice rp ram.length rc) (.slice sp scr.length sc') m).toArray 56) = w1 := ⟨_, rfl⟩
  have hB1 : Below w.heap.size w w1 := by rw [← hw1]; exact (Below.refl _ w).alloc (Nat.le_refl _) _
  have hx : w1.heap[w.heap.size]? = some (.cells (imgC (.slice p bs.length c) (.slice rp ram.length rc) (.slice sp scr.length sc') m).toArray 56 (0, 0)) := by rw [← hw1]; exact heap_alloc_new w _
  have hz : w1.heap.size = w.heap.size + 1 := by rw [← hw1]; simp
  have hmy := mayBanks_any p c bs (by omega) w1 (h.below hB1)
  have k0 := cell_of w1 _ 0 _ 56 _ hx rfl
  have HX : Hid _ := hx
  have HB1 : Hid _ := hB1
  have HZ : Hid _ := hz
  unfold room at hl
  clear hx hB1 hz
  unfold imgC at hw1 ⊢
  rw [hm] at hmy
  have d1 : ((ram.length : Int) == 16384) = false := by simp; omega
  clear q
  go_enter Try.func28, Try.ntmps28
  go_wp2_with fail
  clear hw1
  refine hmy.mono ?_
  rintro e w2 ⟨rfl, hb2⟩
  have hB2 : Below w.heap.size w w2 := HB1.out.trans (hb2.mono HB1.out.size)
  have hx2 := (hb2.block _ (by rw [HZ.out]; omega)).trans HX.out
  have hz2 : w.heap.size < w2.heap.size := by have := hb2.size; have := HZ.out; omega
  have q0 := cell_of w2 _ 0 _ 56 _ hx2 rfl
  have q1 := cell_of w2 _ 1 _ 56 _ hx2 rfl
  have q2 := cell_of w2 _ 2 _ 56 _ hx2 rfl
  have q3 := cell_of w2 _ 3 _ 56 _ hx2 rfl
  have HX2 : Hid _ := hx2
  have HB2 : Hid _ := hB2
  clear hmy hb2 hx2 hB2 k0
  go_wp2
  go_loopw [4, 31] (fun o i wr => ∃ k : Nat, k ≤ bs.length ∧ o = .bool false ∧ i = .int .i64 (k : Int) ∧ Below w.heap.size w wr) (fun _ i _ => bs.length - (intOf i).toNat)
  case atStart => exact ⟨0, by omega, rfl, rfl, HB2.out⟩
  case round =>
    obtain ⟨k, hk, rfl, rfl, hB⟩ := hrel
    by_cases hlt : k < bs.length
    · have i1 : (k : Int) < bs.length := by omega
      obtain ⟨b, o, dv, rfl, e1, e2, e3, e4⟩ := h.below hB k bs[k] (List.getElem?_eq_getElem hlt)
      obtain ⟨dp, dc, rfl, _⟩ := e3.ex
      have hB3 : Below w.heap.size w (wr.alloc (Obj.cells #[.int .i64 (bs[k]).1, .slice dp (bs[k]).2.length dc] 37)) := hB.alloc hB.size _
      generalize (bs[k]).1 = n at *
      generalize (bs[k]).2.length = L at *
      have HB : Hid _ := hB3
      clear hB3 hB e3
      go_wp2
      go_roundw
      case rel =>
        first
          | exact ⟨k + 1, by omega, rfl, by go_num, HB.out⟩
          | ((repeat apply Exists.intro); refine ⟨⟨k + 1, by omega, rfl, ?_, HB.out⟩, rfl⟩; go_num)
      case measure => simp [intOf]; omega
    · obtain rfl : k = bs.length := by omega
      go_wp2
      go_ret2
      exact ⟨rfl, hB⟩
theorem rrest_c (p : Option Addr) (c : Nat) (bs : List (Int × List UInt8)) (hl : bs.length * 32 ≤ room) (rp sp : Option Addr) (rc sc' : Nat) (m : MS) (w : World) (h : BnS w p bs) (ram scr : List UInt8) (hm : mayB (-1) bs = true) (q1 : ram.length = 16384) (q : ¬ scr.length = 3072) :
    Calls Try.prog 28 #[.agg (imgC (.slice p bs.length c) (.slice rp ram.length rc) (.slice sp scr.length sc') m).toArray] w fun e w' => e = .returned (.tuple #[.pointer none, .int .i64 2]) ∧ Below w.heap.size w w' := by
  obtain ⟨w1, hw1⟩ : ∃ w1, w.alloc (.cells (imgC (.slice p bs.length c) (.slice rp ram.length rc) (.slice sp scr.length sc') m).toArray 56) = w1 := ⟨_, rfl⟩
  have hB1 : Below w.heap.size w w1 := by rw [← hw1]; exact (Below.refl _ w).alloc (Nat.le_refl _) _
  have hx : w1.heap[w.heap.size]? = some (.cells (imgC (.slice p bs.length c) (.slice rp ram.length rc) (.slice sp scr.length sc') m).toArray 56 (0, 0)) := by rw [← hw1]; exact heap_alloc_new w _
  have hz : w1.heap.size = w.heap.size + 1 := by rw [← hw1]; simp
  have hmy := mayBanks_any p c bs (by omega) w1 (h.below hB1)
  have k0 := cell_of w1 _ 0 _ 56 _ hx rfl
  have HX : Hid _ := hx
  have HB1 : Hid _ := hB1
  have HZ : Hid _ := hz
  unfold room at hl
  clear hx hB1 hz
  unfold imgC at hw1 ⊢
  rw [hm] at hmy
  have d1 : ((ram.length : Int) == 16384) = true := by simp; omega
  have d2 : ((scr.length : Int) == 3072) = false := by simp; omega
  clear q q1
  go_enter Try.func28, Try.ntmps28
  go_wp2_with fail
  clear hw1
  refine hmy.mono ?_
  rintro e w2 ⟨rfl, hb2⟩
  have hB2 : Below w.heap.size w w2 := HB1.out.trans (hb2.mono HB1.out.size)
  have hx2 := (hb2.block _ (by rw [HZ.out]; omega)).trans HX.out
  have hz2 : w.heap.size < w2.heap.size := by have := hb2.size; have := HZ.out; omega
  have q0 := cell_of w2 _ 0 _ 56 _ hx2 rfl
  have q1 := cell_of w2 _ 1 _ 56 _ hx2 rfl
  have q2 := cell_of w2 _ 2 _ 56 _ hx2 rfl
  have q3 := cell_of w2 _ 3 _ 56 _ hx2 rfl
  have HX2 : Hid _ := hx2
  have HB2 : Hid _ := hB2
  clear hmy hb2 hx2 hB2 k0
  go_wp2
  go_loopw [4, 31] (fun o i wr => ∃ k : Nat, k ≤ bs.length ∧ o = .bool false ∧ i = .int .i64 (k : Int) ∧ Below w.heap.size w wr) (fun _ i _ => bs.length - (intOf i).toNat)
  case atStart => exact ⟨0, by omega, rfl, rfl, HB2.out⟩
  case round =>
    obtain ⟨k, hk, rfl, rfl, hB⟩ := hrel
    by_cases hlt : k < bs.length
    · have i1 : (k : Int) < bs.length := by omega
      obtain ⟨b, o, dv, rfl, e1, e2, e3, e4⟩ := h.below hB k bs[k] (List.getElem?_eq_getElem hlt)
      obtain ⟨dp, dc, rfl, _⟩ := e3.ex
      have hB3 : Below w.heap.size w (wr.alloc (Obj.cells #[.int .i64 (bs[k]).1, .slice dp (bs[k]).2.length dc] 37)) := hB.alloc hB.size _
      generalize (bs[k]).1 = n at *
      generalize (bs[k]).2.length = L at *
      have HB : Hid _ := hB3
      clear hB3 hB e3
      go_wp2
      go_roundw
      case rel =>
        first
          | exact ⟨k + 1, by omega, rfl, by go_num, HB.out⟩
          | ((repeat apply Exists.intro); refine ⟨⟨k + 1, by omega, rfl, ?_, HB.out⟩, rfl⟩; go_num)
      case measure => simp [intOf]; omega
    · obtain rfl : k = bs.length := by omega
      go_wp2
      go_ret2
      exact ⟨rfl, hB⟩
theorem rrest_d (p : Option Addr) (c : Nat) (bs : List (Int × List UInt8)) (hl : bs.length * 32 ≤ room) (rp sp : Option Addr) (rc sc' : Nat) (m : MS) (w : World) (h : BnS w p bs) (ram scr : List UInt8) (hm : mayB (-1) bs = true) (q1 : ram.length = 16384) (q2 : scr.length = 3072) (q : ¬ m.ch < 16) :
    Calls Try.prog 28 #[.agg (imgC (.slice p bs.length c) (.slice rp ram.length rc) (.slice sp scr.length sc') m).toArray] w fun e w' => e = .returned (.tuple #[.pointer none, .int .i64 2]) ∧ Below w.heap.size w w' := by
  obtain ⟨w1, hw1⟩ : ∃ w1, w.alloc (.cells (imgC (.slice p bs.length c) (.slice rp ram.length rc) (.slice sp scr.length sc') m).toArray 56) = w1 := ⟨_, rfl⟩
  have hB1 : Below w.heap.size w w1 := by rw [← hw1]; exact (Below.refl _ w).alloc (Nat.le_refl _) _
  have hx : w1.heap[w.heap.size]? = some (.cells (imgC (.slice p bs.length c) (.slice rp ram.length rc) (.slice sp scr.length sc') m).toArray 56 (0, 0)) := by rw [← hw1]; exact heap_alloc_new w _
  have hz : w1.heap.size = w.heap.size + 1 := by rw [← hw1]; simp
  have hmy := mayBanks_any p c bs (by omega) w1 (h.below hB1)
  have k0 := cell_of w1 _ 0 _ 56 _ hx rfl
  have HX : Hid _ := hx
  have HB1 : Hid _ := hB1
  have HZ : Hid _ := hz
  unfold room at hl
  clear hx hB1 hz
  unfold imgC at hw1 ⊢
  rw [hm] at hmy
  have d1 : ((ram.length : Int) == 16384) = true := by simp; omega
  have d2 : ((scr.length : Int) == 3072) = true := by simp; omega
  have d3 : decide (m.ch < 16) = false := by simpa using q
  clear q q1 q2
  go_enter Try.func28, Try.ntmps28
  go_wp2_with fail
  clear hw1
  refine hmy.mono ?_
  rintro e w2 ⟨rfl, hb2⟩
  have hB2 : Below w.heap.size w w2 := HB1.out.trans (hb2.mono HB1.out.size)
  have hx2 := (hb2.block _ (by rw [HZ.out]; omega)).trans HX.out
  have hz2 : w.heap.size < w2.heap.size := by have := hb2.size; have := HZ.out; omega
  have q0 := cell_of w2 _ 0 _ 56 _ hx2 rfl
  have q1 := cell_of w2 _ 1 _ 56 _ hx2 rfl
  have q2 := cell_of w2 _ 2 _ 56 _ hx2 rfl
  have q3 := cell_of w2 _ 3 _ 56 _ hx2 rfl
  have HX2 : Hid _ := hx2
  have HB2 : Hid _ := hB2
  clear hmy hb2 hx2 hB2 k0
  go_wp2
  go_loopw [4, 31] (fun o i wr => ∃ k : Nat, k ≤ bs.length ∧ o = .bool false ∧ i = .int .i64 (k : Int) ∧ Below w.heap.size w wr) (fun _ i _ => bs.length - (intOf i).toNat)
  case atStart => exact ⟨0, by omega, rfl, rfl, HB2.out⟩
  case round =>
    obtain ⟨k, hk, rfl, rfl, hB⟩ := hrel
    by_cases hlt : k < bs.length
    · have i1 : (k : Int) < bs.length := by omega
      obtain ⟨b, o, dv, rfl, e1, e2, e3, e4⟩ := h.below hB k bs[k] (List.getElem?_eq_getElem hlt)
      obtain ⟨dp, dc, rfl, _⟩ := e3.ex
      have hB3 : Below w.heap.size w (wr.alloc (Obj.cells #[.int .i64 (bs[k]).1, .slice dp (bs[k]).2.length dc] 37)) := hB.alloc hB.size _
      generalize (bs[k]).1 = n at *
      generalize (bs[k]).2.length = L at *
      have HB : Hid _ := hB3
      clear hB3 hB e3
      go_wp2
      go_roundw
      case rel =>
        first
          | exact ⟨k + 1, by omega, rfl, by go_num, HB.out⟩
          | ((repeat apply Exists.intro); refine ⟨⟨k + 1, by omega, rfl, ?_, HB.out⟩, rfl⟩; go_num)
      case measure => simp [intOf]; omega
    · obtain rfl : k = bs.length := by omega
      go_wp2
      go_ret2
      exact ⟨rfl, hB⟩
theorem rrest_loop (p : Option Addr) (c : Nat) (bs : List (Int × List UInt8)) (hl : bs.length * 32 ≤ room) (rp sp : Option Addr) (rc sc' : Nat) (m : MS) (w : World) (h : BnS w p bs) (ram scr : List UInt8) (hm : mayB (-1) bs = true) (q1 : ram.length = 16384) (q2 : scr.length = 3072) (q : m.ch < 16) (hr : Sl w (.slice rp ram.length rc) ram) (hs : Sl w (.slice sp scr.length sc') scr) (hdl : allF bs = true → ∀ t ∈ bs, t.2.length ≤ 16384) :
    Calls Try.prog 28 #[.agg (imgC (.slice p bs.length c) (.slice rp ram.length rc) (.slice sp scr.length sc') m).toArray] w fun e w' =>
      (allF bs = false ∧ e = .returned (.tuple #[.pointer none, .int .i64 2]) ∧ Below w.heap.size w w') ∨
      (allF bs = true ∧ ∃ b, e = .returned (.tuple #[.pointer (some ⟨b, 0, none⟩), .int .i64 0]) ∧ HasR w' (fun k => w.heap.size ≤ k) b (padB bs) { m with ram := padN 16384 ram, scr := padN 3072 scr, cyc := 0, tones := [] } ∧ Below w.heap.size w w') := by
  obtain ⟨w1, hw1⟩ : ∃ w1, w.alloc (.cells (imgC (.slice p bs.length c) (.slice rp ram.length rc) (.slice sp scr.length sc') m).toArray 56) = w1 := ⟨_, rfl⟩
  have hB1 : Below w.heap.size w w1 := by rw [← hw1]; exact (Below.refl _ w).alloc (Nat.le_refl _) _
  have hx : w1.heap[w.heap.size]? = some (.cells (imgC (.slice p bs.length c) (.slice rp ram.length rc) (.slice sp scr.length sc') m).toArray 56 (0, 0)) := by rw [← hw1]; exact heap_alloc_new w _
  have hz : w1.heap.size = w.heap.size + 1 := by rw [← hw1]; simp
  have hmy := mayBanks_any p c bs (by omega) w1 (h.below hB1)
  have k0 := cell_of w1 _ 0 _ 56 _ hx rfl
  have HX : Hid _ := hx
  have HB1 : Hid _ := hB1
  have HZ : Hid _ := hz
  unfold room at hl
  clear hx hB1 hz
  unfold imgC at hw1 ⊢
  rw [hm] at hmy
  have d1 : ((ram.length : Int) == 16384) = true := by simp; omega
  have d2 : ((scr.length : Int) == 3072) = true := by simp; omega
  have d3 : decide (m.ch < 16) = true := by simpa using q
  have HRL : Hid (ram.length = 16384 ∧ scr.length = 3072) := ⟨q1, q2⟩
  have HR : Hid _ := hr
  have HS : Hid _ := hs
  clear q1 q2 q hr hs
  go_enter Try.func28, Try.ntmps28
  go_wp2_with fail
  clear hw1
  refine hmy.mono ?_
  rintro e w2 ⟨rfl, hb2⟩
  have hB2 : Below w.heap.size w w2 := HB1.out.trans (hb2.mono HB1.out.size)
  have hx2 := (hb2.block _ (by rw [HZ.out]; omega)).trans HX.out
  have hz2 : w.heap.size < w2.heap.size := by have := hb2.size; have := HZ.out; omega
  have q0 := cell_of w2 _ 0 _ 56 _ hx2 rfl
  have q1 := cell_of w2 _ 1 _ 56 _ hx2 rfl
  have q2 := cell_of w2 _ 2 _ 56 _ hx2 rfl
  have q3 := cell_of w2 _ 3 _ 56 _ hx2 rfl
  have HX2 : Hid _ := hx2
  have HB2 : Hid _ := hB2
  clear hmy hb2 hx2 hB2 k0
  go_wp2
  go_loopw [4, 31] (fun o i wr => ∃ k : Nat, k ≤ bs.length ∧ o = .bool (allF (bs.take k)) ∧ i = .int .i64 (k : Int) ∧ Below w2.heap.size w2 wr) (fun _ i _ => bs.length - (intOf i).toNat)
  case atStart => exact ⟨0, by omega, rfl, rfl, Below.refl _ _⟩
  case round =>
    obtain ⟨k, hk, rfl, rfl, hB⟩ := hrel
    have hBw : Below w.heap.size w wr := HB2.out.trans (hB.mono (Nat.le_of_lt hz2))
    by_cases hlt : k < bs.length
    · have i1 : (k : Int) < bs.length := by omega
      obtain ⟨b, o, dv, rfl, e1, e2, e3, e4⟩ := h.below hBw k bs[k] (List.getElem?_eq_getElem hlt)
      obtain ⟨dp, dc, rfl, _⟩ := e3.ex
      have hB3 : Below w2.heap.size w2 (wr.alloc (Obj.cells #[.int .i64 (bs[k]).1, .slice dp (bs[k]).2.length dc] 37)) := hB.alloc hB.size _
      have hat := allF_take bs k hlt
      generalize (bs[k]).1 = n at *
      generalize (bs[k]).2.length = L at *
      have HB : Hid _ := hB3
      have HT : Hid _ := hat
      clear hB3 hB hBw e3 hat
      cases hak : allF (bs.take k) with
      | false =>
        have hn : allF (bs.take (k + 1)) = false := by rw [HT.out, hak]; rfl
        have HN : Hid _ := hn
        clear hn HT
        go_wp2
        go_roundw
        case rel =>
          first
            | exact ⟨k + 1, by omega, by rw [HN.out], by go_num, HB.out⟩
            | ((repeat apply Exists.intro); refine ⟨⟨k + 1, by omega, by rw [HN.out], ?_, HB.out⟩, rfl⟩; go_num)
        case measure => simp [intOf]; omega
      | true =>
        have hn : allF (bs.take (k + 1)) = (L == 16384) := by rw [HT.out, hak]; rfl
        have hn2 : ((L : Int) == 16384) = (L == 16384) := by
          by_cases c : L = 16384
          · subst c; rfl
          · have a1 : ((L : Int) == 16384) = false := by simp; omega
            have a2 : (L == 16384) = false := by simpa using c
            rw [a1, a2]
        have HN : Hid _ := hn
        have HN2 : Hid _ := hn2
        clear hn HT hn2
        cases hL : (L == 16384) with
        | false =>
          have d9 : ((L : Int) == 16384) = false := by rw [HN2.out, hL]
          go_wp2
          go_roundw
          case rel =>
            first
              | exact ⟨k + 1, by omega, by rw [HN.out, hL], by go_num, HB.out⟩
              | ((repeat apply Exists.intro); refine ⟨⟨k + 1, by omega, by rw [HN.out, hL], ?_, HB.out⟩, rfl⟩; go_num)
          case measure => simp [intOf]; omega
        | true =>
          have d9 : ((L : Int) == 16384) = true := by rw [HN2.out, hL]
          go_wp2
          go_roundw
          case rel =>
            first
              | exact ⟨k + 1, by omega, by rw [HN.out, hL], by go_num, HB.out⟩
              | ((repeat apply Exists.intro); refine ⟨⟨k + 1, by omega, by rw [HN.out, hL], ?_, HB.out⟩, rfl⟩; go_num)
          case measure => simp [intOf]; omega
    · obtain rfl : k = bs.length := by omega
      have hx3 := (hB.block _ hz2).trans HX2.out
      have a0 := cell_of wr _ 0 _ 56 _ hx3 rfl
      have a1 := cell_of wr _ 1 _ 56 _ hx3 rfl
      have a2 := cell_of wr _ 2 _ 56 _ hx3 rfl
      have a3 := cell_of wr _ 3 _ 56 _ hx3 rfl
      have a4 := cell_of wr _ 4 _ 56 _ hx3 rfl
      have a5 := cell_of wr _ 5 _ 56 _ hx3 rfl
      have a6 := cell_of wr _ 6 _ 56 _ hx3 rfl
      have a7 := cell_of wr _ 7 _ 56 _ hx3 rfl
      have htl : bs.take bs.length = bs := List.take_length
      cases haf : allF bs with
      | false =>
        have haf2 : allF (bs.take bs.length) = false := by rw [htl]; exact haf
        clear htl
        go_wp2
        go_ret2
        exact .inl ⟨haf, rfl, hBw⟩
      | true =>
        have haf2 : allF (bs.take bs.length) = true := by rw [htl]; exact haf
        have hbn := hdl haf
        obtain ⟨w3, hw3⟩ : ∃ w3, wr.alloc (.cells #[.slice p bs.length c, .slice rp ram.length rc, .slice sp scr.length sc', .int .u8 m.ch, .int .u8 m.pad, .int .u16 m.pitch, .int .u8 m.vol, .int .u16 m.time, .int .i64 0, .slice none 0 0] 80) = w3 := ⟨_, rfl⟩
        have hB3 : Below w.heap.size w w3 := by rw [← hw3]; exact hBw.alloc hBw.size _
        have hRV : RV w3 wr.heap.size bs { m with ram := ram, scr := scr, cyc := 0, tones := [] } p c (.slice rp ram.length rc) (.slice sp scr.length sc') (.slice none 0 0) := by
          refine ⟨by rw [← hw3]; exact heap_alloc_new wr _, h.below hB3, Sl.below HR.out hB3, Sl.below HS.out hB3, .inl ⟨rfl, rfl, rfl⟩, by simp only [HRL.out.1]; omega, by simp only [HRL.out.2]; omega, by unfold room; omega, hbn, by simp⟩
        have hcp := rcopy_any wr.heap.size bs _ p c _ _ _ w3 hRV
        have HBw : Hid _ := hB3
        clear htl hRV hB3 hBw hB hx3 hbn
        go_wp2_with fail
        refine hcp.mono ?_
        rintro e w4 ⟨b', rfl, hR4, hb4⟩
        have hfin : HasR w4 (fun k => w.heap.size ≤ k) b' (padB bs) { m with ram := padN 16384 ram, scr := padN 3072 scr, cyc := 0, tones := [] } := by
          obtain ⟨u0, gr, gc, gs, tv, hx⟩ := hR4
          have z3 := HBw.out.size
          exact ⟨u0, gr, gc, gs, tv, ⟨hx.blk, hx.banks, hx.ram, hx.scr, hx.rl, hx.sl, hx.tones, hx.nr, hx.nc, hx.rc, Nat.le_trans z3 hx.fb, fun g e => Nat.le_trans z3 (hx.fu g e), fun y hy => Nat.le_trans z3 (hx.fg y hy), Nat.le_trans z3 hx.fr, Nat.le_trans z3 hx.fc, fun g e => Nat.le_trans z3 (hx.ft g e)⟩⟩
        have HF : Hid _ := hfin
        have HB9 : Hid _ := HBw.out.trans (hb4.mono HBw.out.size)
        clear hcp hR4 hb4 hfin hw3
        go_wp2
        go_ret2
        exact .inr ⟨haf, _, rfl, HF.out, HB9.out⟩
end Go.Proofs.Ytcmaccefjlgbfaa
