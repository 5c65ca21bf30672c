import Derived.Test.YtcmaccefjlgbfaaImageKit
import Derived.Deep.RegionHeld
/-! back: an image in new memory. -/
namespace Go.Proofs.Ytcmaccefjlgbfaa
open Go.RowKit
open Go.Proofs
set_option linter.unusedVariables false
set_option linter.unusedSimpArgs false
/-- What back hands out, in new memory: nothing of it shares a block. -/
structure BkO (W : World) (B : Nat) (u rv sv : Value) (bs : List (Int × List UInt8)) (ram scr : List UInt8) (gs : List (Nat × Nat)) (N1 N2 : Nat) : Prop where
  banks : OB W B u bs gs
  ram : Row W N1 rv ram
  scr : Row W N2 sv scr
  b1 : B ≤ N1
  g1 : ∀ y ∈ gs, y.1 < N1
  o1 : ∀ g, u.ownBlock = some g → g < N1
  r1 : ∀ g, rv.ownBlock = some g → g < N2
  n12 : N1 ≤ N2
theorem OB.mem_lt {W : World} {B : Nat} {v : Value} {bs : List (Int × List UInt8)} {gs : List (Nat × Nat)} (h : OB W B v bs gs) (y : Nat × Nat) (hy : y ∈ gs) : y.1 < W.heap.size := by
  obtain ⟨i, hi, e⟩ := List.mem_iff_getElem.1 hy
  have hb' : i < bs.length := by rw [← h.len]; exact hi
  exact ((h.dat i bs[i] y (List.getElem?_eq_getElem hb') (by rw [List.getElem?_eq_getElem hi, e])).lt y.1 rfl).2
theorem back_end (w w1 w2 w3 w4 : World) (m : MS) (u rv sv : Value) (bs : List (Int × List UInt8)) (ram scr : List UInt8) (gs : List (Nat × Nat)) (hb1 : Below w.heap.size w w1) (hz1 : w1.heap.size = w.heap.size + 2)
    (hb2 : Below w1.drew.heap.size w1.drew w2) (hb3 : Below w2.heap.size w2 w3) (hb4 : Below w3.heap.size w3 w4) (hO2 : OB w2 w1.drew.heap.size u bs gs)
    (hO3 : Row w3 w2.heap.size rv ram) (hO4 : Row w4 w3.heap.size sv scr)
    (hr1 : w1.heap[w.heap.size + 1]? = some (.cells [.slice none 0 0, .slice none 0 0, .slice none 0 0, .int .u8 0, .int .u8 0, .int .u16 0, .int .u8 0, .int .u16 0].toArray 48 (0, 0))) :
    (st8 w4 (w.heap.size + 1) u rv sv m).heap[w.heap.size + 1]? = some (.cells (imgC u rv sv m).toArray 48 (0, 0)) ∧
    BkO (st8 w4 (w.heap.size + 1) u rv sv m) w.heap.size u rv sv bs ram scr gs w2.heap.size w3.heap.size ∧
    Below w.heap.size w (st8 w4 (w.heap.size + 1) u rv sv m) := by
  have z1 : w1.drew.heap.size = w.heap.size + 2 := hz1
  have z2 := hb2.size
  have z3 := hb3.size
  have z4 := hb4.size
  have hr4 : w4.heap[w.heap.size + 1]? = some (.cells [.slice none 0 0, .slice none 0 0, .slice none 0 0, .int .u8 0, .int .u8 0, .int .u16 0, .int .u8 0, .int .u16 0].toArray 48 (0, 0)) :=
    (hb4.block _ (by omega)).trans ((hb3.block _ (by omega)).trans ((hb2.block _ (by omega)).trans hr1))
  have far : ∀ k, w.heap.size + 1 < k → (st8 w4 (w.heap.size + 1) u rv sv m).heap[k]? = w4.heap[k]? := fun k hk => st8_other w4 (w.heap.size + 1) k u rv sv m (by omega)
  have hB4 : Below w.heap.size w w4 := ((hb1.trans (by exact ⟨hb2.os, hb2.tape, hb2.output, by rw [z1] at z2; omega, fun k hk => hb2.block k (by omega)⟩)).trans (hb3.mono (by omega))).trans (hb4.mono (by omega))
  refine ⟨st8_heap w4 _ u rv sv m _ 48 rfl hr4, ⟨?_, ?_, ?_, by omega, fun y hy => hO2.mem_lt y hy, fun g e => (hO2.row.lt g e).2, fun g e => (hO3.lt g e).2, z3⟩, st8_below w4 _ u rv sv m hB4 (by omega)⟩
  · have := hO2.kept (W' := st8 w4 (w.heap.size + 1) u rv sv m) fun i hi hl => (far i (by omega)).trans ((hb4.block i (by omega)).trans (hb3.block i hl))
    exact ⟨this.len, own_mono this.row (by omega), fun i t g a c => Row.mono (this.dat i t g a c) (by omega), this.nd⟩
  · exact hO3.kept fun g e hg => (far g (by have := (hO3.lt g e).1; omega)).trans (hb4.block g hg)
  · exact hO4.kept fun g e hg => far g (by have := (hO4.lt g e).1; omega)
set_option maxHeartbeats 4000000
set_option maxRecDepth 100000
theorem back_any (p : Option Addr) (c : Nat) (bs : List (Int × List UInt8)) (hl : bs.length * 32 ≤ room) (hd : ∀ t ∈ bs, t.2.length + 1 ≤ room) (rp sp : Option Addr) (rc sc' : Nat) (m : MS) (w : World) (h : BnS w p bs) (ram scr : List UInt8) (hr : Sl w (.slice rp ram.length rc) ram) (hs : Sl w (.slice sp scr.length sc') scr) (hrl : ram.length ≤ room) (hsl : scr.length ≤ room) :
    Calls Try.prog 29 #[.agg (imgC (.slice p bs.length c) (.slice rp ram.length rc) (.slice sp scr.length sc') m).toArray] w fun e w' => ∃ u rv sv gs N1 N2, e = .returned (.agg (imgC u rv sv m).toArray) ∧ BkO w' w.heap.size u rv sv bs ram scr gs N1 N2 ∧ Below w.heap.size w w' := by
  obtain ⟨w1, hw1⟩ : ∃ w1, (w.alloc (.cells (imgC (.slice p bs.length c) (.slice rp ram.length rc) (.slice sp scr.length sc') m).toArray 56)).alloc (.cells #[.slice none 0 0, .slice none 0 0, .slice none 0 0, .int .u8 0, .int .u8 0, .int .u16 0, .int .u8 0, .int .u16 0] 48) = w1 := ⟨_, rfl⟩
  have hb1 : Below w.heap.size w w1 := by rw [← hw1]; exact ((Below.refl _ w).alloc (Nat.le_refl _) _).alloc (by simp) _
  have hz1 : w1.heap.size = w.heap.size + 2 := by rw [← hw1]; simp
  have hr1 : w1.heap[w.heap.size + 1]? = some (.cells [.slice none 0 0, .slice none 0 0, .slice none 0 0, .int .u8 0, .int .u8 0, .int .u16 0, .int .u8 0, .int .u16 0].toArray 48 (0, 0)) := by
    rw [← hw1]; have := heap_alloc_new (w.alloc (.cells (imgC (.slice p bs.length c) (.slice rp ram.length rc) (.slice sp scr.length sc') m).toArray 56)) (.cells #[.slice none 0 0, .slice none 0 0, .slice none 0 0, .int .u8 0, .int .u8 0, .int .u16 0, .int .u8 0, .int .u16 0] 48); simpa using this
  have hx1 : w1.heap[w.heap.size]? = some (.cells (imgC (.slice p bs.length c) (.slice rp ram.length rc) (.slice sp scr.length sc') m).toArray 56 (0, 0)) := by
    rw [← hw1]; exact (Below.heap_alloc _ _ _ (by simp)).trans (heap_alloc_new w _)
  have hall : ∀ {W : World}, W.heap[w.heap.size]? = some (.cells (imgC (.slice p bs.length c) (.slice rp ram.length rc) (.slice sp scr.length sc') m).toArray 56 (0, 0)) →
      W.cell? ⟨w.heap.size, 0, none⟩ = some (.slice p bs.length c) ∧ W.cell? ⟨w.heap.size, 1, none⟩ = some (.slice rp ram.length rc) ∧ W.cell? ⟨w.heap.size, 2, none⟩ = some (.slice sp scr.length sc') ∧ W.cell? ⟨w.heap.size, 3, none⟩ = some (.int .u8 m.ch) ∧ W.cell? ⟨w.heap.size, 4, none⟩ = some (.int .u8 m.pad) ∧ W.cell? ⟨w.heap.size, 5, none⟩ = some (.int .u16 m.pitch) ∧ W.cell? ⟨w.heap.size, 6, none⟩ = some (.int .u8 m.vol) ∧ W.cell? ⟨w.heap.size, 7, none⟩ = some (.int .u16 m.time) :=
    fun h => ⟨cell_of _ _ 0 _ 56 _ h rfl, cell_of _ _ 1 _ 56 _ h rfl, cell_of _ _ 2 _ 56 _ h rfl, cell_of _ _ 3 _ 56 _ h rfl, cell_of _ _ 4 _ 56 _ h rfl, cell_of _ _ 5 _ 56 _ h rfl, cell_of _ _ 6 _ 56 _ h rfl, cell_of _ _ 7 _ 56 _ h rfl⟩
  have hbd : Below w.heap.size w w1.drew := hb1.drew
  have hc1 := ownBanks_any p c bs hl hd w1.drew (h.below hbd)
  have s0 := hall (W := w1.drew) hx1
  have HA : Hid _ := @hall
  have HX1 : Hid _ := hx1
  have HR1 : Hid _ := hr1
  have HB1 : Hid _ := hb1
  have HZ1 : Hid _ := hz1
  have HR : Hid _ := hr
  have HS : Hid _ := hs
  have hFin : ∀ w2 w3 w4 : World, Below w1.drew.heap.size w1.drew w2 → Below w2.heap.size w2 w3 → Below w3.heap.size w3 w4 → w4.heap[w.heap.size + 1]? = some (.cells [.slice none 0 0, .slice none 0 0, .slice none 0 0, .int .u8 0, .int .u8 0, .int .u16 0, .int .u8 0, .int .u16 0].toArray 48 (0, 0)) := by
    intro w2 w3 w4 a1 a2 a3
    have z1 : w1.drew.heap.size = w.heap.size + 2 := hz1
    have z2 := a1.size
    have z3 := a2.size
    exact (a3.block _ (by omega)).trans ((a2.block _ (by omega)).trans ((a1.block _ (by omega)).trans hr1))
  have HF : Hid _ := hFin
  have hst2 : ∀ w2 : World, Below w1.drew.heap.size w1.drew w2 → w2.heap[w.heap.size]? = some (.cells (imgC (.slice p bs.length c) (.slice rp ram.length rc) (.slice sp scr.length sc') m).toArray 56 (0, 0)) ∧ Below w.heap.size w w2 ∧ w.heap.size < w2.heap.size := by
    intro w2 a
    have z1 : w1.drew.heap.size = w.heap.size + 2 := hz1
    have z2 := a.size
    exact ⟨(a.block _ (by omega)).trans hx1, hb1.trans ⟨a.os, a.tape, a.output, by rw [z1] at z2; omega, fun k hk => a.block k (by omega)⟩, by omega⟩
  have H2 : Hid _ := hst2
  have hne : w.heap.size ≠ w.heap.size + 1 := by omega
  clear hall hr1 hb1 hz1 hFin hx1 hr hs hst2 hbd
  unfold imgC at hw1 ⊢
  go_enter Try.func29, Try.ntmps29
  go_wp2_with fail
  clear hw1
  go_region_held (fun w' => w'.cell? ⟨w.heap.size, 0, none⟩ = some (.slice p bs.length c) ∧ w'.cell? ⟨w.heap.size, 1, none⟩ = some (.slice rp ram.length rc) ∧ w'.cell? ⟨w.heap.size, 2, none⟩ = some (.slice sp scr.length sc') ∧ w'.cell? ⟨w.heap.size, 3, none⟩ = some (.int .u8 m.ch) ∧ w'.cell? ⟨w.heap.size, 4, none⟩ = some (.int .u8 m.pad) ∧ w'.cell? ⟨w.heap.size, 5, none⟩ = some (.int .u16 m.pitch) ∧ w'.cell? ⟨w.heap.size, 6, none⟩ = some (.int .u8 m.vol) ∧ w'.cell? ⟨w.heap.size, 7, none⟩ = some (.int .u16 m.time))
    (first | (with_reducible exact s0) | (with_reducible exact s2) | (with_reducible exact s3) | (with_reducible exact s4) | (simp only [cell_far _ (w.heap.size + 1) _ _ w.heap.size _ hne]; with_reducible exact s4))
    (first
      | (go_at_call 8; refine hc1.mono ?_; rintro e w2 ⟨u, gs, rfl, hO2, hb2⟩; obtain ⟨p2, cp2, rfl⟩ := own_form hO2.row; obtain ⟨hx2, hB2, hlt2⟩ := H2.out w2 hb2; have s2 := HA.out hx2; have hc2 := own_any _ ram hrl w2 (Sl.below HR.out hB2); have HO2 : Hid _ := hO2; have HB2 : Hid _ := hb2; have HBw2 : Hid _ := hB2; have HX2 : Hid _ := hx2; clear hO2 hb2 hB2 hx2 hc1 s0)
      | (go_at_call_of 38 (Value.slice rp ram.length rc); refine hc2.mono ?_; rintro e w3 ⟨rv, rfl, hO3, hb3⟩; obtain ⟨p3, cp3, rfl⟩ := own_form hO3; have hx3 := (hb3.block _ hlt2).trans HX2.out; have s3 := HA.out hx3; have hlt3 := Nat.lt_of_lt_of_le hlt2 hb3.size; have hB3 := HBw2.out.trans (hb3.mono (Nat.le_of_lt hlt2)); have hc3 := own_any _ scr hsl w3 (Sl.below HS.out hB3); have HO3 : Hid _ := hO3; have HB3 : Hid _ := hb3; have HX3 : Hid _ := hx3; clear hO3 hb3 hB3 hx3 hc2 s2)
      | (go_at_call_of 38 (Value.slice sp scr.length sc'); refine hc3.mono ?_; rintro e w4 ⟨sv, rfl, hO4, hb4⟩; obtain ⟨p4, cp4, rfl⟩ := own_form hO4; have s4 := HA.out ((hb4.block _ hlt3).trans HX3.out); have hr4 := HF.out w2 w3 w4 HB2.out HB3.out hb4; have HO4 : Hid _ := hO4; have HB4 : Hid _ := hb4; clear hO4 hb4 hc3 s3; have f0 := cell_of w4 (w.heap.size + 1) 0 _ 48 _ hr4 rfl; have f1 := cell_of w4 (w.heap.size + 1) 1 _ 48 _ hr4 rfl; have f2 := cell_of w4 (w.heap.size + 1) 2 _ 48 _ hr4 rfl; have f3 := cell_of w4 (w.heap.size + 1) 3 _ 48 _ hr4 rfl; have f4 := cell_of w4 (w.heap.size + 1) 4 _ 48 _ hr4 rfl; have f5 := cell_of w4 (w.heap.size + 1) 5 _ 48 _ hr4 rfl; have f6 := cell_of w4 (w.heap.size + 1) 6 _ 48 _ hr4 rfl; have f7 := cell_of w4 (w.heap.size + 1) 7 _ 48 _ hr4 rfl; have z0 := fun i => frozen_of w4 (w.heap.size + 1) i _ 48 hr4; clear hr4))
  all_goals
    have hx := back_end w w1 w2 w3 w4 m _ _ _ bs ram scr gs HB1.out HZ1.out HB2.out HB3.out HB4.out HO2.out HO3.out HO4.out HR1.out
    go_wp2_with fail
    (try simp only [Exit.inBlock, Exit.then])
    have q0 := cell_of _ (w.heap.size + 1) 0 _ 48 _ hx.1 rfl
    have q1 := cell_of _ (w.heap.size + 1) 1 _ 48 _ hx.1 rfl
    have q2 := cell_of _ (w.heap.size + 1) 2 _ 48 _ hx.1 rfl
    have q3 := cell_of _ (w.heap.size + 1) 3 _ 48 _ hx.1 rfl
    have q4 := cell_of _ (w.heap.size + 1) 4 _ 48 _ hx.1 rfl
    have q5 := cell_of _ (w.heap.size + 1) 5 _ 48 _ hx.1 rfl
    have q6 := cell_of _ (w.heap.size + 1) 6 _ 48 _ hx.1 rfl
    have q7 := cell_of _ (w.heap.size + 1) 7 _ 48 _ hx.1 rfl
    refine bodyPost_ret (w := st8 w4 (w.heap.size + 1) (.slice p2 bs.length cp2) (.slice p3 ram.length cp3) (.slice p4 scr.length cp4) m) (v := .agg (imgC (.slice p2 bs.length cp2) (.slice p3 ram.length cp3) (.slice p4 scr.length cp4) m).toArray) ?_ rfl ⟨_, _, _, _, _, _, rfl, hx.2.1, hx.2.2⟩
    clear hx
    simp [results, Try.results29, go_sem, q0, q1, q2, q3, q4, q5, q6, q7, imgC]
end Go.Proofs.Ytcmaccefjlgbfaa
