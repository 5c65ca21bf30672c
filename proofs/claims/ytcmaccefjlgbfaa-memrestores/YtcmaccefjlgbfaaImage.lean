import Derived.Test.YtcmaccefjlgbfaaImageKit
/-! Image, walked. -/
namespace Go.Proofs.Ytcmaccefjlgbfaa
open Go.RowKit
open Go.Proofs
set_option linter.unusedVariables false
set_option linter.unusedSimpArgs false
set_option maxHeartbeats 4000000
set_option maxRecDepth 100000
theorem image_has (b : Nat) (w : World) {F : Nat → Prop} {m : MS} (hm : HasM w F b m) :
    Calls Try.prog 21 #[.pointer (some ⟨b, 0, none⟩)] w fun e w' => ∃ u rv sv gs N1 N2, e = .returned (.agg (imgC u rv sv m).toArray) ∧ ImO w' w.heap.size u rv sv (inO m 16) m.ram m.scr gs N1 N2 ∧ Below w.heap.size w w' := by
  obtain ⟨w1, hw1⟩ : ∃ w1, w1 = (w.alloc (.cells #[.slice none 0 0, .slice none 0 0, .slice none 0 0, .int .u8 0, .int .u8 0, .int .u16 0, .int .u8 0, .int .u16 0] 48)) := ⟨_, rfl⟩
  have hb1 : Below w.heap.size w w1 := by rw [hw1]; exact (Below.refl _ w).alloc (Nat.le_refl _) _
  have hz1 : w1.heap.size = w.heap.size + 1 := by rw [hw1]; simp
  have hr1 : w1.heap[w.heap.size]? = some (.cells [.slice none 0 0, .slice none 0 0, .slice none 0 0, .int .u8 0, .int .u8 0, .int .u16 0, .int .u8 0, .int .u16 0].toArray 48 (0, 0)) := by rw [hw1]; exact heap_alloc_new w _
  have hm1 := hm.below hb1
  have hc1 := inOrder_any b w1.drew (hm1.below (Below.refl _ _).drew)
  have hreg : ∀ {W : World}, HasM W F b m → ∀ (i : Nat) (v : Value), (∀ tv, (regs m tv)[i]? = some v) → W.cell? ⟨b, 19457 + i, none⟩ = some v := by
    intro W h i v hv
    obtain ⟨mb, L, tv, h⟩ := h
    exact cell_of W b (19457 + i) _ 86 _ h.blk ((mcells_reg mb m tv h.wf i).trans (hv tv))
  have hall : ∀ {W : World}, HasM W F b m → W.cell? ⟨b, 19457, none⟩ = some (.int .u8 m.ch) ∧ W.cell? ⟨b, 19458, none⟩ = some (.int .u8 m.pad) ∧ W.cell? ⟨b, 19459, none⟩ = some (.int .u16 m.pitch) ∧ W.cell? ⟨b, 19460, none⟩ = some (.int .u8 m.vol) ∧ W.cell? ⟨b, 19461, none⟩ = some (.int .u16 m.time) :=
    fun h => ⟨hreg h 0 _ fun _ => rfl, hreg h 1 _ fun _ => rfl, hreg h 2 _ fun _ => rfl, hreg h 3 _ fun _ => rfl, hreg h 4 _ fun _ => rfl⟩
  have hram : ∀ {W : World}, HasM W F b m → Sl W (.slice (some ⟨b, 1, none⟩) 16384 16384) m.ram := by
    intro W h
    obtain ⟨mb, L, tv, h⟩ := h
    refine .inr ⟨⟨b, 1, none⟩, 16384, by rw [h.wf.ram], by rw [h.wf.ram]; omega, fun j x hj => ?_⟩
    rw [Addr.add_lit]; exact cell_of W b _ _ 86 _ h.blk (mcells_ram mb m tv h.wf j x hj)
  have hrl : m.ram.length ≤ room := by rw [hm.wf.ram]; unfold room; omega
  have s0 := hall (W := w1.drew) (hm1.below (Below.refl _ _).drew)
  have hrp : 0 < m.ram.length := by rw [hm.wf.ram]; omega
  have hsp : 0 < m.scr.length := by rw [hm.wf.scr]; omega
  have HA : Hid _ := @hall
  have HR : Hid _ := @hram
  have HM1 : Hid _ := hm1
  have HR1 : Hid _ := hr1
  have HB1 : Hid _ := hb1
  have HZ1 : Hid _ := hz1
  have hFin : ∀ w2 w3 w4 : World, Below w1.drew.heap.size w1.drew w2 → Below w2.heap.size w2 w3 → Below w3.heap.size w3 w4 → w4.heap[w.heap.size]? = some (.cells [.slice none 0 0, .slice none 0 0, .slice none 0 0, .int .u8 0, .int .u8 0, .int .u16 0, .int .u8 0, .int .u16 0].toArray 48 (0, 0)) := by
    intro w2 w3 w4 a1 a2 a3
    have z1 : w1.drew.heap.size = w.heap.size + 1 := hz1
    have z2 := a1.size
    have z3 := a2.size
    exact (a3.block _ (by omega)).trans ((a2.block _ (by omega)).trans ((a1.block _ (by omega)).trans hr1))
  have hne : b ≠ w.heap.size := by obtain ⟨mb, L, tv, h⟩ := hm; have := lt_of h.blk; omega
  have HF : Hid _ := hFin
  clear hall hram hm1 hreg hr1 hb1 hz1 hFin hm
  go_enter Try.func21, Try.ntmps21
  go_wp2_with fail
  rw [← hw1]
  clear hw1
  go_region_held (fun w' => w'.cell? ⟨b, 19457, none⟩ = some (.int .u8 m.ch) ∧ w'.cell? ⟨b, 19458, none⟩ = some (.int .u8 m.pad) ∧ w'.cell? ⟨b, 19459, none⟩ = some (.int .u16 m.pitch) ∧ w'.cell? ⟨b, 19460, none⟩ = some (.int .u8 m.vol) ∧ w'.cell? ⟨b, 19461, none⟩ = some (.int .u16 m.time))
    (first | (with_reducible exact s0) | (with_reducible exact s2) | (with_reducible exact s3) | (with_reducible exact s4) | (simp only [cell_far _ w.heap.size _ _ b _ hne]; with_reducible exact s4))
    (first
      | (go_at_call 43; refine hc1.mono ?_; rintro e w2 ⟨u, gs, rfl, hO2, hb2⟩; obtain ⟨p2, cp2, rfl⟩ := own_form hO2.row; have hm2 := HasM.below HM1.out (W' := w2) ⟨hb2.os, hb2.tape, hb2.output, hb2.size, hb2.block⟩; have s2 := HA.out hm2; have hc2 := clone_any _ m.ram hrl w2 (HR.out hm2); have HO2 : Hid _ := hO2; have HB2 : Hid _ := hb2; have HM2 : Hid _ := hm2; clear hO2 hb2 hm2 hc1 s0)
      | (go_at_call 44; refine hc2.mono ?_; rintro e w3 ⟨rv, rfl, hO3, hb3⟩; obtain ⟨g3, cp3, rfl⟩ := own_pos hO3 hrp; have hm3 := HasM.below HM2.out hb3; have s3 := HA.out hm3; have hc3 := screen_any b w3 hm3; have HO3 : Hid _ := hO3; have HB3 : Hid _ := hb3; have HM3 : Hid _ := hm3; clear hO3 hb3 hm3 hc2 s2)
      | (go_at_call 23; refine hc3.mono ?_; rintro e w4 ⟨sv, rfl, hO4, hb4⟩; obtain ⟨g4, cp4, rfl⟩ := own_pos hO4 hsp; have s4 := HA.out (HasM.below HM3.out hb4); have hr4 := HF.out w2 w3 w4 HB2.out HB3.out hb4; have HO4 : Hid _ := hO4; have HB4 : Hid _ := hb4; clear hO4 hb4 hc3 s3; have f0 := cell_of w4 w.heap.size 0 _ 48 _ hr4 rfl; have f1 := cell_of w4 w.heap.size 1 _ 48 _ hr4 rfl; have f2 := cell_of w4 w.heap.size 2 _ 48 _ hr4 rfl; have f3 := cell_of w4 w.heap.size 3 _ 48 _ hr4 rfl; have f4 := cell_of w4 w.heap.size 4 _ 48 _ hr4 rfl; have f5 := cell_of w4 w.heap.size 5 _ 48 _ hr4 rfl; have f6 := cell_of w4 w.heap.size 6 _ 48 _ hr4 rfl; have f7 := cell_of w4 w.heap.size 7 _ 48 _ hr4 rfl; have z0 := fun i => frozen_of w4 w.heap.size i _ 48 hr4; clear hr4))
  all_goals
    have hx := image_end w w1 w2 w3 w4 m p2 cp2 g3 cp3 g4 cp4 gs HB1.out HZ1.out HB2.out HB3.out HB4.out HO2.out HO3.out HO4.out HR1.out
    go_wp2_with fail
    (try simp only [Exit.inBlock, Exit.then])
    have q0 := cell_of _ w.heap.size 0 _ 48 _ hx.1 rfl
    have q1 := cell_of _ w.heap.size 1 _ 48 _ hx.1 rfl
    have q2 := cell_of _ w.heap.size 2 _ 48 _ hx.1 rfl
    have q3 := cell_of _ w.heap.size 3 _ 48 _ hx.1 rfl
    have q4 := cell_of _ w.heap.size 4 _ 48 _ hx.1 rfl
    have q5 := cell_of _ w.heap.size 5 _ 48 _ hx.1 rfl
    have q6 := cell_of _ w.heap.size 6 _ 48 _ hx.1 rfl
    have q7 := cell_of _ w.heap.size 7 _ 48 _ hx.1 rfl
    refine bodyPost_ret (w := st8 w4 w.heap.size (.slice p2 (inO m 16).length cp2) (.slice (some ⟨g3, 0, none⟩) m.ram.length cp3) (.slice (some ⟨g4, 0, none⟩) m.scr.length cp4) m) (v := .agg (imgC (.slice p2 (inO m 16).length cp2) (.slice (some ⟨g3, 0, none⟩) m.ram.length cp3) (.slice (some ⟨g4, 0, none⟩) m.scr.length cp4) m).toArray) ?_ rfl ⟨_, _, _, _, _, _, rfl, hx.2.1, hx.2.2⟩
    clear hx
    simp [results, Try.results21, go_sem, q0, q1, q2, q3, q4, q5, q6, q7, imgC]
end Go.Proofs.Ytcmaccefjlgbfaa
