import Derived.Test.YteldjmecomngeaaGreatG9
/-! Restore, walked. -/
namespace Go.Proofs.YteldjmecomngeaaGreat.M
open Go.RowKit
open Go.Proofs
set_option linter.unusedVariables false
set_option linter.unusedSimpArgs false
theorem cell_drew (W : World) (a : Addr) : W.drew.cell? a = W.cell? a := rfl
set_option maxHeartbeats 4000000
set_option maxRecDepth 100000
theorem restore_no (p : Option Addr) (c : Nat) (bs : List (Int × List UInt8)) (hl : bs.length ≤ room) (rp sp : Option Addr) (rc sc' : Nat) (m : MS) (w : World) (h : BnS w p bs) (ram scr : List UInt8) (hn : whB bs ram scr m.ch = false ∨ mayB (-1) bs = false) :
    Calls Tryz.prog 55 #[.agg (imgC (.slice p bs.length c) (.slice rp ram.length rc) (.slice sp scr.length sc') m).toArray] w fun e w' => e = .returned (.tuple #[.pointer none, .int .i64 2]) ∧ Below w.heap.size w w' := by
  obtain ⟨w1, hw1⟩ : ∃ w1, w.alloc (.cells (imgC (.slice p bs.length c) (.slice rp ram.length rc) (.slice sp scr.length sc') m).toArray 71) = w1 := ⟨_, rfl⟩
  have hB1 : Below w.heap.size w w1 := by rw [← hw1]; exact (Below.refl _ w).alloc (Nat.le_refl _) _
  have hx : w1.heap[w.heap.size]? = some (.cells (imgC (.slice p bs.length c) (.slice rp ram.length rc) (.slice sp scr.length sc') m).toArray 71 (0, 0)) := by rw [← hw1]; exact heap_alloc_new w _
  have hz : w1.heap.size = w.heap.size + 1 := by rw [← hw1]; simp
  have hwh := whole_any p c bs hl rp sp ram.length rc scr.length sc' m w1 (h.below hB1) ram scr rfl rfl
  have k0 := cell_of w1 _ 0 _ 71 _ hx rfl
  have k1 := cell_of w1 _ 1 _ 71 _ hx rfl
  have k2 := cell_of w1 _ 2 _ 71 _ hx rfl
  have k3 := cell_of w1 _ 3 _ 71 _ hx rfl
  have k4 := cell_of w1 _ 4 _ 71 _ hx rfl
  have k5 := cell_of w1 _ 5 _ 71 _ hx rfl
  have k6 := cell_of w1 _ 6 _ 71 _ hx rfl
  have k7 := cell_of w1 _ 7 _ 71 _ hx rfl
  have HX : Hid _ := hx
  have HB1 : Hid _ := hB1
  have HZ : Hid _ := hz
  clear hx hB1 hz
  unfold imgC at hw1 hwh ⊢
  cases hwb : whB bs ram scr m.ch with
  | false =>
    rw [hwb] at hwh
    go_enter Tryz.func55, Tryz.ntmps55
    go_wp2_with fail
    refine hwh.mono ?_
    rintro e w2 ⟨rfl, hb2⟩
    go_wp2
    go_ret2
    exact ⟨rfl, HB1.out.trans (hb2.mono HB1.out.size)⟩
  | true =>
    rw [hwb] at hwh hn
    have hm : mayB (-1) bs = false := by rcases hn with hn | hn; cases hn; exact hn
    go_enter Tryz.func55, Tryz.ntmps55
    go_wp2_with fail
    refine hwh.mono ?_
    rintro e w2 ⟨rfl, hb2⟩
    have hB2 : Below w.heap.size w w2 := HB1.out.trans (hb2.mono HB1.out.size)
    have q0 := cell_of w2 _ 0 _ 71 _ ((hb2.block _ (by rw [HZ.out]; omega)).trans HX.out) rfl
    have hnw := new_no p c bs hl w2 (h.below hB2) hm
    clear hwh hb2 k0 k1 k2 k3 k4 k5 k6 k7 hw1
    go_wp2_with fail
    refine hnw.mono ?_
    rintro e w3 ⟨rfl, hb3⟩
    go_wp2
    go_ret2
    exact ⟨rfl, hB2.trans (hb3.mono hB2.size)⟩
theorem restore_yes (p : Option Addr) (c : Nat) (bs : List (Int × List UInt8)) (hl : bs.length ≤ room) (rp sp : Option Addr) (rc sc' : Nat) (m : MS) (w : World) (h : BnS w p bs) (ram scr : List UInt8) (hr : Sl w (.slice rp ram.length rc) ram) (hs : Sl w (.slice sp scr.length sc') scr)
    (hwb : whB bs ram scr m.ch = true) (hm : mayB (-1) bs = true) (c0 : 0 ≤ m.ch) (p0 : 0 ≤ m.pad) (p1 : m.pad < 256) (t0 : 0 ≤ m.pitch) (t1 : m.pitch < 65536) (v0 : 0 ≤ m.vol) (v1 : m.vol < 256) (i0 : 0 ≤ m.time) (i1 : m.time < 65536) :
    Calls Tryz.prog 55 #[.agg (imgC (.slice p bs.length c) (.slice rp ram.length rc) (.slice sp scr.length sc') m).toArray] w fun e w' => ∃ b, e = .returned (.tuple #[.pointer (some ⟨b, 0, none⟩), .int .i64 0]) ∧ HasM w' (fun k => w.heap.size ≤ k) b (mR bs ram scr m) ∧ Below w.heap.size w w' := by
  have hrl : ram.length = 16384 ∧ scr.length = 3072 ∧ m.ch < 16 := by
    simp only [whB, Bool.and_eq_true, beq_iff_eq, decide_eq_true_eq] at hwb
    exact ⟨hwb.1.1.2, hwb.1.2, hwb.2⟩
  obtain ⟨w1, hw1⟩ : ∃ w1, w.alloc (.cells (imgC (.slice p bs.length c) (.slice rp ram.length rc) (.slice sp scr.length sc') m).toArray 71) = w1 := ⟨_, rfl⟩
  have hB1 : Below w.heap.size w w1 := by rw [← hw1]; exact (Below.refl _ w).alloc (Nat.le_refl _) _
  have hx : w1.heap[w.heap.size]? = some (.cells (imgC (.slice p bs.length c) (.slice rp ram.length rc) (.slice sp scr.length sc') m).toArray 71 (0, 0)) := by rw [← hw1]; exact heap_alloc_new w _
  have hz : w1.heap.size = w.heap.size + 1 := by rw [← hw1]; simp
  have hwh := whole_any p c bs hl rp sp ram.length rc scr.length sc' m w1 (h.below hB1) ram scr rfl rfl
  rw [hwb] at hwh
  have k0 := cell_of w1 _ 0 _ 71 _ hx rfl
  have k1 := cell_of w1 _ 1 _ 71 _ hx rfl
  have k2 := cell_of w1 _ 2 _ 71 _ hx rfl
  have k3 := cell_of w1 _ 3 _ 71 _ hx rfl
  have k4 := cell_of w1 _ 4 _ 71 _ hx rfl
  have k5 := cell_of w1 _ 5 _ 71 _ hx rfl
  have k6 := cell_of w1 _ 6 _ 71 _ hx rfl
  have k7 := cell_of w1 _ 7 _ 71 _ hx rfl
  have HX : Hid _ := hx
  have HB1 : Hid _ := hB1
  have HZ : Hid _ := hz
  have HRL : Hid _ := hrl
  have HR : Hid _ := hr
  have HS : Hid _ := hs
  clear hx hB1 hz hrl hwb hr hs
  unfold imgC at hw1 hwh ⊢
  go_enter Tryz.func55, Tryz.ntmps55
  go_wp2_with fail
  refine hwh.mono ?_
  rintro e w2 ⟨rfl, hb2⟩
  have hB2 : Below w.heap.size w w2 := HB1.out.trans (hb2.mono HB1.out.size)
  have hx2 := (hb2.block _ (by rw [HZ.out]; omega)).trans HX.out
  have q0 := cell_of w2 _ 0 _ 71 _ hx2 rfl
  have hnw := new_yes p c bs hl w2 (h.below hB2) hm
  clear hwh k0 k1 k2 k3 k4 k5 k6 k7 hw1
  go_wp2_with fail
  refine hnw.mono ?_
  rintro e w3 ⟨b, rfl, ⟨mb, L, tv, hM3⟩, hb3⟩
  have hB3 : Below w.heap.size w w3 := hB2.trans (hb3.mono hB2.size)
  have hz2 : w.heap.size < w2.heap.size := by have := hb2.size; have := HZ.out; omega
  have hbx : b ≠ w.heap.size := by have : w2.heap.size ≤ b := hM3.fb; omega
  have hx3 := (hb3.block _ hz2).trans hx2
  have hM3' : MemP w3.drew (fun k => w.heap.size ≤ k) b { m0 with banks := nbk bs } mb L tv := (hM3.mono fun i _ (hi : w2.heap.size ≤ i) => (by omega : w.heap.size ≤ i)).kept fun _ _ _ => rfl
  have q1 := cell_of w3 _ 1 _ 71 _ hx3 rfl
  obtain ⟨w4, hcp4, hbk4, hk4, hs4, o4, t4, u4⟩ := copy_part w3.drew b 1 16384 (.slice rp ram.length rc) ram _ hM3'.blk (Sl.below HR.out (hB3.drew)) HRL.out.1 (by omega) (by rw [mcells_len _ _ _ hM3'.wf]; omega)
  rw [mcells_ram_new mb _ tv hM3'.wf] at hbk4
  have hw3 := hM3'.wf
  have hM4 : MemP w4 (fun k => w.heap.size ≤ k) b { m0 with banks := nbk bs, ram := ram } mb L tv := hM3'.reblk _ ⟨HRL.out.1, hw3.scr, hw3.ch0, hw3.ch1, hw3.pad0, hw3.pad1, hw3.pitch0, hw3.pitch1, hw3.vol0, hw3.vol1, hw3.time0, hw3.time1, hw3.bk⟩ hbk4 hk4 rfl rfl
  have hB4 : Below w.heap.size w w4 := ⟨o4.trans hB3.os, t4.trans hB3.tape, u4.trans hB3.output, by rw [hs4]; exact hB3.size, fun k hk => (hk4 k (by have : w.heap.size ≤ b := hM4.fb; omega)).trans (hB3.block k hk)⟩
  have hx4 := (hk4 _ hbx.symm).trans hx3
  have hM4' : MemP w4.drew (fun k => w.heap.size ≤ k) b { m0 with banks := nbk bs, ram := ram } mb L tv := hM4.kept fun _ _ _ => rfl
  have q2 := cell_of w4 _ 2 _ 71 _ hx4 rfl
  obtain ⟨w5, hcp5, hbk5, hk5, hs5, o5, t5, u5⟩ := copy_part w4.drew b 16385 3072 (.slice sp scr.length sc') scr _ hM4'.blk (Sl.below HS.out (hB4.drew)) HRL.out.2.1 (by omega) (by rw [mcells_len _ _ _ hM4'.wf]; omega)
  rw [mcells_scr_new mb _ tv hM4'.wf] at hbk5
  have hM5 : MemP w5 (fun k => w.heap.size ≤ k) b { m0 with banks := nbk bs, ram := ram, scr := scr } mb L tv := hM4'.reblk _ ⟨HRL.out.1, HRL.out.2.1, hw3.ch0, hw3.ch1, hw3.pad0, hw3.pad1, hw3.pitch0, hw3.pitch1, hw3.vol0, hw3.vol1, hw3.time0, hw3.time1, hw3.bk⟩ hbk5 hk5 rfl rfl
  have hB5 : Below w.heap.size w w5 := ⟨o5.trans hB4.os, t5.trans hB4.tape, u5.trans hB4.output, by rw [hs5]; exact hB4.size, fun k hk => (hk5 k (by have : w.heap.size ≤ b := hM5.fb; omega)).trans (hB4.block k hk)⟩
  have hx5 := (hk5 _ hbx.symm).trans hx4
  have a3 : w5.cell? ⟨w.heap.size, 3, none⟩ = some (.int .u8 m.ch) := cell_of w5 _ 3 _ 71 _ hx5 rfl
  have a4 : w5.cell? ⟨w.heap.size, 4, none⟩ = some (.int .u8 m.pad) := cell_of w5 _ 4 _ 71 _ hx5 rfl
  have a5 : w5.cell? ⟨w.heap.size, 5, none⟩ = some (.int .u16 m.pitch) := cell_of w5 _ 5 _ 71 _ hx5 rfl
  have a6 : w5.cell? ⟨w.heap.size, 6, none⟩ = some (.int .u8 m.vol) := cell_of w5 _ 6 _ 71 _ hx5 rfl
  have a7 : w5.cell? ⟨w.heap.size, 7, none⟩ = some (.int .u16 m.time) := cell_of w5 _ 7 _ 71 _ hx5 rfl
  have s0 : w5.drew.cell? ⟨w.heap.size, 3, none⟩ = some (.int .u8 m.ch) ∧ w5.drew.cell? ⟨w.heap.size, 4, none⟩ = some (.int .u8 m.pad) ∧ w5.drew.cell? ⟨w.heap.size, 5, none⟩ = some (.int .u16 m.pitch) ∧ w5.drew.cell? ⟨w.heap.size, 6, none⟩ = some (.int .u8 m.vol) ∧ w5.drew.cell? ⟨w.heap.size, 7, none⟩ = some (.int .u16 m.time) := ⟨a3, a4, a5, a6, a7⟩
  have hfin : HasM ((((((w5.setCell ⟨b, 19457, none⟩ (.int .u8 m.ch)).setCell ⟨b, 19458, none⟩ (.int .u8 m.pad)).setCell ⟨b, 19459, none⟩ (.int .u16 m.pitch)).setCell ⟨b, 19460, none⟩ (.int .u8 m.vol)).setCell ⟨b, 19461, none⟩ (.int .u16 m.time))) (fun k => w.heap.size ≤ k) b (mR bs ram scr m) ∧
      Below w.heap.size w ((((((w5.setCell ⟨b, 19457, none⟩ (.int .u8 m.ch)).setCell ⟨b, 19458, none⟩ (.int .u8 m.pad)).setCell ⟨b, 19459, none⟩ (.int .u16 m.pitch)).setCell ⟨b, 19460, none⟩ (.int .u8 m.vol)).setCell ⟨b, 19461, none⟩ (.int .u16 m.time))) := by
    have hbw : w.heap.size ≤ b := hM5.fb
    have w5' := hM5.wf
    have x1 := hM5.reg 0 (.int .u8 m.ch) { m0 with banks := nbk bs, ram := ram, scr := scr, ch := m.ch } (w5'.regs rfl rfl rfl c0 HRL.out.2.2 w5'.pad0 w5'.pad1 w5'.pitch0 w5'.pitch1 w5'.vol0 w5'.vol1 w5'.time0 w5'.time1) rfl rfl rfl rfl rfl
    have x2 := x1.reg 1 (.int .u8 m.pad) { m0 with banks := nbk bs, ram := ram, scr := scr, ch := m.ch, pad := m.pad } (w5'.regs rfl rfl rfl c0 HRL.out.2.2 p0 p1 w5'.pitch0 w5'.pitch1 w5'.vol0 w5'.vol1 w5'.time0 w5'.time1) rfl rfl rfl rfl rfl
    have x3 := x2.reg 2 (.int .u16 m.pitch) { m0 with banks := nbk bs, ram := ram, scr := scr, ch := m.ch, pad := m.pad, pitch := m.pitch } (w5'.regs rfl rfl rfl c0 HRL.out.2.2 p0 p1 t0 t1 w5'.vol0 w5'.vol1 w5'.time0 w5'.time1) rfl rfl rfl rfl rfl
    have x4 := x3.reg 3 (.int .u8 m.vol) { m0 with banks := nbk bs, ram := ram, scr := scr, ch := m.ch, pad := m.pad, pitch := m.pitch, vol := m.vol } (w5'.regs rfl rfl rfl c0 HRL.out.2.2 p0 p1 t0 t1 v0 v1 w5'.time0 w5'.time1) rfl rfl rfl rfl rfl
    have x5 := x4.reg 4 (.int .u16 m.time) (mR bs ram scr m) (w5'.regs rfl rfl rfl c0 HRL.out.2.2 p0 p1 t0 t1 v0 v1 i0 i1) rfl rfl rfl rfl rfl
    refine ⟨⟨mb, L, tv, x5⟩, ?_⟩
    exact ((((hB5.setCell (p := ⟨b, 19457, none⟩) hbw _).setCell (p := ⟨b, 19458, none⟩) hbw _).setCell (p := ⟨b, 19459, none⟩) hbw _).setCell (p := ⟨b, 19460, none⟩) hbw _).setCell (p := ⟨b, 19461, none⟩) hbw _
  have r0 := cell_of w5 b (19457 + 0) _ 146 _ hM5.blk ((mcells_reg mb _ tv hM5.wf 0).trans rfl)
  have r1 := cell_of w5 b (19457 + 1) _ 146 _ hM5.blk ((mcells_reg mb _ tv hM5.wf 1).trans rfl)
  have r2 := cell_of w5 b (19457 + 2) _ 146 _ hM5.blk ((mcells_reg mb _ tv hM5.wf 2).trans rfl)
  have r3 := cell_of w5 b (19457 + 3) _ 146 _ hM5.blk ((mcells_reg mb _ tv hM5.wf 3).trans rfl)
  have r4 := cell_of w5 b (19457 + 4) _ 146 _ hM5.blk ((mcells_reg mb _ tv hM5.wf 4).trans rfl)
  have zz := fun i => frozen_of w5 b i _ 146 hM5.blk
  simp only [Nat.reduceAdd, Nat.add_zero] at r0 r1 r2 r3 r4
  have HF : Hid _ := hfin
  clear hfin hM5 hB5 hx5 hbk5 hk5 hs5 hM4' hM4 hB4 hx4 hbk4 hk4 hs4 hM3 hM3' hB3 hx3 hx2 hb3 hb2 hB2 hnw q0 hw3 o4 t4 u4 o5 t5 u5
  generalize (⟨m0.ram, m0.scr, m0.ch, m0.pad, m0.pitch, m0.vol, m0.time, m0.cyc, m0.tones, nbk bs⟩ : MS) = mm at *
  clear mm
  go_wp2_with fail
  go_region
  go_wp2_with fail
  go_region
  go_wp2_with fail
  clear hcp4 hcp5 q1 q2
  go_region_held (fun w' => w'.cell? ⟨w.heap.size, 3, none⟩ = some (.int .u8 m.ch) ∧ w'.cell? ⟨w.heap.size, 4, none⟩ = some (.int .u8 m.pad) ∧ w'.cell? ⟨w.heap.size, 5, none⟩ = some (.int .u16 m.pitch) ∧ w'.cell? ⟨w.heap.size, 6, none⟩ = some (.int .u8 m.vol) ∧ w'.cell? ⟨w.heap.size, 7, none⟩ = some (.int .u16 m.time))
    (first | (with_reducible exact s0) | (simp only [cell_drew, cell_far _ b _ _ w.heap.size _ hbx.symm]; exact ⟨a3, a4, a5, a6, a7⟩))
    (fail)
  go_wp2
  go_ret2
  exact ⟨_, rfl, HF.out.1.below ((Below.refl _ _).drew), HF.out.2.drew⟩
end Go.Proofs.YteldjmecomngeaaGreat.M
/-! Image, walked. -/
namespace Go.Proofs.YteldjmecomngeaaGreat.M
open Go.RowKit
open Go.Proofs
set_option linter.unusedVariables false
set_option linter.unusedSimpArgs false
set_option maxHeartbeats 4000000
set_option maxRecDepth 100000
theorem image_has (b : Nat) (w : World) {F : Nat → Prop} {m : MS} (hm : HasM w F b m) :
    Calls Tryz.prog 26 #[.pointer (some ⟨b, 0, none⟩)] w fun e w' => ∃ u rv sv gs N1 N2, e = .returned (.agg (imgC u rv sv m).toArray) ∧ ImO w' w.heap.size u rv sv (inO m 16) m.ram m.scr gs N1 N2 ∧ Below w.heap.size w w' := by
  obtain ⟨w1, hw1⟩ : ∃ w1, w1 = (w.alloc (.cells #[.slice none 0 0, .slice none 0 0, .slice none 0 0, .int .u8 0, .int .u8 0, .int .u16 0, .int .u8 0, .int .u16 0] 71)) := ⟨_, rfl⟩
  have hb1 : Below w.heap.size w w1 := by rw [hw1]; exact (Below.refl _ w).alloc (Nat.le_refl _) _
  have hz1 : w1.heap.size = w.heap.size + 1 := by rw [hw1]; simp
  have hr1 : w1.heap[w.heap.size]? = some (.cells [.slice none 0 0, .slice none 0 0, .slice none 0 0, .int .u8 0, .int .u8 0, .int .u16 0, .int .u8 0, .int .u16 0].toArray 71 (0, 0)) := by rw [hw1]; exact heap_alloc_new w _
  have hm1 := hm.below hb1
  have hc1 := inOrder_any b w1.drew (hm1.below (Below.refl _ _).drew)
  have hreg : ∀ {W : World}, HasM W F b m → ∀ (i : Nat) (v : Value), (∀ tv, (regs m tv)[i]? = some v) → W.cell? ⟨b, 19457 + i, none⟩ = some v := by
    intro W h i v hv
    obtain ⟨mb, L, tv, h⟩ := h
    exact cell_of W b (19457 + i) _ 146 _ h.blk ((mcells_reg mb m tv h.wf i).trans (hv tv))
  have hall : ∀ {W : World}, HasM W F b m → W.cell? ⟨b, 19457, none⟩ = some (.int .u8 m.ch) ∧ W.cell? ⟨b, 19458, none⟩ = some (.int .u8 m.pad) ∧ W.cell? ⟨b, 19459, none⟩ = some (.int .u16 m.pitch) ∧ W.cell? ⟨b, 19460, none⟩ = some (.int .u8 m.vol) ∧ W.cell? ⟨b, 19461, none⟩ = some (.int .u16 m.time) :=
    fun h => ⟨hreg h 0 _ fun _ => rfl, hreg h 1 _ fun _ => rfl, hreg h 2 _ fun _ => rfl, hreg h 3 _ fun _ => rfl, hreg h 4 _ fun _ => rfl⟩
  have hram : ∀ {W : World}, HasM W F b m → Sl W (.slice (some ⟨b, 1, none⟩) 16384 16384) m.ram := by
    intro W h
    obtain ⟨mb, L, tv, h⟩ := h
    refine .inr ⟨⟨b, 1, none⟩, 16384, by rw [h.wf.ram], by rw [h.wf.ram]; omega, fun j x hj => ?_⟩
    rw [Addr.add_lit]; exact cell_of W b _ _ 146 _ h.blk (mcells_ram mb m tv h.wf j x hj)
  have hrl : m.ram.length ≤ room := by rw [hm.wf.ram]; unfold room; omega
  have s0 := hall (W := w1.drew) (hm1.below (Below.refl _ _).drew)
  have hrp : 0 < m.ram.length := by rw [hm.wf.ram]; omega
  have hsp : 0 < m.scr.length := by rw [hm.wf.scr]; omega
  have HA : Hid _ := @hall
  have HR : Hid _ := @hram
  have HM1 : Hid _ := hm1
  have HR1 : Hid _ := hr1
  have HB1 : Hid _ := hb1
  have HZ1 : Hid _ := hz1
  have hFin : ∀ w2 w3 w4 : World, Below w1.drew.heap.size w1.drew w2 → Below w2.heap.size w2 w3 → Below w3.heap.size w3 w4 → w4.heap[w.heap.size]? = some (.cells [.slice none 0 0, .slice none 0 0, .slice none 0 0, .int .u8 0, .int .u8 0, .int .u16 0, .int .u8 0, .int .u16 0].toArray 71 (0, 0)) := by
    intro w2 w3 w4 a1 a2 a3
    have z1 : w1.drew.heap.size = w.heap.size + 1 := hz1
    have z2 := a1.size
    have z3 := a2.size
    exact (a3.block _ (by omega)).trans ((a2.block _ (by omega)).trans ((a1.block _ (by omega)).trans hr1))
  have hne : b ≠ w.heap.size := by obtain ⟨mb, L, tv, h⟩ := hm; have := lt_of h.blk; omega
  have HF : Hid _ := hFin
  clear hall hram hm1 hreg hr1 hb1 hz1 hFin hm
  go_enter Tryz.func26, Tryz.ntmps26
  go_wp2_with fail
  rw [← hw1]
  clear hw1
  go_region_held (fun w' => w'.cell? ⟨b, 19457, none⟩ = some (.int .u8 m.ch) ∧ w'.cell? ⟨b, 19458, none⟩ = some (.int .u8 m.pad) ∧ w'.cell? ⟨b, 19459, none⟩ = some (.int .u16 m.pitch) ∧ w'.cell? ⟨b, 19460, none⟩ = some (.int .u8 m.vol) ∧ w'.cell? ⟨b, 19461, none⟩ = some (.int .u16 m.time))
    (first | (with_reducible exact s0) | (with_reducible exact s2) | (with_reducible exact s3) | (with_reducible exact s4) | (simp only [cell_far _ w.heap.size _ _ b _ hne]; with_reducible exact s4))
    (first
      | (go_at_call 57; refine hc1.mono ?_; rintro e w2 ⟨u, gs, rfl, hO2, hb2⟩; obtain ⟨p2, cp2, rfl⟩ := own_form hO2.row; have hm2 := HasM.below HM1.out (W' := w2) ⟨hb2.os, hb2.tape, hb2.output, hb2.size, hb2.block⟩; have s2 := HA.out hm2; have hc2 := clone_any _ m.ram hrl w2 (HR.out hm2); have HO2 : Hid _ := hO2; have HB2 : Hid _ := hb2; have HM2 : Hid _ := hm2; clear hO2 hb2 hm2 hc1 s0)
      | (go_at_call 41; refine hc2.mono ?_; rintro e w3 ⟨rv, rfl, hO3, hb3⟩; obtain ⟨g3, cp3, rfl⟩ := own_pos hO3 hrp; have hm3 := HasM.below HM2.out hb3; have s3 := HA.out hm3; have hc3 := screen_any b w3 hm3; have HO3 : Hid _ := hO3; have HB3 : Hid _ := hb3; have HM3 : Hid _ := hm3; clear hO3 hb3 hm3 hc2 s2)
      | (go_at_call 23; refine hc3.mono ?_; rintro e w4 ⟨sv, rfl, hO4, hb4⟩; obtain ⟨g4, cp4, rfl⟩ := own_pos hO4 hsp; have s4 := HA.out (HasM.below HM3.out hb4); have hr4 := HF.out w2 w3 w4 HB2.out HB3.out hb4; have HO4 : Hid _ := hO4; have HB4 : Hid _ := hb4; clear hO4 hb4 hc3 s3; have f0 := cell_of w4 w.heap.size 0 _ 71 _ hr4 rfl; have f1 := cell_of w4 w.heap.size 1 _ 71 _ hr4 rfl; have f2 := cell_of w4 w.heap.size 2 _ 71 _ hr4 rfl; have f3 := cell_of w4 w.heap.size 3 _ 71 _ hr4 rfl; have f4 := cell_of w4 w.heap.size 4 _ 71 _ hr4 rfl; have f5 := cell_of w4 w.heap.size 5 _ 71 _ hr4 rfl; have f6 := cell_of w4 w.heap.size 6 _ 71 _ hr4 rfl; have f7 := cell_of w4 w.heap.size 7 _ 71 _ hr4 rfl; have z0 := fun i => frozen_of w4 w.heap.size i _ 71 hr4; clear hr4))
  all_goals
    have hx := image_end w w1 w2 w3 w4 m p2 cp2 g3 cp3 g4 cp4 gs HB1.out HZ1.out HB2.out HB3.out HB4.out HO2.out HO3.out HO4.out HR1.out
    go_wp2_with fail
    (try simp only [Exit.inBlock, Exit.then])
    have q0 := cell_of _ w.heap.size 0 _ 71 _ hx.1 rfl
    have q1 := cell_of _ w.heap.size 1 _ 71 _ hx.1 rfl
    have q2 := cell_of _ w.heap.size 2 _ 71 _ hx.1 rfl
    have q3 := cell_of _ w.heap.size 3 _ 71 _ hx.1 rfl
    have q4 := cell_of _ w.heap.size 4 _ 71 _ hx.1 rfl
    have q5 := cell_of _ w.heap.size 5 _ 71 _ hx.1 rfl
    have q6 := cell_of _ w.heap.size 6 _ 71 _ hx.1 rfl
    have q7 := cell_of _ w.heap.size 7 _ 71 _ hx.1 rfl
    refine bodyPost_ret (w := st8 w4 w.heap.size (.slice p2 (inO m 16).length cp2) (.slice (some ⟨g3, 0, none⟩) m.ram.length cp3) (.slice (some ⟨g4, 0, none⟩) m.scr.length cp4) m) (v := .agg (imgC (.slice p2 (inO m 16).length cp2) (.slice (some ⟨g3, 0, none⟩) m.ram.length cp3) (.slice (some ⟨g4, 0, none⟩) m.scr.length cp4) m).toArray) ?_ rfl ⟨_, _, _, _, _, _, rfl, hx.2.1, hx.2.2⟩
    clear hx
    simp [results, Tryz.results26, go_sem, q0, q1, q2, q3, q4, q5, q6, q7, imgC]
end Go.Proofs.YteldjmecomngeaaGreat.M
/-! What an image gives back. -/
namespace Go.Proofs.YteldjmecomngeaaGreat.M
open Go.RowKit
open Go.Proofs
set_option linter.unusedVariables false
set_option linter.unusedSimpArgs false
theorem inO_mem (m : MS) (n : Nat) (l : List UInt8) : ∀ k : Nat, (((n : Int), l) ∈ inO m k ↔ n < k ∧ m.banks n = some l)
  | 0 => by simp [inO]
  | k + 1 => by
    have ih := inO_mem m n l k
    cases hb : m.banks k with
    | none =>
      rw [inO_none m k hb, ih]
      constructor
      · rintro ⟨a, c⟩; exact ⟨by omega, c⟩
      · rintro ⟨a, c⟩
        refine ⟨?_, c⟩
        by_cases e : n = k
        · subst e; rw [hb] at c; cases c
        · omega
    | some x =>
      rw [inO_some m k x hb, List.mem_append, ih]
      constructor
      · rintro (⟨a, c⟩ | h)
        · exact ⟨by omega, c⟩
        · simp at h; obtain ⟨e, rfl⟩ := h; have : n = k := by omega
          subst this; exact ⟨by omega, hb⟩
      · rintro ⟨a, c⟩
        by_cases e : n = k
        · subst e; rw [hb] at c; cases c; right; simp
        · left; exact ⟨by omega, c⟩
theorem inO_fst (m : MS) (k : Nat) (t : Int × List UInt8) (h : t ∈ inO m k) : ∃ n : Nat, t.1 = (n : Int) := by
  simp only [inO, List.mem_filterMap] at h
  obtain ⟨n, _, e⟩ := h
  cases hb : m.banks n with
  | none => rw [hb] at e; simp at e
  | some x => rw [hb] at e; simp at e; exact ⟨n, by rw [← e]⟩
theorem inO_full (m : MS) (hw : Wf m) (k : Nat) : ∀ t ∈ inO m k, t.2.length = 16384 := by
  intro t ht
  obtain ⟨n, hn⟩ := inO_fst m k t ht
  have : ((n : Int), t.2) ∈ inO m k := by rw [← hn]; exact ht
  exact (hw.bk _ _ ((inO_mem m n t.2 k).1 this).2).2
theorem may_pw : ∀ (bs : List (Int × List UInt8)) (last : Int), (∀ t ∈ bs, last < t.1 ∧ t.1 < 16 ∧ t.2.length ≤ 16384) → bs.Pairwise (fun a b => a.1 < b.1) → mayB last bs = true
  | [], _, _, _ => rfl
  | t :: r, last, h, hp => by
    have h0 := h t (List.mem_cons_self ..)
    rw [List.pairwise_cons] at hp
    have ih := may_pw r t.1 (fun u hu => ⟨hp.1 u hu, (h u (List.mem_cons_of_mem _ hu)).2⟩) hp.2
    rw [mayB, if_neg (by omega)]
    exact ih
theorem inO_lt (m : MS) (k : Nat) (t : Int × List UInt8) (h : t ∈ inO m k) : ∃ n : Nat, t.1 = (n : Int) ∧ n < k ∧ m.banks n = some t.2 := by
  obtain ⟨n, hn⟩ := inO_fst m k t h
  have : ((n : Int), t.2) ∈ inO m k := by rw [← hn]; exact h
  have e := (inO_mem m n t.2 k).1 this
  exact ⟨n, hn, e.1, e.2⟩
theorem inO_pw (m : MS) : ∀ k, (inO m k).Pairwise (fun a b => a.1 < b.1)
  | 0 => by simp [inO]
  | k + 1 => by
    have ih := inO_pw m k
    cases hb : m.banks k with
    | none => rw [inO_none m k hb]; exact ih
    | some x =>
      rw [inO_some m k x hb, List.pairwise_append]
      refine ⟨ih, by simp, fun a ha b hb' => ?_⟩
      obtain ⟨n, hn, hlt, _⟩ := inO_lt m k a ha
      simp at hb'
      subst hb'
      simp only
      omega
theorem inO_may (m : MS) (hw : Wf m) : mayB (-1) (inO m 16) = true := by
  refine may_pw _ _ (fun t ht => ?_) (inO_pw m 16)
  obtain ⟨n, hn, hlt, hb⟩ := inO_lt m 16 t ht
  have := (hw.bk n _ hb).2
  omega
theorem inO_wh (m : MS) (hw : Wf m) : whB (inO m 16) m.ram m.scr m.ch = true := by
  have h1 : allF (inO m 16) = true := by
    rw [allF, List.all_eq_true]
    intro t ht
    have := inO_full m hw 16 t ht
    simpa using this
  simp [whB, h1, hw.ram, hw.scr, hw.ch1]
theorem nbk_inO (m : MS) (hw : Wf m) : nbk (inO m 16) = m.banks := by
  funext n
  unfold nbk
  cases hf : (inO m 16).find? (fun t => t.1 == (n : Int)) with
  | none =>
    cases hb : m.banks n with
    | none => rfl
    | some l =>
      exfalso
      rw [List.find?_eq_none] at hf
      have := hf ((n : Int), l) ((inO_mem m n l 16).2 ⟨(hw.bk n l hb).1, hb⟩)
      simp at this
  | some t =>
    have h1 := List.mem_of_find?_eq_some hf
    have h2 := List.find?_some hf
    obtain ⟨k, hk, _, hb⟩ := inO_lt m 16 t h1
    have e : k = n := by simp at h2; omega
    subst e
    have hl := (hw.bk k _ hb).2
    rw [hb]
    simp only [Option.map_some, Option.some.injEq]
    rw [pad, hl]; simp
/-- A memory as its image gives it back. -/
def rs (m : MS) : MS := { m with cyc := 0, tones := [] }
theorem mR_rs (m : MS) (hw : Wf m) : mR (inO m 16) m.ram m.scr m = rs m := by
  unfold mR rs
  rw [nbk_inO m hw]
theorem bg_rs (m : MS) (p : Int) : bg (rs m) p = bg m p := rfl
theorem own_form' {w : World} {B : Nat} {e : TypeId} {size : Nat} {v : Value} {n : Nat} {xs : List Value} (h : w.ownsRow B e size v n xs) : ∃ p cap, v = .slice p n cap := by
  rcases h.2 with ⟨h, e⟩ | ⟨g, cap, cur, h1, _⟩
  · exact ⟨none, 0, by rw [h, e]⟩
  · exact ⟨_, cap, h1⟩
theorem inO_forms {W : World} {B : Nat} {u rv sv : Value} {bs : List (Int × List UInt8)} {ram scr : List UInt8} {gs : List (Nat × Nat)} {N1 N2 : Nat} (h : ImO W B u rv sv bs ram scr gs N1 N2) (hd : ∀ t ∈ bs, t.2.length ≤ room) :
    ∃ p c rp rc sp sc', u = .slice p bs.length c ∧ rv = .slice rp ram.length rc ∧ sv = .slice sp scr.length sc' ∧ BnS W p bs ∧ Sl W rv ram ∧ Sl W sv scr := by
  obtain ⟨p, c, e, hb⟩ := h.banks.ex hd
  obtain ⟨rp, rc, e2⟩ := own_form' h.ram
  obtain ⟨sp, sc', e3⟩ := own_form' h.scr
  exact ⟨p, c, rp, rc, sp, sc', e, e2, e3, hb, h.ram.sl, h.scr.sl⟩
end Go.Proofs.YteldjmecomngeaaGreat.M
/-! A machine goes on: what stays so, frame by frame. -/
namespace Go.Proofs.YteldjmecomngeaaGreat.V
open Go.RowKit
open Go.Proofs
set_option linter.unusedVariables false
set_option linter.unusedSimpArgs false
set_option maxHeartbeats 2000000
set_option maxRecDepth 100000
/-! ### The numbers of the banks -/
def bn (m : M.MS) (n : Nat) : Bool := (m.banks n).isSome
theorem stp_bn (m : M.MS) (z : Int) (x : UInt8) (n : Nat) : bn (M.stp m z x) n = bn m n := by
  unfold M.stp
  split
  · rfl
  · split
    · rfl
    · split
      · rfl
      · split <;> rfl
theorem st_bn (m : M.MS) (z : Int) (x : UInt8) (n : Nat) : bn (M.st m z x) n = bn m n := by
  unfold M.st
  split
  · rfl
  · split
    · split
      · rfl
      · rename_i l hl
        unfold bn
        simp only [M.upd]
        split
        · rename_i e; rw [e, hl]; rfl
        · rfl
    · split
      · rfl
      · split
        · rfl
        · exact stp_bn m z x n
theorem sc_bn (m : M.MS) (a b : Int) (n : Nat) : bn (M.sc m a b) n = bn m n := by
  unfold M.sc; rw [st_bn, st_bn]
theorem mem_bn (op x y z : Int) (m : M.MS) (n : Nat) : bn (P.memN op x y z m) n = bn m n := by
  unfold P.memN
  split
  · exact sc_bn _ _ _ _
  · exact st_bn _ _ _ _
  · exact sc_bn _ _ _ _
  · unfold M.plt; split
    · exact st_bn _ _ _ _
    · rfl
  · rw [st_bn, sc_bn]
  · exact st_bn _ _ _ _
  · rfl
/-! ### The kinds of what is put aside -/
def Rk (R : List (Int × Int)) : Prop := ∀ q ∈ R, 1 ≤ q.1 ∧ q.1 ≤ 4
theorem Rk.ok {R : List (Int × Int)} (h : Rk R) : S.okR R = true := by
  unfold S.okR
  rw [List.all_eq_true]
  intro t ht
  have := h t ht
  simp [S.okK, this.1, this.2]
theorem Rk.app {R : List (Int × Int)} (h : Rk R) {S : List (Int × Int)} (k : Rk S) : Rk (R ++ S) := by
  intro q hq
  rcases List.mem_append.1 hq with e | e
  · exact h q e
  · exact k q e
theorem Rk.one {k x : Int} (h : 1 ≤ k ∧ k ≤ 4) : Rk [(k, x)] := by intro q hq; simp at hq; subst hq; exact h
theorem Rk.sub {R S : List (Int × Int)} (h : Rk R) (k : ∀ q ∈ S, q ∈ R) : Rk S := fun q hq => h q (k q hq)
theorem turn_rk (v : VS) (h : Rk v.R) : Rk (turn v).v.R := by
  unfold turn
  split
  · exact h
  · rename_i k i t ht
    have hm : ∀ q ∈ t, q ∈ v.R := fun q hq => by
      have : q ∈ v.R.reverse := by rw [ht]; exact List.mem_cons_of_mem _ hq
      simpa using this
    split
    · exact h
    · split
      · exact h
      · rename_i k2 l t2
        split
        · exact h
        · split
          · exact (h.sub (S := ((k2, l) :: t2).reverse) fun q hq => hm q (List.mem_reverse.1 hq)).app (Rk.one (by decide))
          · exact h.sub (S := t2.reverse) fun q hq => hm q (List.mem_cons_of_mem _ (by simpa using hq))
theorem dn_rk (op x be : Int) (v : VS) (h : Rk v.R) : Rk (dn op x be v).v.R := by
  unfold dn
  split
  · split
    · exact h
    · exact h.app (Rk.one (by decide))
  · split <;> exact h
  · split <;> exact h
  · exact h
  · split <;> exact h
  · split <;> exact turn_rk v h
  · split
    · exact h
    · rename_i k a t ht
      split
      · refine h.sub (S := t.reverse) fun q hq => ?_
        have : q ∈ v.R.reverse := by rw [ht]; exact List.mem_cons_of_mem _ (by simpa using hq)
        simpa using this
      · exact h
  · exact h
  · exact h
  · unfold pl; simp only
    split
    · show Rk (P.nR _ v.D v.R)
      unfold P.nR P.retN
      split
      · refine h.app ?_
        intro q hq
        simp at hq
        rcases hq with rfl | rfl <;> simp
      · exact h.app (Rk.one (by decide))
      · exact h.sub fun q hq => List.mem_of_mem_take hq
      · exact h
    · exact h
theorem turn_m' (v : VS) : (turn v).v.m = v.m := turn_m v
theorem dn_bn (op x be : Int) (v : VS) (n : Nat) : bn (dn op x be v).v.m n = bn v.m n := by
  unfold dn
  split
  · split <;> rfl
  · split <;> rfl
  · split <;> rfl
  · rfl
  · split <;> rfl
  · split <;> (simp only; rw [turn_m])
  · split
    · rfl
    · split <;> rfl
  · rfl
  · rfl
  · unfold pl; simp only
    split
    · exact mem_bn _ _ _ _ _ _
    · rfl
/-! ### The faults -/
theorem need_r (n : Nat) (i o : Int) : 0 ≤ S.need n i o ∧ S.need n i o ≤ 7 := by
  unfold S.need
  split
  · decide
  · split <;> decide
theorem lk_r (k : Int) (bl : Nat) (R : List (Int × Int)) : 0 ≤ (P.lk k bl R).2 ∧ (P.lk k bl R).2 ≤ 7 := by
  unfold P.lk
  split
  · decide
  · split
    · decide
    · split
      · show (0 : Int) ≤ 0 ∧ (0 : Int) ≤ 7; decide
      · decide
theorem fl_r (op : Int) (D : List Int) (R : List (Int × Int)) : 0 ≤ P.fl op D R ∧ P.fl op D R ≤ 7 := by
  unfold P.fl P.flt
  split
  · exact need_r _ _ _
  · split
    · exact lk_r _ _ _
    · split <;> decide
theorem turn_f (v : VS) : 0 ≤ (turn v).f ∧ (turn v).f ≤ 7 := by
  unfold turn
  split
  · simp
  · split
    · simp
    · split
      · simp
      · split
        · simp
        · split <;> simp
theorem dn_f (op x be : Int) (v : VS) : 0 ≤ (dn op x be v).f ∧ (dn op x be v).f ≤ 7 := by
  unfold dn
  split
  · split <;> simp
  · split <;> simp
  · split <;> simp
  · simp
  · split <;> simp
  · split
    · simp
    · exact turn_f v
  · split
    · simp
    · split <;> simp
  · simp
  · simp
  · exact fl_r _ _ _
theorem look2_f (c : List UInt8) (pc w op : Int) : 0 ≤ (look2 c pc w op).f ∧ (look2 c pc w op).f ≤ 7 := by
  unfold look2
  split
  · simp
  · split <;> simp
theorem look_f (v : VS) : 0 ≤ (look v).f ∧ (look v).f ≤ 7 := by
  unfold look look0 look1
  split
  · split
    · decide
    · split
      · decide
      · exact look2_f _ _ _ _
  · decide
/-! ### What stays -/
structure Gd (b : Nat → Bool) (v : VS) : Prop where
  r : Rk v.R
  s : okS v.st v.fa
  n : ∀ n, bn v.m n = b n
theorem Gd.fail {b : Nat → Bool} {v : VS} (h : Gd b v) {f : Int} (h0 : 0 ≤ f ∧ f ≤ 7) (hf : f ≠ 0) : Gd b (fail f v) := ⟨h.r, .inr (.inr ⟨rfl, by show 1 ≤ f; omega, h0.2⟩), h.n⟩
theorem Gd.cyc {b : Nat → Bool} {v : VS} (h : Gd b v) (s : Int) : Gd b (cyc s v) := ⟨h.r, h.s, h.n⟩
theorem Gd.bg {b : Nat → Bool} {v : VS} (h : Gd b v) (p : Int) : Gd b { v with m := M.bg v.m p } := ⟨h.r, h.s, h.n⟩
theorem Gd.doo {b : Nat → Bool} {v : VS} (h : Gd b v) (h1 : v.st = 1) (op : Nat) (x : Int) : Gd b (doo op x v).2 := by
  have hd := dn_st op x (beh v.pc op) v
  have hf : v.fa = 0 := by
    rcases h.s with ⟨_, e⟩ | ⟨e, _⟩ | ⟨e, _⟩
    · exact e
    · rw [h1] at e; exact absurd e (by decide)
    · rw [h1] at e; exact absurd e (by decide)
  unfold V.doo
  simp only
  split
  · refine ⟨dn_rk op x _ v h.r, ?_, fun n => (dn_bn op x _ v n).trans (h.n n)⟩
    show okS (dn op x (beh v.pc op) v).v.st (dn op x (beh v.pc op) v).v.fa
    rw [hd.2, hf]
    rcases hd.1 with e | e
    · exact .inl ⟨e.trans h1, rfl⟩
    · exact .inr (.inl ⟨e, rfl⟩)
  · exact h
theorem wk_gd {b : Nat → Bool} (B : Int) : ∀ (k : Nat) (v : VS) (n s : Int), Gd b v → Gd b (wk k B v n s).v
  | 0, v, n, s, h => h
  | k + 1, v, n, s, h => by
    unfold wk
    split
    · rename_i q
      have hc : Gd b (cyc s v) := h.cyc s
      split
      · split
        · exact h
        · split
          · split
            · exact hc.doo q.1 _ _
            · exact wk_gd B k _ _ _ (hc.doo q.1 _ _)
          · rename_i q5
            exact hc.fail (dn_f _ _ _ _) q5
      · rename_i q3; exact h.fail (look_f v) q3
    · exact h
theorem frame_gd {b : Nat → Bool} {v : VS} (pad B : Int) (h : Gd b v) : Gd b (frame v pad B).v := wk_gd B _ _ _ _ (h.bg pad)
theorem frame_tones (v : VS) (pad B : Int) (h : B ≤ 16384) : (frame v pad B).v.m.tones.length ≤ 60000 := by
  have := wk_tones B B.toNat { v with m := M.bg v.m pad } 0 0
  have e : ({ v with m := M.bg v.m pad } : VS).m.tones.length = 0 := rfl
  rw [e] at this
  unfold frame
  omega
/-! ### The banks' numbers are the cartridge's -/
theorem asc_eq : ∀ (a b : List Int), a.Pairwise (· < ·) → b.Pairwise (· < ·) → (∀ x, x ∈ a ↔ x ∈ b) → a = b
  | [], [], _, _, _ => rfl
  | [], y :: b, _, _, h => absurd ((h y).2 (List.mem_cons_self ..)) (by simp)
  | x :: a, [], _, _, h => absurd ((h x).1 (List.mem_cons_self ..)) (by simp)
  | x :: a, y :: b, ha, hb, h => by
    rw [List.pairwise_cons] at ha hb
    have e : x = y := by
      have h1 := (h x).1 (List.mem_cons_self ..)
      have h2 := (h y).2 (List.mem_cons_self ..)
      rcases List.mem_cons.1 h1 with e | e
      · exact e
      · rcases List.mem_cons.1 h2 with f | f
        · exact f.symm
        · have := hb.1 x e; have := ha.1 y f; omega
    subst e
    rw [asc_eq a b ha.2 hb.2 fun z => ?_]
    constructor
    · intro hz
      have := ha.1 z hz
      rcases List.mem_cons.1 ((h z).1 (List.mem_cons_of_mem _ hz)) with e | e
      · omega
      · exact e
    · intro hz
      have := hb.1 z hz
      rcases List.mem_cons.1 ((h z).2 (List.mem_cons_of_mem _ hz)) with e | e
      · omega
      · exact e
theorem bankG_asc : ∀ (bs : List (Int × List UInt8)) (p : Int), T.bankG p bs = true → (∀ t ∈ bs, p < t.1 ∧ t.1 < 16) ∧ (bs.map Prod.fst).Pairwise (· < ·)
  | [], _, _ => ⟨by simp, by simp⟩
  | t :: r, p, h => by
    simp only [T.bankG, Bool.and_eq_true, decide_eq_true_eq] at h
    obtain ⟨i1, i2⟩ := bankG_asc r t.1 h.2
    refine ⟨fun u hu => ?_, ?_⟩
    · rcases List.mem_cons.1 hu with rfl | e
      · exact h.1.1
      · have := i1 u e; have := h.1.1; omega
    · rw [List.map_cons, List.pairwise_cons]
      refine ⟨fun x hx => ?_, i2⟩
      obtain ⟨u, hu, rfl⟩ := List.mem_map.1 hx
      exact (i1 u hu).1
theorem nbk_some (bs : List (Int × List UInt8)) (n : Nat) : (M.nbk bs n).isSome = true ↔ (n : Int) ∈ bs.map Prod.fst := by
  unfold M.nbk
  rw [Option.isSome_map, List.find?_isSome]
  constructor
  · rintro ⟨t, ht, e⟩
    exact List.mem_map.2 ⟨t, ht, by simpa using e⟩
  · intro h
    obtain ⟨t, ht, e⟩ := List.mem_map.1 h
    exact ⟨t, ht, by simpa using e⟩
theorem same_nums {c : T.Ct} (hc : T.bankG (-1) c.banks = true) {v : VS} (h : Gd (fun n => (M.nbk c.banks n).isSome) v) : (M.inO v.m 16).map Prod.fst = c.banks.map Prod.fst := by
  obtain ⟨h1, h2⟩ := bankG_asc _ _ hc
  refine asc_eq _ _ ?_ h2 fun x => ?_
  · rw [List.pairwise_map]; exact M.inO_pw v.m 16
  · constructor
    · intro hx
      obtain ⟨t, ht, rfl⟩ := List.mem_map.1 hx
      obtain ⟨n, hn, _, hb⟩ := M.inO_lt v.m 16 t ht
      rw [hn, ← nbk_some]
      have := h.n n
      rw [← this]; unfold bn; rw [hb]; rfl
    · intro hx
      obtain ⟨t, ht, rfl⟩ := List.mem_map.1 hx
      have hr := h1 t ht
      obtain ⟨n, hn⟩ : ∃ n : Nat, t.1 = (n : Int) := ⟨t.1.toNat, by omega⟩
      have hs := (nbk_some c.banks n).2 (by rw [← hn]; exact hx)
      have hb := (h.n n).trans hs
      unfold bn at hb
      obtain ⟨l, hl⟩ := Option.isSome_iff_exists.1 hb
      exact List.mem_map.2 ⟨((n : Int), l), (M.inO_mem v.m n l 16).2 ⟨by omega, hl⟩, hn.symm⟩
theorem born_gd (c : T.Ct) : Gd (fun n => (M.nbk c.banks n).isSome) (born c) := ⟨fun q hq => (by cases hq), .inl ⟨rfl, rfl⟩, fun n => rfl⟩
theorem Gd.may {b : Nat → Bool} {v : VS} (h : Gd b v) (hd : v.D.length ≤ 256) (hr : v.R.length ≤ 128) : S.mayS v.D v.R = true := by
  unfold S.mayS
  rw [h.r.ok]; simp [hd, hr]
end Go.Proofs.YteldjmecomngeaaGreat.V
/-! Restore. -/
namespace Go.Proofs.YteldjmecomngeaaGreat.V
open Go.RowKit
open Go.Proofs
set_option linter.unusedVariables false
set_option linter.unusedSimpArgs false
set_option maxHeartbeats 4000000
set_option maxRecDepth 100000
theorem sizeSt : (Tryz.prog.info? 125).map (·.size) = some 5 := by kernel_rfl
theorem sizeIm : (Tryz.prog.info? 71).map (·.size) = some 8 := by kernel_rfl
theorem standing_yes (pc st fa : Int) (p q : Option Addr) (cd cr : Nat) (D : List Int) (R : List (Int × Int)) (hs : okS st fa) (hm : S.mayS D R = true) (w : World) (h1 : S.Sl S.eU 1 w p D) (h2 : S.Sl S.eK 2 w q R) :
    Calls Tryz.prog 54 #[.agg #[.int .u16 pc, .int .i64 st, .int .i64 fa, .slice p D.length cd, .slice q R.length cr]] w fun e w' => ∃ b1 b2, e = .returned (.tuple #[.agg #[.int .u16 pc, .int .i64 st, .int .i64 fa, .pointer (some ⟨b1, 0, none⟩), .pointer (some ⟨b2, 0, none⟩)], .int .i64 0]) ∧ S.HasD w' b1 D ∧ S.HasR w' b2 R ∧ w.heap.size ≤ b1 ∧ w.heap.size ≤ b2 ∧ b1 ≠ b2 ∧ Below w.heap.size w w' := by
  have hl : D.length ≤ 256 ∧ R.length ≤ 128 := by
    unfold S.mayS at hm; simp only [Bool.and_eq_true, decide_eq_true_eq] at hm; exact hm.2
  obtain ⟨W, hW⟩ : ∃ W, W = ((w.alloc (.cells #[.int .u16 pc, .int .i64 st, .int .i64 fa, .slice p D.length cd, .slice q R.length cr] 46)).alloc (.cells #[.int .u16 0, .int .i64 0, .int .i64 0, .pointer none, .pointer none] 125)) := ⟨_, rfl⟩
  have hB : Below w.heap.size w W := by rw [hW]; exact ((Below.refl _ w).alloc (Nat.le_refl _) _).alloc (by simp) _
  have n1 : W.heap[w.heap.size]? = some (.cells #[.int .u16 pc, .int .i64 st, .int .i64 fa, .slice p D.length cd, .slice q R.length cr] 46 (0, 0)) := by rw [hW]; exact heap_alloc2_old w _ _
  have n2 : W.heap[w.heap.size + 1]? = some (.cells #[.int .u16 0, .int .i64 0, .int .i64 0, .pointer none, .pointer none] 125 (0, 0)) := by rw [hW]; exact heap_alloc2_new w _ _
  have nst := statusMayBe_yes st fa hs
  have ks := S.stacks_any p q cd cr D R (Nat.le_trans hl.1 (by unfold S.room; omega)) (Nat.le_trans hl.2 (by unfold S.room; omega)) W (h1.below hB) (h2.below hB)
  have a1 := S.cell_of W _ 1 [.int .u16 pc, .int .i64 st, .int .i64 fa, .slice p D.length cd, .slice q R.length cr] _ _ n1 rfl
  have a2 := S.cell_of W _ 2 [.int .u16 pc, .int .i64 st, .int .i64 fa, .slice p D.length cd, .slice q R.length cr] _ _ n1 rfl
  have a3 := S.cell_of W _ 3 [.int .u16 pc, .int .i64 st, .int .i64 fa, .slice p D.length cd, .slice q R.length cr] _ _ n1 rfl
  have a4 := S.cell_of W _ 4 [.int .u16 pc, .int .i64 st, .int .i64 fa, .slice p D.length cd, .slice q R.length cr] _ _ n1 rfl
  have HB := S.hid hB
  have HN1 := S.hid n1
  have HN2 := S.hid n2
  have HM := S.hid hm
  have hW' := hW.symm
  clear h1 h2 hB n1 n2 hW hs hm hl
  go_enter Tryz.func54, Tryz.ntmps54
  go_wp2_with (first | (go_at_call 92; refine (nst _).mono ?_; rintro e wq ⟨rfl, hwq⟩; obtain rfl := hwq.symm))
  refine ks.mono ?_
  rintro e w2 ⟨hb2, hcase⟩
  rcases hcase with ⟨_, b1, b2, rfl, hD, hR, l1, l2, ne⟩ | ⟨hno, _⟩
  case inr => rw [HM.out] at hno; cases hno
  have m1 := (hb2.block _ (S.lt_of HN1.out)).trans HN1.out
  have m2 := (hb2.block _ (S.lt_of HN2.out)).trans HN2.out
  have a0 := S.cell_of w2 _ 0 [.int .u16 pc, .int .i64 st, .int .i64 fa, .slice p D.length cd, .slice q R.length cr] _ _ m1 rfl
  have a1 := S.cell_of w2 _ 1 [.int .u16 pc, .int .i64 st, .int .i64 fa, .slice p D.length cd, .slice q R.length cr] _ _ m1 rfl
  have a2 := S.cell_of w2 _ 2 [.int .u16 pc, .int .i64 st, .int .i64 fa, .slice p D.length cd, .slice q R.length cr] _ _ m1 rfl
  have hB2 := trB HB.out hb2 HB.out.size
  have hlt := S.lt_of HN2.out
  have HX := S.hid (And.intro hD (And.intro hR (And.intro l1 (And.intro l2 (And.intro ne (And.intro hB2 hlt))))))
  have hs0 := HB.out.size
  clear ks nst hb2 hD hR l1 l2 ne hB2 hlt m1 HN1 hs0 hW' a3 a4
  go_wp2_with (refine wpList_store_row rfl 125 _ _ rfl (w.heap.size + 1) _ rfl rfl 125 #[.int .u16 0, .int .i64 0, .int .i64 0, .pointer none, .pointer none] m2 (by exact sizeSt) (by rfl) (by simp [Value.oneCell']) ?_)
  have hfin := setRow_heap w2 (w.heap.size + 1) _ #[.int .u16 pc, .int .i64 st, .int .i64 fa, .pointer (some ⟨b1, 0, none⟩), .pointer (some ⟨b2, 0, none⟩)] _ _ m2
  obtain ⟨hD, hR, l1, l2, ne, hB2, hlt⟩ := HX.out
  have hs0 := HB.out.size
  have o : ∀ k, W.heap.size ≤ k → (w2.setRow (w.heap.size + 1) #[.int .u16 pc, .int .i64 st, .int .i64 fa, .pointer (some ⟨b1, 0, none⟩), .pointer (some ⟨b2, 0, none⟩)]).heap[k]? = w2.heap[k]? := fun k hk => setRow_other w2 _ k _ (by omega)
  refine bodyPost_ret (v := .tuple #[.agg #[.int .u16 pc, .int .i64 st, .int .i64 fa, .pointer (some ⟨b1, 0, none⟩), .pointer (some ⟨b2, 0, none⟩)], .int .i64 0]) ?_ rfl ⟨b1, b2, rfl, hD.kept (o _ l1), hR.kept (o _ l2), Nat.le_trans hs0 l1, Nat.le_trans hs0 l2, ne, P.Below.setRow hB2 _ (by omega) _⟩
  rw [results_cell_tmp rfl]
  simp [asAddr, run_loadVar_row _ (w.heap.size + 1) _ 125 _ _ _ hfin Tryz.underlying125 rfl sizeSt]
theorem three (w : World) (a b c : Obj) :
    (((w.alloc a).alloc b).alloc c).heap[w.heap.size]? = some a ∧ (((w.alloc a).alloc b).alloc c).heap[w.heap.size + 1]? = some b ∧ (((w.alloc a).alloc b).alloc c).heap[w.heap.size + 1 + 1]? = some c ∧ Below w.heap.size w (((w.alloc a).alloc b).alloc c) ∧ (((w.alloc a).alloc b).alloc c).heap.size = w.heap.size + 3 := by
  have e1 : (w.alloc a).heap.size = w.heap.size + 1 := by simp
  have e2 : ((w.alloc a).alloc b).heap.size = w.heap.size + 1 + 1 := by simp
  have b1 := P.bel_alloc w a
  have b2 := P.bel_alloc (w.alloc a) b
  have b3 := P.bel_alloc ((w.alloc a).alloc b) c
  have h1 := heap_alloc_new w a
  have h2 := heap_alloc_new (w.alloc a) b
  have h3 := heap_alloc_new ((w.alloc a).alloc b) c
  rw [e1] at h2
  rw [e2] at h3
  exact ⟨(b3.block _ (by omega)).trans ((b2.block _ (by omega)).trans h1), (b3.block _ (by omega)).trans h2, h3, trB (trB b1 b2 b1.size) b3 (by omega), by simp⟩
theorem rest_mv (w w2 W3 w4 w5 w6 : World) (b1 b2 bm : Nat) (D : List Int) (R : List (Int × Int)) (pc st fa : Int) (m : M.MS) (code : List UInt8) (p1 : Option Addr) (c1 : Nat) (hpc : C.C pc) (hDC : ∀ x ∈ D, C.C x) (hRC : ∀ q ∈ R, C.C q.2) (hcl : code.length ≤ 16384)
    (hD : S.HasD w2 b1 D) (hR : S.HasR w2 b2 R) (l1 : w.heap.size ≤ b1) (l2 : w.heap.size ≤ b2) (ne : b1 ≠ b2) (hB2 : Below w.heap.size w w2) (b23 : Below w2.heap.size w2 W3) (hM : M.HasM w4 (fun k => W3.heap.size ≤ k) bm m) (b34 : Below W3.heap.size W3 w4) (b45 : Below w4.heap.size w4 w5) (b56 : Below w5.heap.size w5 w6) (hr : M.Row w6 w5.heap.size (.slice p1 code.length c1) code) :
    MV (w6.alloc (.cells #[.int .u16 pc, .int .i64 st, .int .i64 fa, .pointer (some ⟨b1, 0, none⟩), .pointer (some ⟨b2, 0, none⟩), .slice p1 code.length c1, .pointer (some ⟨bm, 0, none⟩)] 128)) w6.heap.size b1 b2 bm (.slice p1 code.length c1) (fun k => W3.heap.size ≤ k ∧ k < w4.heap.size) ⟨code, pc, st, fa, D, R, m⟩ ∧
    Fresh w.heap.size w6.heap.size b1 b2 bm (.slice p1 code.length c1) (fun k => W3.heap.size ≤ k ∧ k < w4.heap.size) ∧ Below w.heap.size w (w6.alloc (.cells #[.int .u16 pc, .int .i64 st, .int .i64 fa, .pointer (some ⟨b1, 0, none⟩), .pointer (some ⟨b2, 0, none⟩), .slice p1 code.length c1, .pointer (some ⟨bm, 0, none⟩)] 128)) := by
  have b67 := P.bel_alloc w6 (.cells #[.int .u16 pc, .int .i64 st, .int .i64 fa, .pointer (some ⟨b1, 0, none⟩), .pointer (some ⟨b2, 0, none⟩), .slice p1 code.length c1, .pointer (some ⟨bm, 0, none⟩)] 128)
  have z7 := heap_alloc_new w6 (.cells #[.int .u16 pc, .int .i64 st, .int .i64 fa, .pointer (some ⟨b1, 0, none⟩), .pointer (some ⟨b2, 0, none⟩), .slice p1 code.length c1, .pointer (some ⟨bm, 0, none⟩)] 128)
  have s0 := hB2.size
  have s1 := b23.size
  have s2 := b34.size
  have s3 := b45.size
  have s4 := b56.size
  have s5 := b67.size
  have d1 := S.lt_of hD.1
  have d2 := S.lt_of hR.1
  have b47 : Below w4.heap.size w4 (w6.alloc (.cells #[.int .u16 pc, .int .i64 st, .int .i64 fa, .pointer (some ⟨b1, 0, none⟩), .pointer (some ⟨b2, 0, none⟩), .slice p1 code.length c1, .pointer (some ⟨bm, 0, none⟩)] 128)) := trB (trB b45 b56 b45.size) b67 (by omega)
  have b27 : Below w2.heap.size w2 (w6.alloc (.cells #[.int .u16 pc, .int .i64 st, .int .i64 fa, .pointer (some ⟨b1, 0, none⟩), .pointer (some ⟨b2, 0, none⟩), .slice p1 code.length c1, .pointer (some ⟨bm, 0, none⟩)] 128)) := trB (trB b23 b34 b23.size) b47 (by omega)
  have hM' : M.HasM w4 (fun k => W3.heap.size ≤ k ∧ k < w4.heap.size) bm m := M.HasM.mono (G := fun k => W3.heap.size ≤ k ∧ k < w4.heap.size) hM fun i hi e => ⟨e, hi⟩
  refine ⟨⟨z7, ⟨hD.below b27, hR.below b27, hM'.kept fun i hi _ => b47.block i hi, ne, (by rintro ⟨e, _⟩; omega), (by rintro ⟨e, _⟩; omega)⟩, (hr.below b67).sl, hcl, ?_, ?_, ?_, by omega, by omega, (by rintro ⟨_, e⟩; omega), ⟨hpc.1, hpc.2, hDC, hRC⟩⟩, ⟨by omega, by omega, by omega, ?_, ?_⟩, trB hB2 b27 s0⟩
  · intro k e; have := own_lt hr k e; omega
  · intro k e; have := own_lt hr k e; exact ⟨by omega, by omega, by omega, by rintro ⟨_, f⟩; omega⟩
  · rintro k ⟨_, e⟩; omega
  · intro k e; have := own_lt hr k e; omega
  · rintro k ⟨e, _⟩; omega
theorem restore_is (v : Value) (c : T.Ct) (ep : Option Addr) (ec : Nat) (bp : Option Addr) (bc : Nat) (kv : Value) (pc st fa : Int) (p q : Option Addr) (cd cr : Nat) (D : List Int) (R : List (Int × Int)) (m : M.MS) (ip rp sp : Option Addr) (icap rc scap : Nat) (w : World)
    (h : T.IsC w v c ep ec bp bc kv) (hm : T.may c = true) (hpc : C.C pc) (hs : okS st fa) (hmS : S.mayS D R = true) (hDC : ∀ x ∈ D, C.C x) (hRC : ∀ q ∈ R, C.C q.2) (h1 : S.Sl S.eU 1 w p D) (h2 : S.Sl S.eK 2 w q R)
    (hI : M.BnS w ip (M.inO m 16)) (hr : M.Sl w (.slice rp m.ram.length rc) m.ram) (hsc : M.Sl w (.slice sp m.scr.length scap) m.scr) (hw : M.Wf m) (hn : (M.inO m 16).map Prod.fst = c.banks.map Prod.fst) :
    Calls Tryz.prog 25 #[v, .agg #[.int .u16 pc, .int .i64 st, .int .i64 fa, .slice p D.length cd, .slice q R.length cr], .agg #[.slice ip (M.inO m 16).length icap, .slice rp m.ram.length rc, .slice sp m.scr.length scap, .int .u8 m.ch, .int .u8 m.pad, .int .u16 m.pitch, .int .u8 m.vol, .int .u16 m.time]] w fun e w' => ∃ g bd br bm ku F, e = .returned (.tuple #[.pointer (some ⟨g, 0, none⟩), .int .i64 0]) ∧ MV w' g bd br bm ku F ⟨c.code, pc, st, fa, D, R, M.rs m⟩ ∧ Fresh w.heap.size g bd br bm ku F ∧ Below w.heap.size w w' := by
  obtain ⟨kp, kc, rfl, _⟩ := h.code.ex
  have hv := h.val
  subst hv
  unfold T.cv
  obtain ⟨hcl, hbg⟩ := may_parts hm
  obtain ⟨n1, n2, n3, hB, hsz⟩ := three w (.cells #[.slice kp c.code.length kc, .int .u16 (c.entry : Int), .slice ep c.effs.length ec, .slice bp c.banks.length bc] 27) (.cells #[.int .u16 pc, .int .i64 st, .int .i64 fa, .slice p D.length cd, .slice q R.length cr] 46) (.cells #[.slice ip (M.inO m 16).length icap, .slice rp m.ram.length rc, .slice sp m.scr.length scap, .int .u8 m.ch, .int .u8 m.pad, .int .u16 m.pitch, .int .u8 m.vol, .int .u16 m.time] 71)
  obtain ⟨W, hW⟩ : ∃ W, W = (((w.alloc (.cells #[.slice kp c.code.length kc, .int .u16 (c.entry : Int), .slice ep c.effs.length ec, .slice bp c.banks.length bc] 27)).alloc (.cells #[.int .u16 pc, .int .i64 st, .int .i64 fa, .slice p D.length cd, .slice q R.length cr] 46)).alloc (.cells #[.slice ip (M.inO m 16).length icap, .slice rp m.ram.length rc, .slice sp m.scr.length scap, .int .u8 m.ch, .int .u8 m.pad, .int .u16 m.pitch, .int .u8 m.vol, .int .u16 m.time] 71)) := ⟨_, rfl⟩
  rw [← hW] at n1 n2 n3 hB hsz
  have hC := h.below hB
  have kc' := T.check_any _ c ep ec bp bc _ _ hC
  rw [hm, if_pos rfl] at kc'
  unfold T.cv at kc'
  have hil := M.inO_len m 16
  have HB := S.hid hB
  have HC := S.hid hC
  have HZ1 := S.hid n1
  have HZ2 := S.hid n2
  have HZ3 := S.hid n3
  have HP := S.hid (And.intro hcl (And.intro hs (And.intro hmS (And.intro hpc (And.intro hDC hRC)))))
  have HS1 := S.hid (And.intro (h1.below hB) (h2.below hB))
  have HI := S.hid (And.intro (M.BnS.below hI hB) (And.intro (hr.below hB) (hsc.below hB)))
  have HN := S.hid hn
  have HWF := S.hid hw
  have hW' := hW.symm
  clear h hC hB hbg hcl hm n1 n2 n3 hs hmS hpc hDC hRC h1 h2 hI hr hsc hn hw hW
  go_enter Tryz.func25, Tryz.ntmps25
  have n1 := HZ1.out
  go_wp2_with (refine wpList_load_row rfl 27 _ rfl w.heap.size rfl 27 _ (0, 0) _ n1 Tryz.underlying27 rfl (by exact size27) ?_)
  refine kc'.mono ?_
  rintro e w1 ⟨rfl, hb1⟩
  have m1 := (hb1.block _ (S.lt_of HZ1.out)).trans HZ1.out
  have m2 := (hb1.block _ (S.lt_of HZ2.out)).trans HZ2.out
  have m3 := (hb1.block _ (S.lt_of HZ3.out)).trans HZ3.out
  have ks := standing_yes pc st fa p q cd cr D R HP.out.2.1 HP.out.2.2.1 w1 (HS1.out.1.below hb1) (HS1.out.2.below hb1)
  have HC1 := S.hid (HC.out.below hb1)
  have HB1 := S.hid (trB HB.out hb1 HB.out.size)
  have HI1 := S.hid (And.intro (M.BnS.below HI.out.1 hb1) (And.intro (HI.out.2.1.below hb1) (HI.out.2.2.below hb1)))
  have HM1 := S.hid (And.intro m1 m3)
  have hs01 : w.heap.size ≤ w1.heap.size := HB1.out.size
  clear kc' hb1 n1 m1 m3 HC HI HS1 HB HZ1 HZ2 HZ3 hW' hsz
  go_wp2_with (refine wpList_load_row rfl 46 _ rfl (w.heap.size + 1) rfl 46 _ (0, 0) _ m2 Tryz.underlying46 rfl (by exact size46) ?_)
  refine ks.mono ?_
  rintro e w2 ⟨b1, b2, rfl, hD, hR, l1, l2, ne, hb2⟩
  obtain ⟨z3, r3, b3⟩ := mkRow w2 #[.int .u16 0, .int .i64 0, .int .i64 0, .pointer none, .pointer none] #[.int .u16 pc, .int .i64 st, .int .i64 fa, .pointer (some ⟨b1, 0, none⟩), .pointer (some ⟨b2, 0, none⟩)] 125
  have hB3 := trB hb2 b3 hb2.size
  have g1 := (hB3.block _ (S.lt_of HM1.out.1)).trans HM1.out.1
  have g3 := (hB3.block _ (S.lt_of HM1.out.2)).trans HM1.out.2
  have km := M.restore_yes ip icap (M.inO m 16) (Nat.le_trans hil (by unfold M.room; omega)) rp sp rc scap m _ (M.BnS.below HI1.out.1 hB3) m.ram m.scr (HI1.out.2.1.below hB3) (HI1.out.2.2.below hB3) (M.inO_wh m HWF.out) (M.inO_may m HWF.out) HWF.out.ch0 HWF.out.pad0 HWF.out.pad1 HWF.out.pitch0 HWF.out.pitch1 HWF.out.vol0 HWF.out.vol1 HWF.out.time0 HWF.out.time1
  rw [M.mR_rs m HWF.out] at km
  unfold M.imgC at km
  have HD := S.hid (And.intro hD (And.intro hR (And.intro (Nat.le_trans hs01 l1) (And.intro (Nat.le_trans hs01 l2) ne))))
  have HB2 := S.hid (trB HB1.out hb2 HB1.out.size)
  have HB3 := S.hid b3
  have HC3 := S.hid (HC1.out.below hB3)
  have HI3 := S.hid (M.BnS.below HI1.out.1 hB3)
  have HG := S.hid (And.intro g1 (And.intro g3 r3))
  clear ks hD hR l1 l2 ne hb2 b3 hB3 g1 r3 HC1 HI1 HM1 HB1 m2 hs01
  go_wp2_with (first
    | (refine wpList_store_row rfl 125 _ _ rfl w2.heap.size _ rfl rfl 125 #[.int .u16 0, .int .i64 0, .int .i64 0, .pointer none, .pointer none] z3 (by exact sizeSt) (by rfl) (by simp [Value.oneCell']) ?_)
    | (refine wpList_load_row rfl 71 _ rfl (w.heap.size + 1 + 1) rfl 71 _ (0, 0) _ g3 Tryz.underlying71 rfl (by exact sizeIm) ?_))
  generalize hW3 : ((w2.alloc (.cells #[.int .u16 0, .int .i64 0, .int .i64 0, .pointer none, .pointer none] 125)).setRow w2.heap.size #[.int .u16 pc, .int .i64 st, .int .i64 fa, .pointer (some ⟨b1, 0, none⟩), .pointer (some ⟨b2, 0, none⟩)]) = W3 at *
  clear hW3 g3 z3
  generalize hNN : w2.heap.size = NN at *
  refine km.mono ?_
  rintro e w4 ⟨bm, rfl, hM, hb4⟩
  have i1 := (hb4.block _ (S.lt_of HG.out.1)).trans HG.out.1
  have i3 := (hb4.block _ (S.lt_of HG.out.2.1)).trans HG.out.2.1
  have ir := (hb4.block _ (S.lt_of HG.out.2.2)).trans HG.out.2.2
  have x0 := S.cell_of w4 _ 0 [.slice ip (M.inO m 16).length icap, .slice rp m.ram.length rc, .slice sp m.scr.length scap, .int .u8 m.ch, .int .u8 m.pad, .int .u16 m.pitch, .int .u8 m.vol, .int .u16 m.time] _ _ i3 rfl
  have x3 := S.cell_of w4 _ 3 [.slice kp c.code.length kc, .int .u16 (c.entry : Int), .slice ep c.effs.length ec, .slice bp c.banks.length bc] _ _ i1 rfl
  have kn := sameNumbers_yes ip bp icap bc (M.inO m 16) c.banks (Nat.le_trans hil (by decide)) HN.out w4 (M.BnS.below HI3.out hb4) (HC3.out.below hb4).banks
  have HM4 := S.hid (And.intro hM hb4)
  have HC4 := S.hid (HC3.out.below hb4)
  have HG4 := S.hid (And.intro i1 ir)
  clear km hM hb4 i1 i3 ir HG HC3 HI3
  go_wp2_with fail
  refine kn.mono ?_
  rintro e w5 ⟨rfl, nq, hw5⟩
  have b45 : Below w4.heap.size w4 w5 := by rw [hw5]; exact ⟨rfl, rfl, rfl, Nat.le_refl _, fun _ _ => rfl⟩
  have HB45 := S.hid b45
  have HG5 := S.hid (And.intro ((b45.block _ (S.lt_of HG4.out.1)).trans HG4.out.1) ((b45.block _ (S.lt_of HG4.out.2)).trans HG4.out.2))
  have HC5 := S.hid (HC4.out.below b45)
  clear kn hw5 b45 x0 x3 HG4 HC4
  go_wp2_with fail
  have HS : ∀ W', Below w5.heap.size w5 W' → (fun w' : World => w'.cell? ⟨w.heap.size, 0, none⟩ = some (.slice kp c.code.length kc) ∧ w'.cell? ⟨NN, 0, none⟩ = some (.int .u16 pc) ∧ w'.cell? ⟨NN, 1, none⟩ = some (.int .i64 st) ∧ w'.cell? ⟨NN, 2, none⟩ = some (.int .i64 fa) ∧ w'.cell? ⟨NN, 3, none⟩ = some (.pointer (some ⟨b1, 0, none⟩)) ∧ w'.cell? ⟨NN, 4, none⟩ = some (.pointer (some ⟨b2, 0, none⟩))) W' := fun W' hb => ⟨T.below_cell hb _ _ (S.cell_of w5 _ 0 [.slice kp c.code.length kc, .int .u16 (c.entry : Int), .slice ep c.effs.length ec, .slice bp c.banks.length bc] _ _ HG5.out.1 rfl), T.below_cell hb _ _ (S.cell_of w5 _ 0 [.int .u16 pc, .int .i64 st, .int .i64 fa, .pointer (some ⟨b1, 0, none⟩), .pointer (some ⟨b2, 0, none⟩)] _ _ HG5.out.2 rfl), T.below_cell hb _ _ (S.cell_of w5 _ 1 [.int .u16 pc, .int .i64 st, .int .i64 fa, .pointer (some ⟨b1, 0, none⟩), .pointer (some ⟨b2, 0, none⟩)] _ _ HG5.out.2 rfl), T.below_cell hb _ _ (S.cell_of w5 _ 2 [.int .u16 pc, .int .i64 st, .int .i64 fa, .pointer (some ⟨b1, 0, none⟩), .pointer (some ⟨b2, 0, none⟩)] _ _ HG5.out.2 rfl), T.below_cell hb _ _ (S.cell_of w5 _ 3 [.int .u16 pc, .int .i64 st, .int .i64 fa, .pointer (some ⟨b1, 0, none⟩), .pointer (some ⟨b2, 0, none⟩)] _ _ HG5.out.2 rfl), T.below_cell hb _ _ (S.cell_of w5 _ 4 [.int .u16 pc, .int .i64 st, .int .i64 fa, .pointer (some ⟨b1, 0, none⟩), .pointer (some ⟨b2, 0, none⟩)] _ _ HG5.out.2 rfl)⟩
  have bdr : Below w5.heap.size w5 w5.drew := ⟨rfl, rfl, rfl, Nat.le_refl _, fun _ _ => rfl⟩
  have HS := S.hid HS
  have s0 := HS.out w5.drew bdr
  have k3 := M.clone_any (.slice kp c.code.length kc) c.code HC5.out.clen w5.drew (HC5.out.code.below bdr)
  have HBd := S.hid bdr
  clear bdr HG5
  refine wp_region_held_drew (S := (fun w' : World => w'.cell? ⟨w.heap.size, 0, none⟩ = some (.slice kp c.code.length kc) ∧ w'.cell? ⟨NN, 0, none⟩ = some (.int .u16 pc) ∧ w'.cell? ⟨NN, 1, none⟩ = some (.int .i64 st) ∧ w'.cell? ⟨NN, 2, none⟩ = some (.int .i64 fa) ∧ w'.cell? ⟨NN, 3, none⟩ = some (.pointer (some ⟨b1, 0, none⟩)) ∧ w'.cell? ⟨NN, 4, none⟩ = some (.pointer (some ⟨b2, 0, none⟩)))) (by kernel_rfl) s0 (fun hHeld => ?_)
  refine wpAnyH_take (i := 0) (v := ?_) rfl (by kernel_rfl) (by kernel_rfl) (by kernel_rfl) (fun c a w h => h) (Or.inl ⟨by rfl, ?_⟩) hHeld ?_
  rotate_left
  · (intro w hSw; (try dsimp only at hSw); go_simp; try with_reducible rfl)
  simp only [Act.put, List.getElem_toArray, List.getElem_cons_zero, List.getElem_cons_succ, List.setIfInBounds_toArray, List.set_cons_zero, List.set_cons_succ]
  refine wpAnyH_take (i := 1) (v := ?_) rfl (by kernel_rfl) (by kernel_rfl) (by kernel_rfl) (fun c a w h => h) (Or.inl ⟨by rfl, ?_⟩) hHeld ?_
  rotate_left
  · (intro w hSw; (try dsimp only at hSw); go_simp; try with_reducible rfl)
  simp only [Act.put, List.getElem_toArray, List.getElem_cons_zero, List.getElem_cons_succ, List.setIfInBounds_toArray, List.set_cons_zero, List.set_cons_succ]
  refine wpAnyH_take (i := 2) (v := ?_) rfl (by kernel_rfl) (by kernel_rfl) (by kernel_rfl) (fun c a w h => h) (Or.inl ⟨by rfl, ?_⟩) hHeld ?_
  rotate_left
  · (intro w hSw; (try dsimp only at hSw); go_simp; try with_reducible rfl)
  simp only [Act.put, List.getElem_toArray, List.getElem_cons_zero, List.getElem_cons_succ, List.setIfInBounds_toArray, List.set_cons_zero, List.set_cons_succ]
  refine wpAnyH_take (i := 4) (v := ?_) rfl (by kernel_rfl) (by kernel_rfl) (by kernel_rfl) (fun c a w h => h) (Or.inl ⟨by rfl, ?_⟩) hHeld ?_
  rotate_left
  · (intro w hSw; (try dsimp only at hSw); go_simp; try with_reducible rfl)
  simp only [Act.put, List.getElem_toArray, List.getElem_cons_zero, List.getElem_cons_succ, List.setIfInBounds_toArray, List.set_cons_zero, List.set_cons_succ]
  refine wpAnyH_ready (rs := [3]) (by kernel_rfl) (by simp) ?_
  refine AllReadyH.cons rfl (fun K hK => ?_) AllReadyH.nil
  go_simp
  refine k3.mono ?_
  rintro e w6 ⟨u1, rfl, r1, d1⟩
  obtain ⟨p1, c1, rfl⟩ := own_form r1
  have s1 := HS.out w6 (trB HBd.out d1 (Nat.le_refl _))
  have s2 := HS.out _ (trB (trB HBd.out d1 (Nat.le_refl _)) (P.bel_alloc w6 (.cells #[.int .u16 pc, .int .i64 st, .int .i64 fa, .pointer (some ⟨b1, 0, none⟩), .pointer (some ⟨b2, 0, none⟩), .slice p1 c.code.length c1, .pointer (some ⟨bm, 0, none⟩)] 128)) (trB HBd.out d1 (Nat.le_refl _)).size)
  have HD6 := S.hid (show Below w5.drew.heap.size w5.drew w6 from d1)
  have HR1 := S.hid (show M.Row w6 w5.drew.heap.size (.slice p1 c.code.length c1) c.code from r1)
  clear k3 r1 d1
  refine hK.out _ _ s1 (fun hHeld => ?_)
  clear hK K
  try simp only [Act.put, List.setIfInBounds_toArray, List.set_cons_zero, List.set_cons_succ]
  refine wpAnyH_ready (rs := [5]) (by kernel_rfl) (by simp) ?_
  refine AllReadyH.cons rfl (fun K hK => ?_) AllReadyH.nil
  go_simp
  refine hK.out _ _ s1 (fun hHeld => ?_)
  clear hK K
  refine wpAnyH_ready (rs := [6]) (by kernel_rfl) (by simp) ?_
  refine AllReadyH.cons rfl (fun K hK => ?_) AllReadyH.nil
  go_simp
  refine hK.out _ _ s2 (fun hHeld => ?_)
  clear hK K
  refine wpAnyH_ready (rs := [7]) (by kernel_rfl) (by simp) ?_
  refine AllReadyH.cons rfl (fun K hK => ?_) AllReadyH.nil
  go_simp
  refine hK.out _ _ s2 (fun hHeld => ?_)
  clear hK K
  refine wpAnyH_ready (rs := [8]) (by kernel_rfl) (by simp) ?_
  refine AllReadyH.cons rfl (fun K hK => ?_) AllReadyH.nil
  go_simp
  refine hK.out _ _ s2 (fun hHeld => ?_)
  clear hK K
  refine wpAnyH_done (by kernel_rfl) ?_ _
  clear hHeld s0 s1 s2
  try simp only [Act.put, List.setIfInBounds_toArray, List.set_cons_zero, List.set_cons_succ]
  go_wp2
  go_ret2
  obtain ⟨hD, hR, l1, l2, ne⟩ := HD.out
  obtain ⟨hcl, _, _, hpc, hDC, hRC⟩ := HP.out
  have b23 := HB3.out
  have hB2 := HB2.out
  subst hNN
  obtain ⟨r1, r2, r3⟩ := rest_mv w w2 W3 w4 w5.drew w6 b1 b2 bm D R pc st fa (M.rs m) c.code p1 c1 hpc hDC hRC hcl hD hR l1 l2 ne hB2 b23 HM4.out.1 HM4.out.2 (trB HB45.out HBd.out HB45.out.size) HD6.out HR1.out
  first
    | exact ⟨w6.heap.size, b1, b2, bm, _, _, rfl, r1, r2, r3⟩
    | exact ⟨w6.heap.size, rfl, b1, b2, bm, _, _, r1, r2, r3⟩
end Go.Proofs.YteldjmecomngeaaGreat.V
