import Derived.Test.YtcmaccefjlgbfaaWhole
/-! Restore, walked. -/
namespace Go.Proofs.Ytcmaccefjlgbfaa
open Go.RowKit
open Go.Proofs
set_option linter.unusedVariables false
set_option linter.unusedSimpArgs false
theorem cell_drew (W : World) (a : Addr) : W.drew.cell? a = W.cell? a := rfl
set_option maxHeartbeats 4000000
set_option maxRecDepth 100000
theorem restore_no (p : Option Addr) (c : Nat) (bs : List (Int × List UInt8)) (hl : bs.length ≤ room) (rp sp : Option Addr) (rc sc' : Nat) (m : MS) (w : World) (h : BnS w p bs) (ram scr : List UInt8) (hn : whB bs ram scr m.ch = false ∨ mayB (-1) bs = false) :
    Calls Try.prog 30 #[.agg (imgC (.slice p bs.length c) (.slice rp ram.length rc) (.slice sp scr.length sc') m).toArray] w fun e w' => e = .returned (.tuple #[.pointer none, .int .i64 2]) ∧ Below w.heap.size w w' := by
  obtain ⟨w1, hw1⟩ : ∃ w1, w.alloc (.cells (imgC (.slice p bs.length c) (.slice rp ram.length rc) (.slice sp scr.length sc') m).toArray 48) = w1 := ⟨_, rfl⟩
  have hB1 : Below w.heap.size w w1 := by rw [← hw1]; exact (Below.refl _ w).alloc (Nat.le_refl _) _
  have hx : w1.heap[w.heap.size]? = some (.cells (imgC (.slice p bs.length c) (.slice rp ram.length rc) (.slice sp scr.length sc') m).toArray 48 (0, 0)) := by rw [← hw1]; exact heap_alloc_new w _
  have hz : w1.heap.size = w.heap.size + 1 := by rw [← hw1]; simp
  have hwh := whole_any p c bs hl rp sp ram.length rc scr.length sc' m w1 (h.below hB1) ram scr rfl rfl
  have k0 := cell_of w1 _ 0 _ 48 _ hx rfl
  have k1 := cell_of w1 _ 1 _ 48 _ hx rfl
  have k2 := cell_of w1 _ 2 _ 48 _ hx rfl
  have k3 := cell_of w1 _ 3 _ 48 _ hx rfl
  have k4 := cell_of w1 _ 4 _ 48 _ hx rfl
  have k5 := cell_of w1 _ 5 _ 48 _ hx rfl
  have k6 := cell_of w1 _ 6 _ 48 _ hx rfl
  have k7 := cell_of w1 _ 7 _ 48 _ hx rfl
  have HX : Hid _ := hx
  have HB1 : Hid _ := hB1
  have HZ : Hid _ := hz
  clear hx hB1 hz
  unfold imgC at hw1 hwh ⊢
  cases hwb : whB bs ram scr m.ch with
  | false =>
    rw [hwb] at hwh
    go_enter Try.func30, Try.ntmps30
    go_wp2_with fail
    refine hwh.mono ?_
    rintro e w2 ⟨rfl, hb2⟩
    go_wp2
    go_ret2
    exact ⟨rfl, HB1.out.trans (hb2.mono HB1.out.size)⟩
  | true =>
    rw [hwb] at hwh hn
    have hm : mayB (-1) bs = false := by rcases hn with hn | hn; cases hn; exact hn
    go_enter Try.func30, Try.ntmps30
    go_wp2_with fail
    refine hwh.mono ?_
    rintro e w2 ⟨rfl, hb2⟩
    have hB2 : Below w.heap.size w w2 := HB1.out.trans (hb2.mono HB1.out.size)
    have q0 := cell_of w2 _ 0 _ 48 _ ((hb2.block _ (by rw [HZ.out]; omega)).trans HX.out) rfl
    have hnw := new_no p c bs hl w2 (h.below hB2) hm
    clear hwh hb2 k0 k1 k2 k3 k4 k5 k6 k7 hw1
    go_wp2_with fail
    refine hnw.mono ?_
    rintro e w3 ⟨rfl, hb3⟩
    go_wp2
    go_ret2
    exact ⟨rfl, hB2.trans (hb3.mono hB2.size)⟩
theorem restore_yes (p : Option Addr) (c : Nat) (bs : List (Int × List UInt8)) (hl : bs.length ≤ room) (rp sp : Option Addr) (rc sc' : Nat) (m : MS) (w : World) (h : BnS w p bs) (ram scr : List UInt8) (hr : Sl w (.slice rp ram.length rc) ram) (hs : Sl w (.slice sp scr.length sc') scr)
    (hwb : whB bs ram scr m.ch = true) (hm : mayB (-1) bs = true) (c0 : 0 ≤ m.ch) (p0 : 0 ≤ m.pad) (p1 : m.pad < 256) (t0 : 0 ≤ m.pitch) (t1 : m.pitch < 65536) (v0 : 0 ≤ m.vol) (v1 : m.vol < 256) (i0 : 0 ≤ m.time) (i1 : m.time < 65536) :
    Calls Try.prog 30 #[.agg (imgC (.slice p bs.length c) (.slice rp ram.length rc) (.slice sp scr.length sc') m).toArray] w fun e w' => ∃ b, e = .returned (.tuple #[.pointer (some ⟨b, 0, none⟩), .int .i64 0]) ∧ HasM w' (fun k => w.heap.size ≤ k) b (mR bs ram scr m) ∧ Below w.heap.size w w' := by
  have hrl : ram.length = 16384 ∧ scr.length = 3072 ∧ m.ch < 16 := by
    simp only [whB, Bool.and_eq_true, beq_iff_eq, decide_eq_true_eq] at hwb
    exact ⟨hwb.1.1.2, hwb.1.2, hwb.2⟩
  obtain ⟨w1, hw1⟩ : ∃ w1, w.alloc (.cells (imgC (.slice p bs.length c) (.slice rp ram.length rc) (.slice sp scr.length sc') m).toArray 48) = w1 := ⟨_, rfl⟩
  have hB1 : Below w.heap.size w w1 := by rw [← hw1]; exact (Below.refl _ w).alloc (Nat.le_refl _) _
  have hx : w1.heap[w.heap.size]? = some (.cells (imgC (.slice p bs.length c) (.slice rp ram.length rc) (.slice sp scr.length sc') m).toArray 48 (0, 0)) := by rw [← hw1]; exact heap_alloc_new w _
  have hz : w1.heap.size = w.heap.size + 1 := by rw [← hw1]; simp
  have hwh := whole_any p c bs hl rp sp ram.length rc scr.length sc' m w1 (h.below hB1) ram scr rfl rfl
  rw [hwb] at hwh
  have k0 := cell_of w1 _ 0 _ 48 _ hx rfl
  have k1 := cell_of w1 _ 1 _ 48 _ hx rfl
  have k2 := cell_of w1 _ 2 _ 48 _ hx rfl
  have k3 := cell_of w1 _ 3 _ 48 _ hx rfl
  have k4 := cell_of w1 _ 4 _ 48 _ hx rfl
  have k5 := cell_of w1 _ 5 _ 48 _ hx rfl
  have k6 := cell_of w1 _ 6 _ 48 _ hx rfl
  have k7 := cell_of w1 _ 7 _ 48 _ hx rfl
  have HX : Hid _ := hx
  have HB1 : Hid _ := hB1
  have HZ : Hid _ := hz
  have HRL : Hid _ := hrl
  have HR : Hid _ := hr
  have HS : Hid _ := hs
  clear hx hB1 hz hrl hwb hr hs
  unfold imgC at hw1 hwh ⊢
  go_enter Try.func30, Try.ntmps30
  go_wp2_with fail
  refine hwh.mono ?_
  rintro e w2 ⟨rfl, hb2⟩
  have hB2 : Below w.heap.size w w2 := HB1.out.trans (hb2.mono HB1.out.size)
  have hx2 := (hb2.block _ (by rw [HZ.out]; omega)).trans HX.out
  have q0 := cell_of w2 _ 0 _ 48 _ hx2 rfl
  have hnw := new_yes p c bs hl w2 (h.below hB2) hm
  clear hwh k0 k1 k2 k3 k4 k5 k6 k7 hw1
  go_wp2_with fail
  refine hnw.mono ?_
  rintro e w3 ⟨b, rfl, ⟨mb, L, tv, hM3⟩, hb3⟩
  have hB3 : Below w.heap.size w w3 := hB2.trans (hb3.mono hB2.size)
  have hz2 : w.heap.size < w2.heap.size := by have := hb2.size; have := HZ.out; omega
  have hbx : b ≠ w.heap.size := by have : w2.heap.size ≤ b := hM3.fb; omega
  have hx3 := (hb3.block _ hz2).trans hx2
  have hM3' : MemP w3.drew (fun k => w.heap.size ≤ k) b { m0 with banks := nbk bs } mb L tv := (hM3.mono fun i _ (hi : w2.heap.size ≤ i) => (by omega : w.heap.size ≤ i)).kept fun _ _ _ => rfl
  have q1 := cell_of w3 _ 1 _ 48 _ hx3 rfl
  obtain ⟨w4, hcp4, hbk4, hk4, hs4, o4, t4, u4⟩ := copy_part w3.drew b 1 16384 (.slice rp ram.length rc) ram _ hM3'.blk (Sl.below HR.out (hB3.drew)) HRL.out.1 (by omega) (by rw [mcells_len _ _ _ hM3'.wf]; omega)
  rw [mcells_ram_new mb _ tv hM3'.wf] at hbk4
  have hw3 := hM3'.wf
  have hM4 : MemP w4 (fun k => w.heap.size ≤ k) b { m0 with banks := nbk bs, ram := ram } mb L tv := hM3'.reblk _ ⟨HRL.out.1, hw3.scr, hw3.ch0, hw3.ch1, hw3.pad0, hw3.pad1, hw3.pitch0, hw3.pitch1, hw3.vol0, hw3.vol1, hw3.time0, hw3.time1, hw3.bk⟩ hbk4 hk4 rfl rfl
  have hB4 : Below w.heap.size w w4 := ⟨o4.trans hB3.os, t4.trans hB3.tape, u4.trans hB3.output, by rw [hs4]; exact hB3.size, fun k hk => (hk4 k (by have : w.heap.size ≤ b := hM4.fb; omega)).trans (hB3.block k hk)⟩
  have hx4 := (hk4 _ hbx.symm).trans hx3
  have hM4' : MemP w4.drew (fun k => w.heap.size ≤ k) b { m0 with banks := nbk bs, ram := ram } mb L tv := hM4.kept fun _ _ _ => rfl
  have q2 := cell_of w4 _ 2 _ 48 _ hx4 rfl
  obtain ⟨w5, hcp5, hbk5, hk5, hs5, o5, t5, u5⟩ := copy_part w4.drew b 16385 3072 (.slice sp scr.length sc') scr _ hM4'.blk (Sl.below HS.out (hB4.drew)) HRL.out.2.1 (by omega) (by rw [mcells_len _ _ _ hM4'.wf]; omega)
  rw [mcells_scr_new mb _ tv hM4'.wf] at hbk5
  have hM5 : MemP w5 (fun k => w.heap.size ≤ k) b { m0 with banks := nbk bs, ram := ram, scr := scr } mb L tv := hM4'.reblk _ ⟨HRL.out.1, HRL.out.2.1, hw3.ch0, hw3.ch1, hw3.pad0, hw3.pad1, hw3.pitch0, hw3.pitch1, hw3.vol0, hw3.vol1, hw3.time0, hw3.time1, hw3.bk⟩ hbk5 hk5 rfl rfl
  have hB5 : Below w.heap.size w w5 := ⟨o5.trans hB4.os, t5.trans hB4.tape, u5.trans hB4.output, by rw [hs5]; exact hB4.size, fun k hk => (hk5 k (by have : w.heap.size ≤ b := hM5.fb; omega)).trans (hB4.block k hk)⟩
  have hx5 := (hk5 _ hbx.symm).trans hx4
  have a3 : w5.cell? ⟨w.heap.size, 3, none⟩ = some (.int .u8 m.ch) := cell_of w5 _ 3 _ 48 _ hx5 rfl
  have a4 : w5.cell? ⟨w.heap.size, 4, none⟩ = some (.int .u8 m.pad) := cell_of w5 _ 4 _ 48 _ hx5 rfl
  have a5 : w5.cell? ⟨w.heap.size, 5, none⟩ = some (.int .u16 m.pitch) := cell_of w5 _ 5 _ 48 _ hx5 rfl
  have a6 : w5.cell? ⟨w.heap.size, 6, none⟩ = some (.int .u8 m.vol) := cell_of w5 _ 6 _ 48 _ hx5 rfl
  have a7 : w5.cell? ⟨w.heap.size, 7, none⟩ = some (.int .u16 m.time) := cell_of w5 _ 7 _ 48 _ hx5 rfl
  have s0 : w5.drew.cell? ⟨w.heap.size, 3, none⟩ = some (.int .u8 m.ch) ∧ w5.drew.cell? ⟨w.heap.size, 4, none⟩ = some (.int .u8 m.pad) ∧ w5.drew.cell? ⟨w.heap.size, 5, none⟩ = some (.int .u16 m.pitch) ∧ w5.drew.cell? ⟨w.heap.size, 6, none⟩ = some (.int .u8 m.vol) ∧ w5.drew.cell? ⟨w.heap.size, 7, none⟩ = some (.int .u16 m.time) := ⟨a3, a4, a5, a6, a7⟩
  have hfin : HasM ((((((w5.setCell ⟨b, 19457, none⟩ (.int .u8 m.ch)).setCell ⟨b, 19458, none⟩ (.int .u8 m.pad)).setCell ⟨b, 19459, none⟩ (.int .u16 m.pitch)).setCell ⟨b, 19460, none⟩ (.int .u8 m.vol)).setCell ⟨b, 19461, none⟩ (.int .u16 m.time))) (fun k => w.heap.size ≤ k) b (mR bs ram scr m) ∧
      Below w.heap.size w ((((((w5.setCell ⟨b, 19457, none⟩ (.int .u8 m.ch)).setCell ⟨b, 19458, none⟩ (.int .u8 m.pad)).setCell ⟨b, 19459, none⟩ (.int .u16 m.pitch)).setCell ⟨b, 19460, none⟩ (.int .u8 m.vol)).setCell ⟨b, 19461, none⟩ (.int .u16 m.time))) := by
    have hbw : w.heap.size ≤ b := hM5.fb
    have w5' := hM5.wf
    have x1 := hM5.reg 0 (.int .u8 m.ch) { m0 with banks := nbk bs, ram := ram, scr := scr, ch := m.ch } (w5'.regs rfl rfl rfl c0 HRL.out.2.2 w5'.pad0 w5'.pad1 w5'.pitch0 w5'.pitch1 w5'.vol0 w5'.vol1 w5'.time0 w5'.time1) rfl rfl rfl rfl rfl
    have x2 := x1.reg 1 (.int .u8 m.pad) { m0 with banks := nbk bs, ram := ram, scr := scr, ch := m.ch, pad := m.pad } (w5'.regs rfl rfl rfl c0 HRL.out.2.2 p0 p1 w5'.pitch0 w5'.pitch1 w5'.vol0 w5'.vol1 w5'.time0 w5'.time1) rfl rfl rfl rfl rfl
    have x3 := x2.reg 2 (.int .u16 m.pitch) { m0 with banks := nbk bs, ram := ram, scr := scr, ch := m.ch, pad := m.pad, pitch := m.pitch } (w5'.regs rfl rfl rfl c0 HRL.out.2.2 p0 p1 t0 t1 w5'.vol0 w5'.vol1 w5'.time0 w5'.time1) rfl rfl rfl rfl rfl
    have x4 := x3.reg 3 (.int .u8 m.vol) { m0 with banks := nbk bs, ram := ram, scr := scr, ch := m.ch, pad := m.pad, pitch := m.pitch, vol := m.vol } (w5'.regs rfl rfl rfl c0 HRL.out.2.2 p0 p1 t0 t1 v0 v1 w5'.time0 w5'.time1) rfl rfl rfl rfl rfl
    have x5 := x4.reg 4 (.int .u16 m.time) (mR bs ram scr m) (w5'.regs rfl rfl rfl c0 HRL.out.2.2 p0 p1 t0 t1 v0 v1 i0 i1) rfl rfl rfl rfl rfl
    refine ⟨⟨mb, L, tv, x5⟩, ?_⟩
    exact ((((hB5.setCell (p := ⟨b, 19457, none⟩) hbw _).setCell (p := ⟨b, 19458, none⟩) hbw _).setCell (p := ⟨b, 19459, none⟩) hbw _).setCell (p := ⟨b, 19460, none⟩) hbw _).setCell (p := ⟨b, 19461, none⟩) hbw _
  have r0 := cell_of w5 b (19457 + 0) _ 86 _ hM5.blk ((mcells_reg mb _ tv hM5.wf 0).trans rfl)
  have r1 := cell_of w5 b (19457 + 1) _ 86 _ hM5.blk ((mcells_reg mb _ tv hM5.wf 1).trans rfl)
  have r2 := cell_of w5 b (19457 + 2) _ 86 _ hM5.blk ((mcells_reg mb _ tv hM5.wf 2).trans rfl)
  have r3 := cell_of w5 b (19457 + 3) _ 86 _ hM5.blk ((mcells_reg mb _ tv hM5.wf 3).trans rfl)
  have r4 := cell_of w5 b (19457 + 4) _ 86 _ hM5.blk ((mcells_reg mb _ tv hM5.wf 4).trans rfl)
  have zz := fun i => frozen_of w5 b i _ 86 hM5.blk
  simp only [Nat.reduceAdd, Nat.add_zero] at r0 r1 r2 r3 r4
  have HF : Hid _ := hfin
  clear hfin hM5 hB5 hx5 hbk5 hk5 hs5 hM4' hM4 hB4 hx4 hbk4 hk4 hs4 hM3 hM3' hB3 hx3 hx2 hb3 hb2 hB2 hnw q0 hw3 o4 t4 u4 o5 t5 u5
  generalize (⟨m0.ram, m0.scr, m0.ch, m0.pad, m0.pitch, m0.vol, m0.time, m0.cyc, m0.tones, nbk bs⟩ : MS) = mm at *
  clear mm
  go_wp2_with fail
  go_region
  go_wp2_with fail
  go_region
  go_wp2_with fail
  clear hcp4 hcp5 q1 q2
  go_region_held (fun w' => w'.cell? ⟨w.heap.size, 3, none⟩ = some (.int .u8 m.ch) ∧ w'.cell? ⟨w.heap.size, 4, none⟩ = some (.int .u8 m.pad) ∧ w'.cell? ⟨w.heap.size, 5, none⟩ = some (.int .u16 m.pitch) ∧ w'.cell? ⟨w.heap.size, 6, none⟩ = some (.int .u8 m.vol) ∧ w'.cell? ⟨w.heap.size, 7, none⟩ = some (.int .u16 m.time))
    (first | (with_reducible exact s0) | (simp only [cell_drew, cell_far _ b _ _ w.heap.size _ hbx.symm]; exact ⟨a3, a4, a5, a6, a7⟩))
    (fail)
  go_wp2
  go_ret2
  exact ⟨_, rfl, HF.out.1.below ((Below.refl _ _).drew), HF.out.2.drew⟩
end Go.Proofs.Ytcmaccefjlgbfaa
