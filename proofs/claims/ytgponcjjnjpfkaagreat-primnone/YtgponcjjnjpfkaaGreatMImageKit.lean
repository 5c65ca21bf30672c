import Derived.Test.YtgponcjjnjpfkaaGreatMInO
/-! Image. -/
namespace Go.Proofs.YtgponcjjnjpfkaaGreat.M
open Go.RowKit
open Go.Proofs
set_option linter.unusedVariables false
set_option linter.unusedSimpArgs false
/-- What an image holds, in new memory: nothing of it shares a block. -/
structure ImO (W : World) (B : Nat) (u rv sv : Value) (bs : List (Int × List UInt8)) (ram scr : List UInt8) (gs : List (Nat × Nat)) (N1 N2 : Nat) : Prop where
  banks : OI W B u bs gs
  ram : Row W N1 rv ram
  scr : Row W N2 sv scr
  b1 : B ≤ N1
  g1 : ∀ y ∈ gs, y.1 < N1
  o1 : ∀ g, u.ownBlock = some g → g < N1
  r1 : ∀ g, rv.ownBlock = some g → g < N2
  n12 : N1 ≤ N2
theorem OI.mem_lt {W : World} {B : Nat} {v : Value} {bs : List (Int × List UInt8)} {gs : List (Nat × Nat)} (h : OI W B v bs gs) (y : Nat × Nat) (hy : y ∈ gs) : y.1 < W.heap.size := by
  obtain ⟨i, hi, e⟩ := List.mem_iff_getElem.1 hy
  have hb' : i < bs.length := by rw [← h.len]; exact hi
  exact ((h.dat i bs[i] y (List.getElem?_eq_getElem hb') (by rw [List.getElem?_eq_getElem hi, e])).lt y.1 rfl).2
theorem cell_far (W : World) (N i : Nat) (v : Value) (b j : Nat) (h : b ≠ N) : (W.setCell ⟨N, i, none⟩ v).cell? ⟨b, j, none⟩ = W.cell? ⟨b, j, none⟩ :=
  World.cell?_of_block (w := W) (setCell_other W N i b v h)
theorem own_form {w : World} {B : Nat} {e : TypeId} {size : Nat} {v : Value} {n : Nat} {xs : List Value} (h : w.ownsRow B e size v n xs) : ∃ p cap, v = .slice p n cap := by
  rcases h.2 with ⟨h, e⟩ | ⟨g, cap, cur, h1, _⟩
  · exact ⟨none, 0, by rw [h, e]⟩
  · exact ⟨_, cap, h1⟩
def imgC (u rv sv : Value) (m : MS) : List Value := [u, rv, sv, .int .u8 m.ch, .int .u8 m.pad, .int .u16 m.pitch, .int .u8 m.vol, .int .u16 m.time]
/-- The eight cells of an image, stored one by one. -/
def st8 (W : World) (N : Nat) (u rv sv : Value) (m : MS) : World :=
  (((((((W.setCell ⟨N, 0, none⟩ u).setCell ⟨N, 1, none⟩ rv).setCell ⟨N, 2, none⟩ sv).setCell ⟨N, 3, none⟩ (.int .u8 m.ch)).setCell ⟨N, 4, none⟩ (.int .u8 m.pad)).setCell ⟨N, 5, none⟩ (.int .u16 m.pitch)).setCell ⟨N, 6, none⟩ (.int .u8 m.vol)).setCell ⟨N, 7, none⟩ (.int .u16 m.time)
theorem st8_heap (W : World) (N : Nat) (u rv sv : Value) (m : MS) (c : List Value) (t : TypeId) (hc : c.length = 8) (h : W.heap[N]? = some (.cells c.toArray t (0, 0))) : (st8 W N u rv sv m).heap[N]? = some (.cells (imgC u rv sv m).toArray t (0, 0)) := by
  unfold st8
  match c, hc with
  | [a0, a1, a2, a3, a4, a5, a6, a7], _ =>
    have h1 := setCell_heap _ _ 0 _ _ u h
    have h2 := setCell_heap _ _ 1 _ _ rv h1
    have h3 := setCell_heap _ _ 2 _ _ sv h2
    have h4 := setCell_heap _ _ 3 _ _ (.int .u8 m.ch) h3
    have h5 := setCell_heap _ _ 4 _ _ (.int .u8 m.pad) h4
    have h6 := setCell_heap _ _ 5 _ _ (.int .u16 m.pitch) h5
    have h7 := setCell_heap _ _ 6 _ _ (.int .u8 m.vol) h6
    have h8 := setCell_heap _ _ 7 _ _ (.int .u16 m.time) h7
    rw [h8]; rfl
theorem st8_other (W : World) (N k : Nat) (u rv sv : Value) (m : MS) (h : k ≠ N) : (st8 W N u rv sv m).heap[k]? = W.heap[k]? := by
  unfold st8
  simp only [setCell_other _ N _ k _ h]
theorem st8_size (W : World) (N : Nat) (u rv sv : Value) (m : MS) : (st8 W N u rv sv m).heap.size = W.heap.size := by
  unfold st8; simp only [setCell_size]
theorem st8_below (W : World) (N : Nat) (u rv sv : Value) (m : MS) {B : Nat} {W0 : World} (h : Below B W0 W) (hN : B ≤ N) : Below B W0 (st8 W N u rv sv m) :=
  have e1 : ∀ (W : World) a v, (W.setCell a v).os = W.os := fun _ _ _ => rfl
  have e2 : ∀ (W : World) a v, (W.setCell a v).tape = W.tape := fun _ _ _ => rfl
  have e3 : ∀ (W : World) a v, (W.setCell a v).output = W.output := fun _ _ _ => rfl
  ⟨by simp only [st8, e1]; exact h.os, by simp only [st8, e2]; exact h.tape, by simp only [st8, e3]; exact h.output, by rw [st8_size]; exact h.size, fun k hk => (st8_other W N k u rv sv m (by omega)).trans (h.block k hk)⟩
theorem image_end (w w1 w2 w3 w4 : World) (m : MS) (p2 : Option Addr) (cp2 g3 cp3 g4 cp4 : Nat) (gs : List (Nat × Nat)) (hb1 : Below w.heap.size w w1) (hz1 : w1.heap.size = w.heap.size + 1)
    (hb2 : Below w1.drew.heap.size w1.drew w2) (hb3 : Below w2.heap.size w2 w3) (hb4 : Below w3.heap.size w3 w4) (hO2 : OI w2 w1.drew.heap.size (.slice p2 (inO m 16).length cp2) (inO m 16) gs)
    (hO3 : Row w3 w2.heap.size (.slice (some ⟨g3, 0, none⟩) m.ram.length cp3) m.ram) (hO4 : Row w4 w3.heap.size (.slice (some ⟨g4, 0, none⟩) m.scr.length cp4) m.scr)
    (hr1 : w1.heap[w.heap.size]? = some (.cells [.slice none 0 0, .slice none 0 0, .slice none 0 0, .int .u8 0, .int .u8 0, .int .u16 0, .int .u8 0, .int .u16 0].toArray 123 (0, 0))) :
    (st8 w4 w.heap.size (.slice p2 (inO m 16).length cp2) (.slice (some ⟨g3, 0, none⟩) m.ram.length cp3) (.slice (some ⟨g4, 0, none⟩) m.scr.length cp4) m).heap[w.heap.size]? = some (.cells (imgC (.slice p2 (inO m 16).length cp2) (.slice (some ⟨g3, 0, none⟩) m.ram.length cp3) (.slice (some ⟨g4, 0, none⟩) m.scr.length cp4) m).toArray 123 (0, 0)) ∧
    ImO (st8 w4 w.heap.size (.slice p2 (inO m 16).length cp2) (.slice (some ⟨g3, 0, none⟩) m.ram.length cp3) (.slice (some ⟨g4, 0, none⟩) m.scr.length cp4) m) w.heap.size (.slice p2 (inO m 16).length cp2) (.slice (some ⟨g3, 0, none⟩) m.ram.length cp3) (.slice (some ⟨g4, 0, none⟩) m.scr.length cp4) (inO m 16) m.ram m.scr gs w2.heap.size w3.heap.size ∧
    Below w.heap.size w (st8 w4 w.heap.size (.slice p2 (inO m 16).length cp2) (.slice (some ⟨g3, 0, none⟩) m.ram.length cp3) (.slice (some ⟨g4, 0, none⟩) m.scr.length cp4) m) := by
  have z1 : w1.drew.heap.size = w.heap.size + 1 := hz1
  have z2 := hb2.size
  have z3 := hb3.size
  have z4 := hb4.size
  have hr4 : w4.heap[w.heap.size]? = some (.cells [.slice none 0 0, .slice none 0 0, .slice none 0 0, .int .u8 0, .int .u8 0, .int .u16 0, .int .u8 0, .int .u16 0].toArray 123 (0, 0)) :=
    (hb4.block _ (by omega)).trans ((hb3.block _ (by omega)).trans ((hb2.block _ (by omega)).trans hr1))
  generalize hu : Value.slice p2 (inO m 16).length cp2 = u at *
  generalize hrv : Value.slice (some ⟨g3, 0, none⟩) m.ram.length cp3 = rv at *
  generalize hsv : Value.slice (some ⟨g4, 0, none⟩) m.scr.length cp4 = sv at *
  have far : ∀ k, w.heap.size < k → (st8 w4 w.heap.size u rv sv m).heap[k]? = w4.heap[k]? := fun k hk => st8_other w4 w.heap.size k u rv sv m (by omega)
  have hB4 : Below w.heap.size w w4 := ((hb1.trans (by exact ⟨hb2.os, hb2.tape, hb2.output, by rw [z1] at z2; omega, fun k hk => hb2.block k (by omega)⟩)).trans (hb3.mono (by omega))).trans (hb4.mono (by omega))
  refine ⟨st8_heap w4 _ u rv sv m _ 123 rfl hr4, ⟨?_, ?_, ?_, by omega, fun y hy => hO2.mem_lt y hy, fun g e => (hO2.row.lt g e).2, fun g e => (hO3.lt g e).2, z3⟩, st8_below w4 _ u rv sv m hB4 (Nat.le_refl _)⟩
  · have := hO2.kept (W' := st8 w4 w.heap.size u rv sv m) fun i hi hl => (far i (by omega)).trans ((hb4.block i (by omega)).trans (hb3.block i hl))
    exact ⟨this.len, own_mono this.row (by omega), fun i t g a c => Row.mono (this.dat i t g a c) (by omega), this.nd⟩
  · exact hO3.kept fun g e hg => (far g (by have := (hO3.lt g e).1; omega)).trans (hb4.block g hg)
  · exact hO4.kept fun g e hg => far g (by have := (hO4.lt g e).1; omega)
end Go.Proofs.YtgponcjjnjpfkaaGreat.M
/-! Image, walked. -/
namespace Go.Proofs.YtgponcjjnjpfkaaGreat.M
open Go.RowKit
open Go.Proofs
set_option linter.unusedVariables false
set_option linter.unusedSimpArgs false
set_option maxHeartbeats 4000000
set_option maxRecDepth 100000
theorem image_has (b : Nat) (w : World) {F : Nat → Prop} {m : MS} (hm : HasM w F b m) :
    Calls Tryz.prog 56 #[.pointer (some ⟨b, 0, none⟩)] w fun e w' => ∃ u rv sv gs N1 N2, e = .returned (.agg (imgC u rv sv m).toArray) ∧ ImO w' w.heap.size u rv sv (inO m 16) m.ram m.scr gs N1 N2 ∧ Below w.heap.size w w' := by
  obtain ⟨w1, hw1⟩ : ∃ w1, w1 = (w.alloc (.cells #[.slice none 0 0, .slice none 0 0, .slice none 0 0, .int .u8 0, .int .u8 0, .int .u16 0, .int .u8 0, .int .u16 0] 123)) := ⟨_, rfl⟩
  have hb1 : Below w.heap.size w w1 := by rw [hw1]; exact (Below.refl _ w).alloc (Nat.le_refl _) _
  have hz1 : w1.heap.size = w.heap.size + 1 := by rw [hw1]; simp
  have hr1 : w1.heap[w.heap.size]? = some (.cells [.slice none 0 0, .slice none 0 0, .slice none 0 0, .int .u8 0, .int .u8 0, .int .u16 0, .int .u8 0, .int .u16 0].toArray 123 (0, 0)) := by rw [hw1]; exact heap_alloc_new w _
  have hm1 := hm.below hb1
  have hc1 := inOrder_any b w1.drew (hm1.below (Below.refl _ _).drew)
  have hreg : ∀ {W : World}, HasM W F b m → ∀ (i : Nat) (v : Value), (∀ tv, (regs m tv)[i]? = some v) → W.cell? ⟨b, 19457 + i, none⟩ = some v := by
    intro W h i v hv
    obtain ⟨mb, L, tv, h⟩ := h
    exact cell_of W b (19457 + i) _ 119 _ h.blk ((mcells_reg mb m tv h.wf i).trans (hv tv))
  have hall : ∀ {W : World}, HasM W F b m → W.cell? ⟨b, 19457, none⟩ = some (.int .u8 m.ch) ∧ W.cell? ⟨b, 19458, none⟩ = some (.int .u8 m.pad) ∧ W.cell? ⟨b, 19459, none⟩ = some (.int .u16 m.pitch) ∧ W.cell? ⟨b, 19460, none⟩ = some (.int .u8 m.vol) ∧ W.cell? ⟨b, 19461, none⟩ = some (.int .u16 m.time) :=
    fun h => ⟨hreg h 0 _ fun _ => rfl, hreg h 1 _ fun _ => rfl, hreg h 2 _ fun _ => rfl, hreg h 3 _ fun _ => rfl, hreg h 4 _ fun _ => rfl⟩
  have hram : ∀ {W : World}, HasM W F b m → Sl W (.slice (some ⟨b, 1, none⟩) 16384 16384) m.ram := by
    intro W h
    obtain ⟨mb, L, tv, h⟩ := h
    refine .inr ⟨⟨b, 1, none⟩, 16384, by rw [h.wf.ram], by rw [h.wf.ram]; omega, fun j x hj => ?_⟩
    rw [Addr.add_lit]; exact cell_of W b _ _ 119 _ h.blk (mcells_ram mb m tv h.wf j x hj)
  have hrl : m.ram.length ≤ room := by rw [hm.wf.ram]; unfold room; omega
  have s0 := hall (W := w1.drew) (hm1.below (Below.refl _ _).drew)
  have hrp : 0 < m.ram.length := by rw [hm.wf.ram]; omega
  have hsp : 0 < m.scr.length := by rw [hm.wf.scr]; omega
  have HA : Hid _ := @hall
  have HR : Hid _ := @hram
  have HM1 : Hid _ := hm1
  have HR1 : Hid _ := hr1
  have HB1 : Hid _ := hb1
  have HZ1 : Hid _ := hz1
  have hFin : ∀ w2 w3 w4 : World, Below w1.drew.heap.size w1.drew w2 → Below w2.heap.size w2 w3 → Below w3.heap.size w3 w4 → w4.heap[w.heap.size]? = some (.cells [.slice none 0 0, .slice none 0 0, .slice none 0 0, .int .u8 0, .int .u8 0, .int .u16 0, .int .u8 0, .int .u16 0].toArray 123 (0, 0)) := by
    intro w2 w3 w4 a1 a2 a3
    have z1 : w1.drew.heap.size = w.heap.size + 1 := hz1
    have z2 := a1.size
    have z3 := a2.size
    exact (a3.block _ (by omega)).trans ((a2.block _ (by omega)).trans ((a1.block _ (by omega)).trans hr1))
  have hne : b ≠ w.heap.size := by obtain ⟨mb, L, tv, h⟩ := hm; have := lt_of h.blk; omega
  have HF : Hid _ := hFin
  clear hall hram hm1 hreg hr1 hb1 hz1 hFin hm
  go_enter Tryz.func56, Tryz.ntmps56
  go_wp2_with fail
  rw [← hw1]
  clear hw1
  go_region_held (fun w' => w'.cell? ⟨b, 19457, none⟩ = some (.int .u8 m.ch) ∧ w'.cell? ⟨b, 19458, none⟩ = some (.int .u8 m.pad) ∧ w'.cell? ⟨b, 19459, none⟩ = some (.int .u16 m.pitch) ∧ w'.cell? ⟨b, 19460, none⟩ = some (.int .u8 m.vol) ∧ w'.cell? ⟨b, 19461, none⟩ = some (.int .u16 m.time))
    (first | (with_reducible exact s0) | (with_reducible exact s2) | (with_reducible exact s3) | (with_reducible exact s4) | (simp only [cell_far _ w.heap.size _ _ b _ hne]; with_reducible exact s4))
    (first
      | (go_at_call 80; refine hc1.mono ?_; rintro e w2 ⟨u, gs, rfl, hO2, hb2⟩; obtain ⟨p2, cp2, rfl⟩ := own_form hO2.row; have hm2 := HasM.below HM1.out (W' := w2) ⟨hb2.os, hb2.tape, hb2.output, hb2.size, hb2.block⟩; have s2 := HA.out hm2; have hc2 := clone_any _ m.ram hrl w2 (HR.out hm2); have HO2 : Hid _ := hO2; have HB2 : Hid _ := hb2; have HM2 : Hid _ := hm2; clear hO2 hb2 hm2 hc1 s0)
      | (go_at_call 81; refine hc2.mono ?_; rintro e w3 ⟨rv, rfl, hO3, hb3⟩; obtain ⟨g3, cp3, rfl⟩ := own_pos hO3 hrp; have hm3 := HasM.below HM2.out hb3; have s3 := HA.out hm3; have hc3 := screen_any b w3 hm3; have HO3 : Hid _ := hO3; have HB3 : Hid _ := hb3; have HM3 : Hid _ := hm3; clear hO3 hb3 hm3 hc2 s2)
      | (go_at_call 82; refine hc3.mono ?_; rintro e w4 ⟨sv, rfl, hO4, hb4⟩; obtain ⟨g4, cp4, rfl⟩ := own_pos hO4 hsp; have s4 := HA.out (HasM.below HM3.out hb4); have hr4 := HF.out w2 w3 w4 HB2.out HB3.out hb4; have HO4 : Hid _ := hO4; have HB4 : Hid _ := hb4; clear hO4 hb4 hc3 s3; have f0 := cell_of w4 w.heap.size 0 _ 123 _ hr4 rfl; have f1 := cell_of w4 w.heap.size 1 _ 123 _ hr4 rfl; have f2 := cell_of w4 w.heap.size 2 _ 123 _ hr4 rfl; have f3 := cell_of w4 w.heap.size 3 _ 123 _ hr4 rfl; have f4 := cell_of w4 w.heap.size 4 _ 123 _ hr4 rfl; have f5 := cell_of w4 w.heap.size 5 _ 123 _ hr4 rfl; have f6 := cell_of w4 w.heap.size 6 _ 123 _ hr4 rfl; have f7 := cell_of w4 w.heap.size 7 _ 123 _ hr4 rfl; have z0 := fun i => frozen_of w4 w.heap.size i _ 123 hr4; clear hr4))
  all_goals
    have hx := image_end w w1 w2 w3 w4 m p2 cp2 g3 cp3 g4 cp4 gs HB1.out HZ1.out HB2.out HB3.out HB4.out HO2.out HO3.out HO4.out HR1.out
    go_wp2_with fail
    (try simp only [Exit.inBlock, Exit.then])
    have q0 := cell_of _ w.heap.size 0 _ 123 _ hx.1 rfl
    have q1 := cell_of _ w.heap.size 1 _ 123 _ hx.1 rfl
    have q2 := cell_of _ w.heap.size 2 _ 123 _ hx.1 rfl
    have q3 := cell_of _ w.heap.size 3 _ 123 _ hx.1 rfl
    have q4 := cell_of _ w.heap.size 4 _ 123 _ hx.1 rfl
    have q5 := cell_of _ w.heap.size 5 _ 123 _ hx.1 rfl
    have q6 := cell_of _ w.heap.size 6 _ 123 _ hx.1 rfl
    have q7 := cell_of _ w.heap.size 7 _ 123 _ hx.1 rfl
    refine bodyPost_ret (w := st8 w4 w.heap.size (.slice p2 (inO m 16).length cp2) (.slice (some ⟨g3, 0, none⟩) m.ram.length cp3) (.slice (some ⟨g4, 0, none⟩) m.scr.length cp4) m) (v := .agg (imgC (.slice p2 (inO m 16).length cp2) (.slice (some ⟨g3, 0, none⟩) m.ram.length cp3) (.slice (some ⟨g4, 0, none⟩) m.scr.length cp4) m).toArray) ?_ rfl ⟨_, _, _, _, _, _, rfl, hx.2.1, hx.2.2⟩
    clear hx
    simp [results, Tryz.results56, go_sem, q0, q1, q2, q3, q4, q5, q6, q7, imgC]
end Go.Proofs.YtgponcjjnjpfkaaGreat.M
