import Derived.Test.YtcmaccefjlgbfaaRStore
/-! The reference: SetCell, Choose, Play, Plot, Begin. -/
namespace Go.Proofs.Ytcmaccefjlgbfaa
open Go.RowKit
open Go.Proofs
set_option linter.unusedVariables false
set_option linter.unusedSimpArgs false
set_option maxHeartbeats 1000000
set_option maxRecDepth 100000
theorem rsetCell_any (b : Nat) (z : Int) (h0 : 0 ≤ z) (h1 : z < 65536) (X : Int) (x0 : 0 ≤ X) (x1 : X < 65536) (w : World) {F : Nat → Prop} {m : MS} (hm : IsR w F b m) (ht : m.tones.length ≤ 999999) :
    Calls Try.prog 52 #[.pointer (some ⟨b, 0, none⟩), .int .u16 z, .int .u16 X] w fun e w' => e = .returned (.tuple #[]) ∧ RD w w' F b (sc m z X) := by
  have hs := rstore_any b z h0 h1 (b8 X) w hm (by omega)
  have e1 : IntKind.u8.wrap X = bt (b8 X) := by rw [u8_wrap, bt_b8]
  have e2 := u16_wrap (z + 1)
  unfold sc
  obtain ⟨y, hy⟩ : ∃ y, y = b8 (X / 256) := ⟨_, rfl⟩
  rw [← hy]
  have e3 : IntKind.u8.wrap (X / 256) = bt y := by rw [u8_wrap, hy, bt_b8]
  have e4 : IntKind.u16.wrap (X.tdiv 256) = X / 256 := by rw [u16_wrap, Int.tdiv_eq_ediv_of_nonneg x0]; omega
  have e5 : X / 256 = bt y := by rw [hy, bt_b8]; omega
  clear hy
  go_enter Try.func52, Try.ntmps52
  go_wp2_with fail
  refine hs.mono ?_
  rintro e w1 ⟨rfl, hD⟩
  have ht2 := st_tones m z (b8 X)
  have hs2 := rstore_any b ((z + 1) % 65536) (by omega) (by omega) y w1 hD.1 (by omega)
  go_wp2_with fail
  refine hs2.mono ?_
  rintro e w2 ⟨rfl, hD2⟩
  go_wp2
  go_end0
  exact ⟨rfl, hD.next hD2⟩
theorem rchoose_any (b : Nat) (X : Int) (w : World) {F : Nat → Prop} {m : MS} (hm : IsR w F b m) (ht : m.tones.length ≤ 1000000) :
    Calls Try.prog 56 #[.pointer (some ⟨b, 0, none⟩), .int .u16 X] w fun e w' => e = .returned (.tuple #[]) ∧ RD w w' F b (st m 65280 (b8 X)) := by
  have hs := rstore_any b 65280 (by omega) (by omega) (b8 X) w hm ht
  have e1 : IntKind.u8.wrap X = bt (b8 X) := by rw [u8_wrap, bt_b8]
  go_enter Try.func56, Try.ntmps56
  go_wp2_with fail
  refine hs.mono ?_
  rintro e w1 ⟨rfl, hD⟩
  go_wp2
  go_end0
  exact ⟨rfl, hD⟩
theorem rplay_any (b : Nat) (X : Int) (x0 : 0 ≤ X) (x1 : X < 65536) (v : UInt8) (w : World) {F : Nat → Prop} {m : MS} (hm : IsR w F b m) (ht : m.tones.length ≤ 999990) :
    Calls Try.prog 55 #[.pointer (some ⟨b, 0, none⟩), .int .u16 X, .int .u8 (bt v)] w fun e w' => e = .returned (.tuple #[]) ∧ RD w w' F b (st (sc m 65284 X) 65286 v) := by
  have hs := rsetCell_any b 65284 (by omega) (by omega) X x0 x1 w hm (by omega)
  have t1 := st_tones m 65284 (b8 X)
  have t2 := st_tones (st m 65284 (b8 X)) ((65284 + 1) % 65536) (b8 (X / 256))
  go_enter Try.func55, Try.ntmps55
  go_wp2_with fail
  refine hs.mono ?_
  rintro e w1 ⟨rfl, hD⟩
  have hs2 := rstore_any b 65286 (by omega) (by omega) v w1 hD.1 (by unfold sc; omega)
  go_wp2_with fail
  refine hs2.mono ?_
  rintro e w2 ⟨rfl, hD2⟩
  go_wp2
  go_end0
  exact ⟨rfl, hD.next hD2⟩
theorem rplot_any (b : Nat) (X Y C : Int) (x0 : 0 ≤ X) (x1 : X < 65536) (y0 : 0 ≤ Y) (y1 : Y < 65536) (w : World) {F : Nat → Prop} {m : MS} (hm : IsR w F b m) (ht : m.tones.length ≤ 1000000) :
    Calls Try.prog 54 #[.pointer (some ⟨b, 0, none⟩), .int .u16 X, .int .u16 Y, .int .u16 C] w fun e w' => e = .returned (.tuple #[]) ∧ RD w w' F b (plt m X Y C) := by
  by_cases a1 : X < 64
  · by_cases a2 : Y < 48
    · have hs := rstore_any b (49152 + 64 * Y + X) (by omega) (by omega) (b8 C) w hm ht
      have e1 : IntKind.u8.wrap C = bt (b8 C) := by rw [u8_wrap, bt_b8]
      have e2 : IntKind.u16.wrap (64 * Y) = 64 * Y := by rw [u16_wrap]; omega
      have e3 : IntKind.u16.wrap (49152 + 64 * Y) = 49152 + 64 * Y := by rw [u16_wrap]; omega
      have e4 : IntKind.u16.wrap (49152 + 64 * Y + X) = 49152 + 64 * Y + X := by rw [u16_wrap]; omega
      have ep : plt m X Y C = st m (49152 + 64 * Y + X) (b8 C) := by simp [plt, a1, a2]
      rw [ep]
      go_enter Try.func54, Try.ntmps54
      go_wp2_with fail
      refine hs.mono ?_
      rintro e w1 ⟨rfl, hD⟩
      go_wp2
      go_end0
      exact ⟨rfl, hD⟩
    · have ep : plt m X Y C = m := by simp [plt, a2]
      rw [ep]
      have a3 : decide (Y < 48) = false := by simpa using a2
      go_enter Try.func54, Try.ntmps54
      go_wp2
      go_end0
      exact ⟨rfl, RD.same hm (Below.refl _ _)⟩
  · have ep : plt m X Y C = m := by simp [plt, a1]
    rw [ep]
    have a3 : decide (X < 64) = false := by simpa using a1
    go_enter Try.func54, Try.ntmps54
    go_wp2
    go_end0
    exact ⟨rfl, RD.same hm (Below.refl _ _)⟩
/-- The tones are cut off. -/
theorem MemR.clear {W : World} {F : Nat → Prop} {b : Nat} {bs : List (Int × List UInt8)} {m : MS} {u : Value} {gr' gc : Nat} {gs : List (Nat × Nat)} {tv : Value} (h : MemR W F b bs m u gr' gc gs tv) : MemR (W.setCell ⟨b, 9, none⟩ (.slice none 0 0)) F b bs { m with tones := [] } u gr' gc gs (.slice none 0 0) := by
  have k3 : ∀ k, k ≠ b → (W.setCell ⟨b, 9, none⟩ (.slice none 0 0)).heap[k]? = W.heap[k]? := fun k h1 => setCell_other _ _ _ _ _ h1
  refine ⟨by rw [setCell_heap W b 9 _ 80 _ h.blk]; rfl, ⟨h.banks.len, own_kept h.banks.row fun g e hg2 => k3 g (h.nu g e), fun j t g a c => ?_, h.banks.nd⟩, ?_, ?_, h.rl, h.sl, World.ownsRow_nil _ _ _ _, h.nr, h.nc, h.rc, h.fb, h.fu, h.fg, h.fr, h.fc, ?_⟩
  · obtain ⟨x1, x2, x3, x4⟩ := h.banks.dat j t g a c
    exact ⟨(k3 _ (h.n5 _ _ x1).1).trans x1, x2, x3, x4⟩
  · exact (k3 _ (h.n5 _ _ h.ram).1).trans h.ram
  · exact (k3 _ (h.n5 _ _ h.scr).1).trans h.scr
  · intro g e; simp [Value.ownBlock] at e
theorem rbegin_any (b : Nat) (x : UInt8) (w : World) {F : Nat → Prop} {m : MS} (hm : IsR w F b m) :
    Calls Try.prog 53 #[.pointer (some ⟨b, 0, none⟩), .int .u8 (bt x)] w fun e w' => e = .returned (.tuple #[]) ∧ RD w w' F b (bg m (bt x)) := by
  obtain ⟨hw, u, gr', gc, gs, tv, hm⟩ := hm
  have hb := bt_bound x
  have hf := hm.fb
  have k1 := hm.reg 4 (.int .u8 (bt x)) { m with pad := bt x } (fun _ _ => rfl) rfl rfl rfl
  have c1 := cell_of w b 4 _ 80 _ hm.blk rfl
  have z1 := frozen_of w b 4 _ 80 hm.blk
  have t0 := Tc.refl F w
  have t1 := t0.setCell b 4 hf (.int .u8 (bt x))
  generalize hw1 : w.setCell ⟨b, 4, none⟩ (.int .u8 (bt x)) = w1 at k1 t1
  have c2 := cell_of w1 b 7 _ 80 _ k1.blk rfl
  have z2 := frozen_of w1 b 7 _ 80 k1.blk
  have e1 := u16_wrap (m.time + 1)
  have k2 := k1.reg 7 (.int .u16 ((m.time + 1) % 65536)) { m with pad := bt x, time := (m.time + 1) % 65536 } (fun _ _ => rfl) rfl rfl rfl
  have t2 := t1.setCell b 7 hf (.int .u16 ((m.time + 1) % 65536))
  generalize hw2 : w1.setCell ⟨b, 7, none⟩ (.int .u16 ((m.time + 1) % 65536)) = w2 at k2 t2
  have c3 := cell_of w2 b 9 _ 80 _ k2.blk rfl
  have z3 := frozen_of w2 b 9 _ 80 k2.blk
  have k3 := k2.clear
  have t3 := t2.setCell b 9 hf (.slice none 0 0)
  generalize hw3 : w2.setCell ⟨b, 9, none⟩ (.slice none 0 0) = w3 at k3 t3
  have c4 := cell_of w3 b 8 _ 80 _ k3.blk rfl
  have z4 := frozen_of w3 b 8 _ 80 k3.blk
  have k4 := k3.reg 8 (.int .i64 0) (bg m (bt x)) (fun _ _ => rfl) rfl rfl rfl
  have t4 := t3.setCell b 8 hf (.int .i64 0)
  have hfin : RD w (w3.setCell ⟨b, 8, none⟩ (.int .i64 0)) F b (bg m (bt x)) := by
    refine ⟨⟨hw.regs rfl rfl rfl hw.ch0 hw.ch1 hb.1 hb.2 hw.pitch0 hw.pitch1 hw.vol0 hw.vol1 (by simp only [bg]; omega) (by simp only [bg]; omega), u, gr', gc, gs, .slice none 0 0, ?_⟩, t4⟩
    rw [inO_congr (m' := bg m (bt x)) (m := m) rfl]
    exact k4.mono fun _ _ f => .inl f
  have HF : Hid _ := hfin
  clear k1 k2 k3 k4 t0 t1 t2 t3 t4 hm hw hfin
  go_enter Try.func53, Try.ntmps53
  go_wp2
  go_end0
  exact ⟨rfl, HF.out⟩
/-- Cycle, written by the law itself. -/
theorem rcycle (b : Nat) (n : Int) (w : World) {F : Nat → Prop} {m : MS} (hm : IsR w F b m) :
    (∃ u, w.cell? ⟨b, 8, none⟩ = some u) ∧ w.frozen? ⟨b, 8, none⟩ = false ∧ RD w (w.setCell ⟨b, 8, none⟩ (.int .i64 n)) F b { m with cyc := n } := by
  obtain ⟨hw, u, gr', gc, gs, tv, h⟩ := hm
  refine ⟨⟨_, cell_of w b 8 _ 80 _ h.blk rfl⟩, frozen_of w b 8 _ 80 h.blk, ?_⟩
  exact RD.set (Below.refl _ _) b 8 _ h.fb ⟨hw.ram, hw.scr, hw.ch0, hw.ch1, hw.pad0, hw.pad1, hw.pitch0, hw.pitch1, hw.vol0, hw.vol1, hw.time0, hw.time1, hw.bk⟩ (by rw [inO_congr (m' := { m with cyc := n }) (m := m) rfl]; exact h.reg 8 _ _ (fun _ _ => rfl) rfl rfl rfl)
end Go.Proofs.Ytcmaccefjlgbfaa
