import Derived.Test.YtoemoiehjdmheaaGreatMRoom
namespace Go.Proofs.YtoemoiehjdmheaaGreat.M
open Go.RowKit
open Go.Proofs
set_option linter.unusedVariables false
set_option linter.unusedSimpArgs false
def b8 (z : Int) : UInt8 := UInt8.ofNat (z % 256).toNat
theorem bt_b8 (z : Int) : bt (b8 z) = z % 256 := by
 unfold bt b8
 rw [UInt8.toNat_ofNat']
 have : (z % 256).toNat % 2 ^ 8 = (z % 256).toNat := Nat.mod_eq_of_lt (by omega)
 rw [this]; omega
theorem Done.next {w w1 w2 : World} {F : Nat -> Prop} {b : Nat} {m1 m2 : MS} (h1 : Done w w1 F b m1) (h2 : Done w1 w2 (gr F w w1) b m2) : Done w w2 F b m2 := by
 refine ⟨h2.1.mono ?_, h1.2.trans h2.2 (fun _ f => f) ?_⟩
 ·rintro i hi ((f | ⟨a, c⟩) | ⟨a, c⟩)
  ·exact .inl f
  ·exact .inr ⟨a, hi⟩
  ·exact .inr ⟨Nat.le_trans h1.2.size a, c⟩
 ·rintro i hi (f | ⟨a, c⟩)
  ·exact f
  ·omega
theorem HasM.wf {W : World} {F : Nat -> Prop} {b : Nat} {m : MS} (h : HasM W F b m) : Wf m := by obtain ⟨_, _, _, h⟩ := h; exact h.wf
theorem Done.has {w w' : World} {F : Nat -> Prop} {b : Nat} {m : MS} (h : Done w w' F b m) : HasM w' (gr F w w') b m := h.1
set_option maxHeartbeats 1000000
set_option maxRecDepth 100000
def R (e : Ending) (w w' : World) (F : Nat -> Prop) (b : Nat) (m' : MS) : Prop := e = .returned (.tuple #[]) /\ Done w w' F b m'
theorem store_room (b : Nat) (z : Int) (x : UInt8) (g i : Nat) (u : Value) (w : World)
  (hr : Calls Tryz.prog 141 #[.pointer (some ⟨b, 0, none⟩), .int .u16 z] w fun e w' => e = .returned (.pointer (some ⟨g, i, none⟩)) /\ ∃ q, w' = w.drewN q) (hc : w.cell? ⟨g, i, none⟩ = some u) (hf : w.frozen? ⟨g, i, none⟩ = false) :
  Calls Tryz.prog 118 #[.pointer (some ⟨b, 0, none⟩), .int .u16 z, .int .u8 (bt x)] w fun e w' => e = .returned (.tuple #[]) /\ ∃ q, w' = (w.drewN q).setCell ⟨g, i, none⟩ (.int .u8 (bt x)) := by
 go_enter Tryz.func118, Tryz.ntmps118
 go_wp2_with fail
 refine hr.mono ?_
 rintro e w1 ⟨rfl, q, rfl⟩
 have hc2 : (w.drewN q).cell? ⟨g, i, none⟩ = some u := hc
 have hf2 : (w.drewN q).frozen? ⟨g, i, none⟩ = false := hf
 go_wp2
 (try simp only [Exit.inBlock, Exit.then])
 refine bodyPost_ret (results_none rfl _ _ _) rfl ?_
 exact ⟨rfl, q, rfl⟩
theorem store_port (b : Nat) (z : Int) (x : UInt8) (w : World) (Post : World -> Prop)
  (hr : Calls Tryz.prog 141 #[.pointer (some ⟨b, 0, none⟩), .int .u16 z] w fun e w' => e = .returned (.pointer none) /\ ∃ q, w' = w.drewN q)
  (hp : ∀ q, Calls Tryz.prog 143 #[.pointer (some ⟨b, 0, none⟩), .int .u16 z, .int .u8 (bt x)] (w.drewN q) fun e w' => e = .returned (.tuple #[]) /\ Post w') :
  Calls Tryz.prog 118 #[.pointer (some ⟨b, 0, none⟩), .int .u16 z, .int .u8 (bt x)] w fun e w' => e = .returned (.tuple #[]) /\ Post w' := by
 go_enter Tryz.func118, Tryz.ntmps118
 go_wp2_with fail
 refine hr.mono ?_
 rintro e w1 ⟨rfl, q, rfl⟩
 have hp2 := hp q
 go_wp2_with fail
 refine hp2.mono ?_
 rintro e w1 ⟨rfl, hP⟩
 go_wp2
 go_end0
 exact ⟨rfl, hP⟩
theorem Done.drewn {w w' : World} {F : Nat -> Prop} {b : Nat} {m : MS} (q : Nat) (h : Done (w.drewN q) w' F b m) : Done w w' F b m := ⟨h.1, h.2.os, h.2.tape, h.2.output, h.2.size, h.2.block⟩
theorem stp_low (m : MS) (z : Int) (x : UInt8) (h : z < 65280) : stp m z x = m := by
 unfold stp; simp [show z ≠ 65280 by omega, show z ≠ 65284 by omega, show z ≠ 65285 by omega, show z ≠ 65286 by omega]
theorem setPort_any (b : Nat) (z : Int) (x : UInt8) (w : World) {F : Nat -> Prop} {m : MS} (hm : HasM w F b m) (ht : m.tones.length <= 1000000) :
  Calls Tryz.prog 143 #[.pointer (some ⟨b, 0, none⟩), .int .u16 z, .int .u8 (bt x)] w fun e w' => e = .returned (.tuple #[]) /\ Done w w' F b (stp m z x) := by
 by_cases a0 : z = 65280
 ·subst a0; exact setPort_ch b x w hm
 by_cases a1 : z = 65284
 ·subst a1; exact setPort_lo b x w hm
 by_cases a2 : z = 65285
 ·subst a2; exact setPort_hi b x w hm
 by_cases a3 : z = 65286
 ·subst a3; exact setPort_play b x w hm ht
 refine (setPort_none b z x w a0 a1 a2 a3).mono ?_
 rintro e w' ⟨rfl, rfl⟩
 have e : stp m z x = m := by unfold stp; simp [a0, a1, a2, a3]
 rw [e]
 exact ⟨rfl, Done.same hm 0⟩
theorem store_any (b : Nat) (z : Int) (h0 : 0 <= z) (h1 : z < 65536) (x : UInt8) (w : World) {F : Nat -> Prop} {m : MS} (hm : HasM w F b m) (ht : m.tones.length <= 1000000) :
  Calls Tryz.prog 118 #[.pointer (some ⟨b, 0, none⟩), .int .u16 z, .int .u8 (bt x)] w fun e w' => e = .returned (.tuple #[]) /\ Done w w' F b (st m z x) := by
 have hport : ∀ q, Calls Tryz.prog 143 #[.pointer (some ⟨b, 0, none⟩), .int .u16 z, .int .u8 (bt x)] (w.drewN q) fun e w' => e = .returned (.tuple #[]) /\ Done w w' F b (stp m z x) :=
  fun q => (setPort_any b z x (w.drewN q) (hm.drew q) ht).mono fun e w' h => ⟨h.1, h.2.drewn q⟩
 by_cases a1 : z < 16384
 ·have := store_port b z x w _ (room_low b z w a1) hport
  rw [stp_low m z x (by omega)] at this
  simpa only [st, a1, if_true] using this
 by_cases a2 : z < 32768
 ·obtain ⟨mb, L, tv, h⟩ := id hm
  have cb := cell_of w b 0 _ 122 _ h.blk (mcells_0 mb m tv)
  have cc := cell_of w b (19457 + 0) _ 122 _ h.blk ((mcells_reg mb m tv h.wf 0).trans rfl)
  have e : m.ch = (m.ch.toNat : Int) := by have := h.wf.ch0; omega
  have hn : m.ch.toNat < 16 := by have := h.wf.ch1; have := h.wf.ch0; omega
  rw [e] at cc
  cases hb : m.banks m.ch.toNat with
  | none =>
   have := store_port b z x w _ (room_nobank b mb m.ch.toNat L z w (by omega) a2 hn cb cc h.map (by rintro p hp e; obtain ⟨l, e2, _⟩ := h.bks p hp; rw [e, hb] at e2; cases e2)) hport
   rw [stp_low m z x (by omega)] at this
   simpa only [st, a1, a2, if_true, if_false, hb] using this
  | some l =>
   obtain ⟨g, hg⟩ := h.all _ _ hb
   obtain ⟨l', e2, hk⟩ := h.bks _ hg
   rw [hb] at e2; cases e2
   have hl := (h.wf.bk _ _ hb).2
   refine (store_room b z x g _ _ w (room_bank b mb m.ch.toNat g L z w (by omega) a2 hn cb cc h.map h.keys hg) (cell_of w g _ _ 119 _ hk ((bv_get l _ _).2 ⟨_, lb_of l (z - 16384).toNat (by omega), rfl⟩)) (frozen_of w g _ _ 119 hk)).mono ?_
   rintro e w' ⟨rfl, q, rfl⟩
   have e9 : st m z x = { m with banks := upd m.banks m.ch.toNat (l.set (z - 16384).toNat x) } := by simp only [st, a1, a2, if_true, if_false, hb]
   rw [e9]
   exact ⟨rfl, Done.set q g _ _ (h.fbk _ hg) ((h.drew q).bank m.ch.toNat g l _ x hg hb)⟩
 by_cases a3 : z < 49152
 ·obtain ⟨mb, L, tv, h⟩ := id hm
  refine (store_room b z x b _ _ w (room_ram b z w (by omega) a3) (cell_of w b _ _ 122 _ h.blk (mcells_ram mb m tv h.wf _ _ (lb_of m.ram (z - 32768).toNat (by rw [h.wf.ram]; omega)))) (frozen_of w b _ _ 122 h.blk)).mono ?_
  rintro e w' ⟨rfl, q, rfl⟩
  have e9 : st m z x = { m with ram := m.ram.set (z - 32768).toNat x } := by simp only [st, a1, a2, a3, if_true, if_false]
  rw [e9]
  have hw := h.wf
  exact ⟨rfl, Done.set q b _ _ h.fb ((h.drew q).set _ _ _ ⟨by simp [hw.ram], hw.scr, hw.ch0, hw.ch1, hw.pad0, hw.pad1, hw.pitch0, hw.pitch1, hw.vol0, hw.vol1, hw.time0, hw.time1, hw.bk⟩ (mcells_set_ram mb m tv hw _ (by omega) x) rfl rfl)⟩
 by_cases a4 : z < 52224
 ·obtain ⟨mb, L, tv, h⟩ := id hm
  refine (store_room b z x b _ _ w (room_scr b z w (by omega) a4) (cell_of w b _ _ 122 _ h.blk (mcells_scr mb m tv h.wf _ _ (lb_of m.scr (z - 49152).toNat (by rw [h.wf.scr]; omega)))) (frozen_of w b _ _ 122 h.blk)).mono ?_
  rintro e w' ⟨rfl, q, rfl⟩
  have e9 : st m z x = { m with scr := m.scr.set (z - 49152).toNat x } := by simp only [st, a1, a2, a3, a4, if_true, if_false]
  rw [e9]
  have hw := h.wf
  exact ⟨rfl, Done.set q b _ _ h.fb ((h.drew q).set _ _ _ ⟨hw.ram, by simp [hw.scr], hw.ch0, hw.ch1, hw.pad0, hw.pad1, hw.pitch0, hw.pitch1, hw.vol0, hw.vol1, hw.time0, hw.time1, hw.bk⟩ (mcells_set_scr mb m tv hw _ (by omega) x) rfl rfl)⟩
 have := store_port b z x w _ (room_high b z w (by omega)) hport
 simpa only [st, a1, a2, a3, a4, if_false] using this
theorem st_tones (m : MS) (z : Int) (x : UInt8) : (st m z x).tones.length <= m.tones.length + 1 := by
 unfold st
 split
 ·omega
 split
 ·split <;> simp
 split
 ·simp
 split
 ·simp
 unfold stp
 repeat' split
 all_goals simp
def sc (m : MS) (z X : Int) : MS := st (st m z (b8 X)) ((z + 1) % 65536) (b8 (X / 256))
theorem setCell_any (b : Nat) (z : Int) (h0 : 0 <= z) (h1 : z < 65536) (X : Int) (x0 : 0 <= X) (x1 : X < 65536) (w : World) {F : Nat -> Prop} {m : MS} (hm : HasM w F b m) (ht : m.tones.length <= 999999) :
  Calls Tryz.prog 114 #[.pointer (some ⟨b, 0, none⟩), .int .u16 z, .int .u16 X] w fun e w' => e = .returned (.tuple #[]) /\ Done w w' F b (sc m z X) := by
 have hs := store_any b z h0 h1 (b8 X) w hm (by omega)
 have e1 : IntKind.u8.wrap X = bt (b8 X) := by rw [u8_wrap, bt_b8]
 have e2 := u16_wrap (z + 1)
 unfold sc
 obtain ⟨y, hy⟩ : ∃ y, y = b8 (X / 256) := ⟨_, rfl⟩
 rw [<- hy]
 have e3 : IntKind.u8.wrap (X / 256) = bt y := by rw [u8_wrap, hy, bt_b8]
 have e4 : X / 256 = bt y := by rw [hy, bt_b8]; omega
 clear hy
 go_enter Tryz.func114, Tryz.ntmps114
 go_wp2_with fail
 refine hs.mono ?_
 rintro e w1 ⟨rfl, hD⟩
 have ht2 := st_tones m z (b8 X)
 have hs2 := store_any b ((z + 1) % 65536) (by omega) (by omega) y w1 hD.has (by omega)
 go_wp2_with fail
 refine hs2.mono ?_
 rintro e w2 ⟨rfl, hD2⟩
 go_wp2
 go_end0
 exact ⟨rfl, hD.next hD2⟩
theorem choose_any (b : Nat) (X : Int) (w : World) {F : Nat -> Prop} {m : MS} (hm : HasM w F b m) (ht : m.tones.length <= 1000000) :
  Calls Tryz.prog 130 #[.pointer (some ⟨b, 0, none⟩), .int .u16 X] w fun e w' => e = .returned (.tuple #[]) /\ Done w w' F b (st m 65280 (b8 X)) := by
 have hs := store_any b 65280 (by omega) (by omega) (b8 X) w hm ht
 have e1 : IntKind.u8.wrap X = bt (b8 X) := by rw [u8_wrap, bt_b8]
 go_enter Tryz.func130, Tryz.ntmps130
 go_wp2_with fail
 refine hs.mono ?_
 rintro e w1 ⟨rfl, hD⟩
 go_wp2
 go_end0
 exact ⟨rfl, hD⟩
theorem play_any (b : Nat) (X : Int) (x0 : 0 <= X) (x1 : X < 65536) (v : UInt8) (w : World) {F : Nat -> Prop} {m : MS} (hm : HasM w F b m) (ht : m.tones.length <= 999990) :
  Calls Tryz.prog 128 #[.pointer (some ⟨b, 0, none⟩), .int .u16 X, .int .u8 (bt v)] w fun e w' => e = .returned (.tuple #[]) /\ Done w w' F b (st (sc m 65284 X) 65286 v) := by
 have hs := setCell_any b 65284 (by omega) (by omega) X x0 x1 w hm (by omega)
 have t1 := st_tones m 65284 (b8 X)
 have t2 := st_tones (st m 65284 (b8 X)) ((65284 + 1) % 65536) (b8 (X / 256))
 go_enter Tryz.func128, Tryz.ntmps128
 go_wp2_with fail
 refine hs.mono ?_
 rintro e w1 ⟨rfl, hD⟩
 have hs2 := store_any b 65286 (by omega) (by omega) v w1 hD.has (by unfold sc; omega)
 go_wp2_with fail
 refine hs2.mono ?_
 rintro e w2 ⟨rfl, hD2⟩
 go_wp2
 go_end0
 exact ⟨rfl, hD.next hD2⟩
def plt (m : MS) (X Y C : Int) : MS := if X < 64 /\ Y < 48 then st m (49152 + 64 * Y + X) (b8 C) else m
theorem plot_any (b : Nat) (X Y C : Int) (x0 : 0 <= X) (x1 : X < 65536) (y0 : 0 <= Y) (y1 : Y < 65536) (w : World) {F : Nat -> Prop} {m : MS} (hm : HasM w F b m) (ht : m.tones.length <= 1000000) :
  Calls Tryz.prog 124 #[.pointer (some ⟨b, 0, none⟩), .int .u16 X, .int .u16 Y, .int .u16 C] w fun e w' => e = .returned (.tuple #[]) /\ Done w w' F b (plt m X Y C) := by
 by_cases a1 : X < 64
 ·by_cases a2 : Y < 48
  ·have hs := store_any b (49152 + 64 * Y + X) (by omega) (by omega) (b8 C) w hm ht
   have e1 : IntKind.u8.wrap C = bt (b8 C) := by rw [u8_wrap, bt_b8]
   have ep : plt m X Y C = st m (49152 + 64 * Y + X) (b8 C) := by simp [plt, a1, a2]
   rw [ep]
   go_enter Tryz.func124, Tryz.ntmps124
   go_wp2_with fail
   refine hs.mono ?_
   rintro e w1 ⟨rfl, hD⟩
   go_wp2
   go_end0
   exact ⟨rfl, hD⟩
  ·have ep : plt m X Y C = m := by simp [plt, a2]
   rw [ep]
   have a3 : decide (Y < 48) = false := by simpa using a2
   go_enter Tryz.func124, Tryz.ntmps124
   go_wp2
   go_end0
   exact ⟨rfl, Done.same hm 0⟩
 ·have ep : plt m X Y C = m := by simp [plt, a1]
  rw [ep]
  have a3 : decide (X < 64) = false := by simpa using a1
  go_enter Tryz.func124, Tryz.ntmps124
  go_wp2
  go_end0
  exact ⟨rfl, Done.same hm 0⟩
theorem MemP.clear {W : World} {F : Nat -> Prop} {b : Nat} {m : MS} {mb : Nat} {L : List (Nat × Nat)} {tv : Value} (h : MemP W F b m mb L tv) : MemP (W.setCell ⟨b, 19463, none⟩ (.slice none 0 0)) F b { m with tones := [] } mb L (.slice none 0 0) := by
 have hw := h.wf
 refine ⟨⟨hw.ram, hw.scr, hw.ch0, hw.ch1, hw.pad0, hw.pad1, hw.pitch0, hw.pitch1, hw.vol0, hw.vol1, hw.time0, hw.time1, hw.bk⟩, ?_, (setCell_other _ _ _ _ _ h.ne_map).trans h.map, h.keys, h.lt16, h.blks, ?_, h.all, World.ownsRow_nil _ _ _ _, h.fb, h.fmb, h.fbk, ?_⟩
 ·rw [setCell_heap W b 19463 _ 122 _ h.blk, show (19463 : Nat) = 19457 + 6 from rfl, mcells_set_reg mb m tv h.wf 6]; rfl
 ·intro p hp
  obtain ⟨l, e1, e2⟩ := h.bks p hp
  exact ⟨l, e1, (setCell_other _ _ _ _ _ (h.ne_bk p hp)).trans e2⟩
 ·intro g e; simp [Value.ownBlock] at e
def bg (m : MS) (p : Int) : MS := { m with pad := p, time := (m.time + 1) % 65536, tones := [], cyc := 0 }
theorem begin_any (b : Nat) (x : UInt8) (w : World) {F : Nat -> Prop} {m : MS} (hm : HasM w F b m) :
  Calls Tryz.prog 23 #[.pointer (some ⟨b, 0, none⟩), .int .u8 (bt x)] w fun e w' => e = .returned (.tuple #[]) /\ Done w w' F b (bg m (bt x)) := by
 obtain ⟨mb, L, tv, hm⟩ := hm
 have hw := hm.wf
 have hb := bt_bound x
 have hf := hm.fb
 have k1 := hm.reg 1 (.int .u8 (bt x)) { m with pad := bt x } (hw.regs rfl rfl rfl hw.ch0 hw.ch1 hb.1 hb.2 hw.pitch0 hw.pitch1 hw.vol0 hw.vol1 hw.time0 hw.time1) rfl rfl rfl rfl rfl
 have c1 := cell_of w b (19457 + 1) _ 122 _ hm.blk ((mcells_reg mb m tv hw 1).trans rfl)
 have z1 := frozen_of w b (19457 + 1) _ 122 hm.blk
 simp only [Nat.reduceAdd] at k1 c1 z1
 have t0 := Tc.refl F w
 have t1 := t0.setCell b 19458 hf (.int .u8 (bt x))
 generalize hw1 : w.setCell ⟨b, 19458, none⟩ (.int .u8 (bt x)) = w1 at k1 t1
 have c2 := cell_of w1 b (19457 + 4) _ 122 _ k1.blk ((mcells_reg mb _ tv k1.wf 4).trans rfl)
 have z2 := frozen_of w1 b (19457 + 4) _ 122 k1.blk
 have e1 := u16_wrap (m.time + 1)
 have k2 := k1.reg 4 (.int .u16 ((m.time + 1) % 65536)) { m with pad := bt x, time := (m.time + 1) % 65536 } (hw.regs rfl rfl rfl hw.ch0 hw.ch1 hb.1 hb.2 hw.pitch0 hw.pitch1 hw.vol0 hw.vol1 (by simp only; omega) (by simp only; omega)) rfl rfl rfl rfl rfl
 simp only [Nat.reduceAdd] at k2 c2 z2
 have t2 := t1.setCell b 19461 hf (.int .u16 ((m.time + 1) % 65536))
 generalize hw2 : w1.setCell ⟨b, 19461, none⟩ (.int .u16 ((m.time + 1) % 65536)) = w2 at k2 t2
 have c3 := cell_of w2 b (19457 + 6) _ 122 _ k2.blk ((mcells_reg mb _ tv k2.wf 6).trans rfl)
 have z3 := frozen_of w2 b (19457 + 6) _ 122 k2.blk
 have k3 := k2.clear
 simp only [Nat.reduceAdd] at c3 z3
 have t3 := t2.setCell b 19463 hf (.slice none 0 0)
 generalize hw3 : w2.setCell ⟨b, 19463, none⟩ (.slice none 0 0) = w3 at k3 t3
 have c4 := cell_of w3 b (19457 + 5) _ 122 _ k3.blk ((mcells_reg mb _ _ k3.wf 5).trans rfl)
 have z4 := frozen_of w3 b (19457 + 5) _ 122 k3.blk
 have k4 := k3.reg 5 (.int .i64 0) (bg m (bt x)) (hw.regs rfl rfl rfl hw.ch0 hw.ch1 hb.1 hb.2 hw.pitch0 hw.pitch1 hw.vol0 hw.vol1 (by simp only [bg]; omega) (by simp only [bg]; omega)) rfl rfl rfl rfl rfl
 have t4 := t3.setCell b 19462 hf (.int .i64 0)
 simp only [Nat.reduceAdd] at c4 z4 k4
 have hfin : Done w (w3.setCell ⟨b, 19462, none⟩ (.int .i64 0)) F b (bg m (bt x)) := ⟨⟨_, _, _, k4.mono fun _ _ f => .inl f⟩, t4⟩
 clear k1 k2 k3 k4 t0 t1 t2 t3 t4 hm hw
 go_enter Tryz.func23, Tryz.ntmps23
 go_wp2
 go_end0
 exact ⟨rfl, hfin⟩
theorem at_any (b : Nat) (n : Int) (w : World) {F : Nat -> Prop} {m : MS} (hm : HasM w F b m) :
  Calls Tryz.prog 38 #[.pointer (some ⟨b, 0, none⟩), .int .i64 n] w fun e w' => e = .returned (.tuple #[]) /\ Done w w' F b { m with cyc := n } := by
 obtain ⟨mb, L, tv, hm⟩ := hm
 have hw := hm.wf
 have k1 := hm.reg 5 (.int .i64 n) { m with cyc := n } (hw.regs rfl rfl rfl hw.ch0 hw.ch1 hw.pad0 hw.pad1 hw.pitch0 hw.pitch1 hw.vol0 hw.vol1 hw.time0 hw.time1) rfl rfl rfl rfl rfl
 have c1 := cell_of w b (19457 + 5) _ 122 _ hm.blk ((mcells_reg mb m tv hw 5).trans rfl)
 have z1 := frozen_of w b (19457 + 5) _ 122 hm.blk
 simp only [Nat.reduceAdd] at k1 c1 z1
 have t1 := (Tc.refl F w).setCell b 19462 hm.fb (.int .i64 n)
 have hfin : Done w (w.setCell ⟨b, 19462, none⟩ (.int .i64 n)) F b { m with cyc := n } := ⟨⟨_, _, _, k1.mono fun _ _ f => .inl f⟩, t1⟩
 clear k1 t1 hm hw
 go_enter Tryz.func38, Tryz.ntmps38
 go_wp2
 go_end0
 exact ⟨rfl, hfin⟩
def m0 : MS := { ram := List.replicate 16384 0, scr := List.replicate 3072 0, ch := 0, pad := 0, pitch := 0, vol := 0, time := 0, cyc := 0, tones := [], banks := fun _ => none }
theorem m0_wf : Wf m0 := ⟨by simp only [m0, List.length_replicate], by simp only [m0, List.length_replicate], by decide, by decide, by decide, by decide, by decide, by decide, by decide, by decide, by decide, by decide, by intro n l h; cases h⟩
theorem nbq {i k : Nat} (h : i ≠ k) : Nat.beq i k = false := by rw [Bool.eq_false_iff]; intro c; exact h (Nat.eq_of_beq_eq_true c)
theorem fm_regs : ∀ j, j < 7 -> some (fm (19457 + j)) = (regs m0 (.slice none 0 0))[j]?
 | 0, _ => by kernel_rfl
 | 1, _ => by kernel_rfl
 | 2, _ => by kernel_rfl
 | 3, _ => by kernel_rfl
 | 4, _ => by kernel_rfl
 | 5, _ => by kernel_rfl
 | 6, _ => by kernel_rfl
 | n + 7, h => by omega
theorem zero_cells (mb : Nat) : zero86.set 0 (.map (some mb)) = mcells mb m0 (.slice none 0 0) := by
 apply List.ext_getElem?
 intro i
 by_cases h0 : i = 0
 ·subst h0
  rw [List.getElem?_set_self (by rw [zero86_len]; omega)]
  exact (mcells_0 mb m0 _).symm
 rw [List.getElem?_set_ne (by omega)]
 by_cases h1 : i < 19464
 ·rw [zero86_get i h1]
  by_cases h2 : i < 16385
  ·have e := mcells_ram mb m0 (.slice none 0 0) m0_wf (i - 1) 0 (by simp only [m0]; rw [List.getElem?_replicate, if_pos (by omega)])
   rw [show 1 + (i - 1) = i by omega] at e
   rw [e]
   have b1 : Nat.beq i 0 = false := nbq (by omega)
   have b2 : Nat.ble 19463 i = false := by rw [Bool.eq_false_iff]; intro c; have := Nat.le_of_ble_eq_true c; omega
   have b3 : Nat.beq i 19462 = false := nbq (by omega)
   have b4 : Nat.beq i 19461 = false := nbq (by omega)
   have b5 : Nat.beq i 19459 = false := nbq (by omega)
   simp only [fm, b1, b2, b3, b4, b5, cond_false]
   rfl
  by_cases h3 : i < 19457
  ·have e := mcells_scr mb m0 (.slice none 0 0) m0_wf (i - 16385) 0 (by simp only [m0]; rw [List.getElem?_replicate, if_pos (by omega)])
   rw [show 16385 + (i - 16385) = i by omega] at e
   rw [e]
   have b1 : Nat.beq i 0 = false := nbq (by omega)
   have b2 : Nat.ble 19463 i = false := by rw [Bool.eq_false_iff]; intro c; have := Nat.le_of_ble_eq_true c; omega
   have b3 : Nat.beq i 19462 = false := nbq (by omega)
   have b4 : Nat.beq i 19461 = false := nbq (by omega)
   have b5 : Nat.beq i 19459 = false := nbq (by omega)
   simp only [fm, b1, b2, b3, b4, b5, cond_false]
   rfl
  ·have e := mcells_reg mb m0 (.slice none 0 0) m0_wf (i - 19457)
   rw [show 19457 + (i - 19457) = i by omega] at e
   rw [e, <- fm_regs _ (by omega), show 19457 + (i - 19457) = i by omega]
 ·rw [List.getElem?_eq_none (by rw [zero86_len]; omega), List.getElem?_eq_none (by rw [mcells_len mb m0 _ m0_wf]; omega)]
theorem build86 (W : World) (mb : Nat) : (Instr.build 122 #[(0, .map (some mb))]).run Tryz.prog W = .ok (.agg (mcells mb m0 (.slice none 0 0)).toArray) W := by
 have hl : zero86.length = 19464 := zero86_len
 have e : Instr.fill ([(0, 1), (1, 16384), (16385, 3072), (19457, 1), (19458, 1), (19459, 1), (19460, 1), (19461, 1), (19462, 1), (19463, 1)][·]?) zero86.toArray [(0, .map (some mb))] = some (mcells mb m0 (.slice none 0 0)).toArray := by
  rw [<- zero_cells]
  simp [Instr.fill, Value.cells, hl]
 simp [Instr.build, zc86 W, Value.cells, run_underlying Tryz.underlying122, Tryz.sizeOf118, Tryz.sizeOf119, Tryz.sizeOf120, Tryz.sizeOf5, Tryz.sizeOf57, Tryz.sizeOf3, Tryz.sizeOf26, e]
def BnS (W : World) (p : Option Addr) (bs : List (Int × List UInt8)) : Prop := ∀ (i : Nat) (t : Int × List UInt8), bs[i]? = some t -> ∃ b o dv, p = some ⟨b, o, none⟩ /\ W.cell? ⟨b, o + i * 2, none⟩ = some (.int .i64 t.1) /\ W.cell? ⟨b, o + i * 2 + 1, none⟩ = some dv /\ Sl W dv t.2 /\ t.2.length <= room
theorem BnS.kept {W W' : World} {p : Option Addr} {bs : List (Int × List UInt8)} (h : BnS W p bs) (k : ∀ a u, W.cell? a = some u -> W'.cell? a = some u) : BnS W' p bs := by
 intro i t ht
 obtain ⟨b, o, dv, e1, e2, e3, e4, e5⟩ := h i t ht
 exact ⟨b, o, dv, e1, k _ _ e2, k _ _ e3, e4.kept fun a u e _ => k a u e, e5⟩
theorem BnS.below {W W' : World} {p : Option Addr} {bs : List (Int × List UInt8)} (h : BnS W p bs) (b : Below W.heap.size W W') : BnS W' p bs :=
 h.kept fun a u e => by rw [b.cell (World.block_lt_of_cell? W a e)]; exact e
def mayB : Int -> List (Int × List UInt8) -> Bool
 | _, [] => true
 | last, t :: r => if t.1 <= last \/ 16 <= t.1 \/ 16384 < t.2.length then false else mayB t.1 r
theorem mayB_take : ∀ (bs : List (Int × List UInt8)) (k : Nat) (last : Int), (∀ j t, j < k -> bs[j]? = some t -> (match j with | 0 => last | j + 1 => ((bs.getD j (0, [])).1)) < t.1 /\ t.1 < 16 /\ t.2.length <= 16384) -> k <= bs.length -> mayB last bs = mayB (match k with | 0 => last | k + 1 => (bs.getD k (0, [])).1) (bs.drop k)
 | [], k, last, h, hk => by simp at hk; subst hk; rfl
 | t :: r, 0, last, h, hk => rfl
 | t :: r, k + 1, last, h, hk => by
  have h0 := h 0 t (by omega) rfl
  simp only at h0
  have e : mayB last (t :: r) = mayB t.1 r := by simp [mayB]; omega
  rw [e, List.drop_succ_cons]
  have := mayB_take r k t.1 (fun j u hj hu => by
   have := h (j + 1) u (by omega) hu
   cases j with
   | zero => simpa using this
   | succ j => simpa using this) (by simpa using hk)
  rw [this]
  cases k with
  | zero => rfl
  | succ k => rfl
def ahead (bs : List (Int × List UInt8)) : Nat -> Int
 | 0 => -1
 | k + 1 => (bs.getD k (0, [])).1
def Good (bs : List (Int × List UInt8)) (k : Nat) : Prop := ∀ j t, j < k -> bs[j]? = some t -> ahead bs j < t.1 /\ t.1 < 16 /\ t.2.length <= 16384
theorem mayB_at (bs : List (Int × List UInt8)) (k : Nat) (h : Good bs k) (hk : k <= bs.length) : mayB (-1) bs = mayB (ahead bs k) (bs.drop k) := by
 have := mayB_take bs k (-1) (fun j t hj ht => by have := h j t hj ht; cases j <;> exact this) hk
 rw [this]; cases k <;> rfl
set_option maxHeartbeats 1000000
set_option maxRecDepth 100000
theorem mayBe_any (p : Option Addr) (c : Nat) (bs : List (Int × List UInt8)) (hl : bs.length <= room) (w : World) (h : BnS w p bs) :
  Calls Tryz.prog 51 #[.slice p bs.length c] w fun e w' => e = .returned (.bool (mayB (-1) bs)) /\ Below w.heap.size w w' := by
 unfold room at hl
 go_enter Tryz.func51, Tryz.ntmps51
 go_wp2
 go_loopw [3, 8] (fun a i wr => ∃ k : Nat, k <= bs.length /\ a = .int .i64 (ahead bs k) /\ i = .int .i64 (k : Int) /\ Good bs k /\ Below w.heap.size w wr) (fun _ i _ => bs.length - (intOf i).toNat)
 case atStart => exact ⟨0, by omega, rfl, rfl, fun j t hj => by omega, Below.refl _ _⟩
 case round =>
  obtain ⟨k, hk, rfl, rfl, hG, hB⟩ := hrel
  by_cases hlt : k < bs.length
  ·have i1 : (k : Int) < bs.length := by omega
   obtain ⟨b, o, dv, rfl, e1, e2, e3, e4⟩ := h.below hB k bs[k] (List.getElem?_eq_getElem hlt)
   obtain ⟨dp, dc, rfl, _⟩ := e3.ex
   unfold room at e4
   have hd : bs.drop k = bs[k] :: bs.drop (k + 1) := by rw [List.drop_eq_getElem_cons hlt]
   have hM := mayB_at bs k hG hk
   rw [hd] at hM
   have hA : ahead bs (k + 1) = (bs[k]).1 := by simp [ahead, List.getD, List.getElem?_eq_getElem hlt]
   have hG2 : ¬ ((bs[k]).1 <= ahead bs k) -> ¬ (16 <= (bs[k]).1) -> ¬ (16384 < (bs[k]).2.length) -> Good bs (k + 1) := by
    intro c1 c2 c3 j t hj ht
    by_cases e : j = k
    ·subst e; rw [List.getElem?_eq_getElem hlt] at ht; cases ht; exact ⟨by omega, by omega, by omega⟩
    ·exact hG j t (by omega) ht
   have hM2 : (bs[k]).1 <= ahead bs k \/ 16 <= (bs[k]).1 \/ 16384 < (bs[k]).2.length -> mayB (-1) bs = false := fun c => by rw [hM, mayB, if_pos c]
   have hB2 : Below w.heap.size w (wr.alloc (Obj.cells #[.int .i64 (bs[k]).1, .slice dp (bs[k]).2.length dc] 114)) := hB.alloc hB.size _
   clear hM hd e3 hG hB
   generalize hn : (bs[k]).1 = n at *
   generalize hL : (bs[k]).2.length = L at *
   have HA : Hid _ := hA
   have HG : Hid _ := hG2
   have HB : Hid _ := hB2
   have HM : Hid _ := hM2
   clear hG2 hB2 hM2 hA
   by_cases c1 : n <= ahead bs k
   ·have f1 := HM.out (.inl c1)
    have d1 : decide (n <= ahead bs k) = true := by simpa using c1
    go_wp2
    go_ret
    exact ⟨rfl, HB.out⟩
   have d1 : decide (n <= ahead bs k) = false := by simpa using c1
   by_cases c2 : 16 <= n
   ·have f1 := HM.out (.inr (.inl c2))
    have d2 : decide (16 <= n) = true := by simp; omega
    go_wp2
    go_ret
    exact ⟨rfl, HB.out⟩
   have d2 : decide (16 <= n) = false := by simp; omega
   by_cases c3 : 16384 < L
   ·have f1 := HM.out (.inr (.inr c3))
    have d3 : decide ((16384 : Int) < L) = true := by simp; omega
    go_wp2
    go_ret
    exact ⟨rfl, HB.out⟩
   have d3 : decide ((16384 : Int) < L) = false := by simp; omega
   go_wp2
   go_roundw
   case rel =>
    first
     | exact ⟨k + 1, by omega, by rw [HA.out], by go_num, HG.out c1 c2 c3, HB.out⟩
     | ((repeat apply Exists.intro); refine ⟨⟨k + 1, by omega, by rw [HA.out], ?_, HG.out c1 c2 c3, HB.out⟩, rfl⟩; go_num)
   case measure => simp [intOf]; omega
  ·obtain rfl : k = bs.length := by omega
   have hM := mayB_at bs bs.length hG (Nat.le_refl _)
   rw [List.drop_length] at hM
   go_wp2
   go_ret
   exact ⟨by rw [hM]; rfl, hB⟩
open Go.ChangeMaps (setBlock)
set_option linter.unusedVariables false
set_option linter.unusedSimpArgs false
def pad (l : List UInt8) : List UInt8 := l ++ List.replicate (16384 - l.length) 0
theorem pad_len (l : List UInt8) (h : l.length <= 16384) : (pad l).length = 16384 := by rw [pad, List.length_append, List.length_replicate]; omega
theorem zero83_bv : zero83 = bv (List.replicate 16384 0) := by
  apply List.ext_getElem?
  intro i
  by_cases h : i < 16384
  · rw [zero83_get i h, (bv_get _ _ _).2 ⟨0, by rw [List.getElem?_replicate, if_pos h], rfl⟩]; rfl
  · rw [List.getElem?_eq_none (by rw [zero83_len]; omega), List.getElem?_eq_none (by rw [bv_len, List.length_replicate]; omega)]
theorem ents_append : ∀ (L : List (Nat × Nat)) (i n g : Nat), ents i (L ++ [(n, g)]) = ents i L ++ [{ key := .int .i64 (n : Int), val := .pointer (some ⟨g, 0, none⟩), born := i + L.length }]
  | [], i, n, g => rfl
  | (x, y) :: L, i, n, g => by
    simp only [ents, List.cons_append, ents_append L (i + 1) n g, List.length_cons]
    rw [show i + 1 + L.length = i + (L.length + 1) by omega]
theorem run_put (W : World) (mb n g : Nat) (L : List (Nat × Nat)) (h : W.heap[mb]? = some (.map (ents 0 L).toArray L.length)) (hn : ∀ p ∈ L, p.1 ≠ n) :
    (Instr.mapUpdate 118 (.map (some mb)) (.int .i64 (n : Int)) (.pointer (some ⟨g, 0, none⟩))).run Tryz.prog W = .ok () (setBlock W mb (.map (ents 0 (L ++ [(n, g)])).toArray (L ++ [(n, g)]).length)) := by
  simp [Instr.mapUpdate, run_underlying Tryz.underlying118, getObj, setObj, Sem.run, h, checkKey_int, Instr.findKey, run_underlying Tryz.underlying3, find_none n L 0 0 hn, ents_append, setBlock]
theorem setBlock_same (W : World) (b : Nat) (o o' : Obj) (h : W.heap[b]? = some o') : (setBlock W b o).heap[b]? = some o := by
  have := lt_of h
  simp [setBlock, this]
theorem setBlock_other (W : World) (b k : Nat) (o : Obj) (h : k ≠ b) : (setBlock W b o).heap[k]? = W.heap[k]? := by
  simp only [setBlock, Array.getElem?_setIfInBounds]
  rw [if_neg (by omega)]
theorem setBlock_size (W : World) (b : Nat) (o : Obj) : (setBlock W b o).heap.size = W.heap.size := by simp [setBlock]
theorem Below.setBlock {B : Nat} {a w : World} (h : Below B a w) (g : Nat) (hg : B <= g) (o : Obj) : Below B a (setBlock w g o) :=
  ⟨h.os, h.tape, h.output, by rw [setBlock_size]; exact h.size, fun k hk => (setBlock_other w g k o (by omega)).trans (h.block k hk)⟩
theorem MemP.add {W W1 : World} {F : Nat -> Prop} {b : Nat} {m : MS} {mb : Nat} {L : List (Nat × Nat)} {tv : Value} (h : MemP W F b m mb L tv) (n g : Nat) (l : List UInt8) (hb : ∀ k, k < W.heap.size -> W1.heap[k]? = W.heap[k]?)
    (hn : n < 16) (hm : m.banks n = none) (hl : l.length = 16384) (hg : W.heap.size <= g) (hF : F g) (hk : Bk W1 g l) :
    MemP (setBlock W1 mb (.map (ents 0 (L ++ [(n, g)])).toArray (L ++ [(n, g)]).length)) F b { m with banks := upd m.banks n l } mb (L ++ [(n, g)]) tv := by
  have hmb : W1.heap[mb]? = some (.map (ents 0 L).toArray L.length) := (hb mb (lt_of h.map)).trans h.map
  have hno : ∀ p ∈ L, p.1 ≠ n := by rintro p hp rfl; obtain ⟨l', e, _⟩ := h.bks p hp; rw [hm] at e; cases e
  have hlt : ∀ p ∈ L, p.2 < W.heap.size := fun p hp => by obtain ⟨l', _, e⟩ := h.bks p hp; exact lt_of e
  have hgm : g ≠ mb := by have := lt_of h.map; omega
  refine ⟨⟨h.wf.ram, h.wf.scr, h.wf.ch0, h.wf.ch1, h.wf.pad0, h.wf.pad1, h.wf.pitch0, h.wf.pitch1, h.wf.vol0, h.wf.vol1, h.wf.time0, h.wf.time1, ?_⟩, ?_, setBlock_same _ _ _ _ hmb, ?_, ?_, ?_, ?_, ?_, ?_, h.fb, h.fmb, ?_, h.ft⟩
  · intro k l' e
    simp only [upd] at e
    split at e
    · cases e; next c => subst c; exact ⟨hn, hl⟩
    · exact h.wf.bk k l' e
  · exact (setBlock_other _ _ _ _ h.ne_map.symm).trans ((hb b (lt_of h.blk)).trans h.blk)
  · rw [List.map_append, List.nodup_append]
    refine ⟨h.keys, by simp, ?_⟩
    intro a ha c hc e
    simp at hc ha
    obtain ⟨x, hx⟩ := ha
    exact hno _ hx (by simp; omega)
  · intro p hp
    rcases List.mem_append.1 hp with hp | hp
    · exact h.lt16 p hp
    · simp at hp; subst hp; exact hn
  · rw [List.map_append, List.nodup_append]
    refine ⟨h.blks, by simp, ?_⟩
    intro a ha c hc e
    simp at hc ha
    obtain ⟨x, hx⟩ := ha
    have := hlt _ hx
    simp at this
    omega
  · intro p hp
    rcases List.mem_append.1 hp with hp | hp
    · obtain ⟨l', e1, e2⟩ := h.bks p hp
      refine ⟨l', by simp only [upd, if_neg (hno p hp)]; exact e1, ?_⟩
      refine (setBlock_other _ _ _ _ (h.ne_bk_map p hp).symm).trans ((hb _ (lt_of e2)).trans e2)
    · simp at hp; subst hp
      exact ⟨l, by simp [upd], (setBlock_other _ _ _ _ hgm).trans hk⟩
  · intro k l' e
    simp only [upd] at e
    split at e
    · next c => subst c; exact ⟨g, by simp⟩
    · obtain ⟨y, hy⟩ := h.all k l' e; exact ⟨y, by simp [hy]⟩
  · exact own_kept h.tones fun k e hk2 => (setBlock_other _ _ _ _ (h.ne_t_map k e).symm).trans (hb k hk2)
  · intro p hp
    rcases List.mem_append.1 hp with hp | hp
    · exact h.fbk p hp
    · simp at hp; subst hp; exact hF
def nbk (bs : List (Int × List UInt8)) (k : Nat) : Option (List UInt8) := (bs.find? (fun t => t.1 == (k : Int))).map (fun t => pad t.2)
theorem Good.mono {bs : List (Int × List UInt8)} {k j : Nat} (h : Good bs k) (hj : j <= k) : Good bs j := fun i t hi ht => h i t (by omega) ht
theorem good_le (bs : List (Int × List UInt8)) : ∀ k, k <= bs.length -> Good bs k -> ∀ j t, j < k -> bs[j]? = some t -> t.1 <= ahead bs k /\ -1 < t.1
  | 0, _, _, j, t, hj, _ => by omega
  | k + 1, hl, h, j, t, hj, ht => by
    have hk : k < bs.length := by omega
    have h2 := h k bs[k] (by omega) (List.getElem?_eq_getElem hk)
    have h3 : ahead bs (k + 1) = (bs[k]).1 := by simp [ahead, List.getD, List.getElem?_eq_getElem hk]
    by_cases e : j = k
    · subst e
      rw [List.getElem?_eq_getElem hk] at ht
      cases ht
      refine ⟨by omega, ?_⟩
      cases j with
      | zero => have := h2.1; simpa [ahead] using this
      | succ i =>
        have h5 := good_le bs (i + 1) (by omega) (h.mono (by omega)) i bs[i] (by omega) (List.getElem?_eq_getElem (by omega))
        omega
    · have h1 := good_le bs k (by omega) (h.mono (by omega)) j t (by omega) ht
      omega
theorem good_of (bs : List (Int × List UInt8)) (h : mayB (-1) bs = true) : ∀ k, k <= bs.length -> Good bs k
  | 0, _ => fun j t hj => by omega
  | k + 1, hk => by
    have hG := good_of bs h k (by omega)
    have hM := mayB_at bs k hG (by omega)
    rw [h, List.drop_eq_getElem_cons (show k < bs.length by omega), mayB] at hM
    split at hM
    · cases hM
    · next c =>
      intro j t hj ht
      by_cases e : j = k
      · subst e; rw [List.getElem?_eq_getElem (by omega)] at ht; cases ht; omega
      · exact hG j t (by omega) ht
theorem nbk_step (bs : List (Int × List UInt8)) (k : Nat) (hk : k < bs.length) (hG : Good bs (k + 1)) :
    nbk (bs.take (k + 1)) = upd (nbk (bs.take k)) (bs[k]).1.toNat (pad (bs[k]).2) /\ nbk (bs.take k) (bs[k]).1.toNat = none /\ 0 <= (bs[k]).1 /\ (bs[k]).1 < 16 /\ (bs[k]).2.length <= 16384 := by
  have h2 := hG k bs[k] (by omega) (List.getElem?_eq_getElem hk)
  have h3 := good_le bs (k + 1) (by omega) hG k bs[k] (by omega) (List.getElem?_eq_getElem hk)
  have hno : ∀ t ∈ bs.take k, t.1 < (bs[k]).1 := by
    intro t ht
    obtain ⟨j, hj, e⟩ := List.mem_iff_getElem.1 ht
    rw [List.length_take] at hj
    rw [List.getElem_take] at e
    have := good_le bs k (by omega) (hG.mono (by omega)) j t (by omega) (by rw [List.getElem?_eq_getElem (by omega), e])
    omega
  refine ⟨?_, ?_, by omega, h2.2.1, h2.2.2⟩
  · funext x
    rw [List.take_succ_eq_append_getElem hk]
    unfold nbk upd
    rw [List.find?_append]
    by_cases e : x = (bs[k]).1.toNat
    · rw [if_pos e]
      have e2 : (bs.take k).find? (fun t => t.1 == (x : Int)) = none := by
        rw [List.find?_eq_none]; intro t ht c; simp at c; have := hno t ht; omega
      rw [e2]
      have e3 : ((bs[k]).1 == (x : Int)) = true := by simp; omega
      simp [e3]
    · rw [if_neg e]
      have e3 : ((bs[k]).1 == (x : Int)) = false := by simp; omega
      simp [e3]
  · unfold nbk
    have e2 : (bs.take k).find? (fun t => t.1 == (((bs[k]).1.toNat : Nat) : Int)) = none := by
      rw [List.find?_eq_none]; intro t ht c; simp at c; have := hno t ht; omega
    rw [e2]; rfl
theorem setRow_eq (W : World) (g : Nat) (c : List Value) (t : TypeId) (c' : List Value) (h : W.heap[g]? = some (.cells c.toArray t (0, 0))) : (W.setRow g c'.toArray).heap[g]? = some (.cells c'.toArray t (0, 0)) := setRow_heap W g _ _ t _ h
theorem run_copy_bank (W : World) (g : Nat) (dv : Value) (l : List UInt8) (ty : TypeId) (hg : W.heap[g]? = some (.cells zero83.toArray 119 (0, 0))) (hs : Sl W dv l) (hl : l.length <= 16384) (B : Nat) (W0 : World) (hB : Below B W0 W) (hBg : B <= g) :
    ∃ W', (Builtin.copy_ #[25, 25] ty #[.slice (some ⟨g, 0, none⟩) 16384 16384, dv]).run Tryz.prog W = .ok (.int .i64 (l.length : Int)) W' /\ Bk W' g (pad l) /\ Below B W0 W' /\ (∀ k, k ≠ g -> W'.heap[k]? = W.heap[k]?) /\ W'.heap.size = W.heap.size := by
  have hi5 : (Tryz.prog.info? 5).map (·.size) = some 1 := by kernel_rfl
  rcases hs with ⟨rfl, rfl⟩ | ⟨x, c, rfl, hc, hcell⟩
  · refine ⟨W, run_copy_nil (P := Tryz.prog) W 25 25 ty 5 _ _ _ Tryz.underlying25 (by rw [hi5]; rfl), ?_, hB, fun _ _ => rfl, rfl⟩
    unfold Bk pad
    rw [hg, zero83_bv]; simp only [List.nil_append, List.length_nil]
  · have hr := run_copy_row (P := Tryz.prog) W 25 25 ty 5 g 0 16384 16384 x l.length c zero83.toArray 119 (bv l) Tryz.underlying25 hi5 hg (by rw [bv_len]; exact (Nat.min_eq_left hl).symm)
      (fun j v hj => by obtain ⟨b, hb, rfl⟩ := (bv_get l j v).1 hj; exact hcell j b hb) (by rw [bv_len, List.size_toArray, zero83_len]; omega) (bv_one l)
    rw [bv_len] at hr
    refine ⟨_, hr, ?_, ?_, fun k hk => ?_, ?_⟩
    · unfold Bk
      rw [setRow_eq W g zero83 119 _ hg]
      have e : List.take 0 zero83 ++ bv l ++ List.drop (0 + (bv l).length) zero83 = bv (pad l) := by
        rw [zero83_bv]
        simp only [List.take_zero, List.nil_append, bv_len, Nat.zero_add, pad, bv_append]
        have e2 : ∀ n : Nat, List.drop l.length (bv (List.replicate n 0)) = bv (List.replicate (n - l.length) 0) := fun n => by simp only [bv, List.map_replicate, List.drop_replicate]
        rw [e2]
      rw [bv_len] at e
      exact congrArg (fun q : List Value => some (Obj.cells q.toArray 119 (0, 0))) e
    · exact ⟨hB.os, hB.tape, hB.output, by rw [size_setRow]; exact hB.size, fun k hk => (setRow_other W g k _ (by omega)).trans (hB.block k hk)⟩
    · exact setRow_other W g k _ hk
    · exact size_setRow _ _ _
set_option maxHeartbeats 1000000
set_option maxRecDepth 100000
theorem wpList_build86 {ops : Array Oper} {rest : List Oper} {o : Oper} {a : Act} {w : World} {Q : Exit -> Act -> World -> Prop} (hg : o.guard = none) (x : Operand) (ho : o.op = .build 122 #[(0, x)]) (mb : Nat) (hm : a.eval x = .map (some mb))
    (h : wpList Tryz.prog ops Q rest (a.put o.dst (.agg (mcells mb m0 (.slice none 0 0)).toArray)) w) : wpList Tryz.prog ops Q (o :: rest) a w :=
  wpList_plain hg fun _ hK => by
    unfold Oper.wp execOp
    have e := build86 w mb
    simp only [ho, List.map_toArray, List.map_cons, List.map_nil, hm, Sem.run_bind, e, Result.andThen_ok]
    exact hK _ _ h
theorem new_no (p : Option Addr) (c : Nat) (bs : List (Int × List UInt8)) (hl : bs.length <= room) (w : World) (h : BnS w p bs) (hm : mayB (-1) bs = false) :
    Calls Tryz.prog 33 #[.slice p bs.length c] w fun e w' => e = .returned (.tuple #[.pointer none, .int .i64 2]) /\ Below w.heap.size w w' := by
  have hmb := mayBe_any p c bs hl w h
  rw [hm] at hmb
  go_enter Tryz.func33, Tryz.ntmps33
  go_wp2_with fail
  refine hmb.mono ?_
  rintro e w1 ⟨rfl, hB⟩
  go_wp2
  go_ret2
  exact ⟨rfl, hB⟩
theorem new_yes (p : Option Addr) (c : Nat) (bs : List (Int × List UInt8)) (hl : bs.length <= room) (w : World) (h : BnS w p bs) (hm : mayB (-1) bs = true) :
    Calls Tryz.prog 33 #[.slice p bs.length c] w fun e w' => ∃ b, e = .returned (.tuple #[.pointer (some ⟨b, 0, none⟩), .int .i64 0]) /\ HasM w' (fun k => w.heap.size <= k) b { m0 with banks := nbk bs } /\ Below w.heap.size w w' := by
  have hmb := mayBe_any p c bs hl w h
  have hGd := good_of bs hm bs.length (Nat.le_refl _)
  rw [hm] at hmb
  unfold room at hl
  have z83 := zc83 w
  go_enter Tryz.func33, Tryz.ntmps33
  go_wp2_with fail
  refine hmb.mono ?_
  rintro e w1 ⟨rfl, hB⟩
  clear hmb hm
  have hmm := @run_makeMap Tryz.prog
  obtain ⟨mb, hmbq⟩ : ∃ mb, mb = w1.heap.size := ⟨_, rfl⟩
  have hwm : w.heap.size <= mb := by rw [hmbq]; exact hB.size
  have hM0 : MemP ((w1.alloc (.map #[] 0)).alloc (.cells (mcells mb m0 (.slice none 0 0)).toArray 122)) (fun k => w.heap.size <= k) (mb + 1) { m0 with banks := nbk (bs.take 0) } mb [] (.slice none 0 0) := by
    have hs1 : (w1.alloc (.map #[] 0)).heap.size = mb + 1 := by simp [hmbq]
    refine ⟨⟨m0_wf.ram, m0_wf.scr, m0_wf.ch0, m0_wf.ch1, m0_wf.pad0, m0_wf.pad1, m0_wf.pitch0, m0_wf.pitch1, m0_wf.vol0, m0_wf.vol1, m0_wf.time0, m0_wf.time1, by intro n l e; simp [nbk] at e⟩, ?_, ?_, by simp, by simp, by simp, by simp, by intro n l e; simp [nbk] at e, World.ownsRow_nil _ _ _ _, Nat.le_succ_of_le hwm, hwm, by simp, by simp [Value.ownBlock]⟩
    · rw [<- hs1]; exact heap_alloc_new _ _
    · rw [Below.heap_alloc _ _ mb (by omega), hmbq]; exact heap_alloc_new w1 _
  have hB0 : Below w.heap.size w ((w1.alloc (.map #[] 0)).alloc (.cells (mcells mb m0 (.slice none 0 0)).toArray 122)) := (hB.alloc hB.size _).alloc (by have := hB.size; simp; omega) _
  have HM0 : Hid _ := hM0
  have HB0 : Hid _ := hB0
  clear hM0 hB0
  go_wp2_with (first | (refine wpList_build86 rfl (.tmp 11) rfl w1.heap.size (by simp [Act.eval]) ?_))
  rw [<- hmbq] at *
  go_loopw [16] (fun i wr => ∃ (k : Nat) (L : List (Nat × Nat)), k <= bs.length /\ i = .int .i64 (k : Int) /\ MemP wr (fun k => w.heap.size <= k) (mb + 1) { m0 with banks := nbk (bs.take k) } mb L (.slice none 0 0) /\ Below w.heap.size w wr) (fun i _ => bs.length - (intOf i).toNat)
  case atStart => exact ⟨0, [], by omega, rfl, HM0.out, HB0.out⟩
  case round =>
    clear HM0 HB0
    obtain ⟨k, L, hk, rfl, hM, hB⟩ := hrel
    by_cases hlt : k < bs.length
    · have i1 : (k : Int) < bs.length := by omega
      obtain ⟨b, o, dv, rfl, e1, e2, e3, e4⟩ := h.below hB k bs[k] (List.getElem?_eq_getElem hlt)
      obtain ⟨q1, q2, q3, q4, q5⟩ := nbk_step bs k hlt (hGd.mono (by omega))
      obtain ⟨n, hn⟩ : ∃ n : Nat, (bs[k]).1 = (n : Int) := ⟨(bs[k]).1.toNat, by omega⟩
      rw [hn] at e1 q1 q2 q4
      simp only [Int.toNat_natCast] at q1 q2
      generalize (bs[k]).2 = l at *
      obtain ⟨W1, hW1⟩ : ∃ W1, W1 = wr.alloc (.cells #[.int .i64 (n : Int), dv] 114) := ⟨_, rfl⟩
      obtain ⟨g, hgq⟩ : ∃ g, g = W1.heap.size := ⟨_, rfl⟩
      obtain ⟨W2, hW2⟩ : ∃ W2, W2 = (W1.alloc (.cells zero83.toArray 119)).drew := ⟨_, rfl⟩
      have hws : w.heap.size <= wr.heap.size := hB.size
      have hs1 : W1.heap.size = wr.heap.size + 1 := by rw [hW1]; simp
      have hB1 : Below w.heap.size w W1 := by rw [hW1]; exact hB.alloc hB.size _
      have hB2 : Below w.heap.size w W2 := by rw [hW2]; exact (hB1.alloc hB1.size _).drew
      have hg2 : W2.heap[g]? = some (.cells zero83.toArray 119 (0, 0)) := by rw [hW2, hgq]; exact heap_alloc_new W1 _
      have hb12 : Below wr.heap.size wr W2 := by rw [hW2, hW1]; exact (((Below.refl _ wr).alloc (Nat.le_refl _) _).alloc (by simp) _).drew
      have hv2 : W2.heap[wr.heap.size]? = some (.cells [.int .i64 (n : Int), dv].toArray 114 (0, 0)) := by
        rw [hW2, hW1]; exact (Below.heap_alloc _ _ _ (by simp)).trans (heap_alloc_new wr _)
      obtain ⟨W3, hcp, hk3, hB3, hst3, hsz3⟩ := run_copy_bank W2 g dv l 3 hg2 (e3.below hb12) q5 w.heap.size w hB2 (by omega)
      have hv3 : W3.heap[wr.heap.size]? = some (.cells [.int .i64 (n : Int), dv].toArray 114 (0, 0)) := (hst3 _ (by omega)).trans hv2
      have hold : ∀ j, j < wr.heap.size -> W3.heap[j]? = wr.heap[j]? := fun j hj => (hst3 j (by omega)).trans (hb12.block j hj)
      have c0 := cell_of W3 (mb + 1) 0 _ 122 _ ((hold _ (lt_of hM.blk)).trans hM.blk) (mcells_0 mb _ _)
      have cv0 := cell_of W3 wr.heap.size 0 _ 114 _ hv3 rfl
      have hput := run_put W3.drew mb n g L ((hold _ (lt_of hM.map)).trans hM.map) (by rintro p hp rfl; obtain ⟨l', e, _⟩ := hM.bks p hp; have e2 : nbk (bs.take k) p.1 = some l' := e; rw [q2] at e2; cases e2)
      have hM4 := hM.add n g (pad l) (W1 := W3.drew) hold (by omega) q2 (pad_len l q5) (by omega) (show w.heap.size <= g by omega) hk3
      have hB4 : Below w.heap.size w (setBlock W3.drew mb (.map (ents 0 (L ++ [(n, g)])).toArray (L ++ [(n, g)]).length)) := Below.setBlock hB3.drew mb hwm _
      generalize setBlock W3.drew mb (.map (ents 0 (L ++ [(n, g)])).toArray (L ++ [(n, g)]).length) = W4 at *
      have hM5 : MemP W4 (fun k => w.heap.size <= k) (mb + 1) { m0 with banks := nbk (bs.take (k + 1)) } mb (L ++ [(n, g)]) (.slice none 0 0) := by rw [q1]; exact hM4
      have HM : Hid _ := hM5
      have HB : Hid _ := hB4
      obtain ⟨dp, dc, rfl, _⟩ := e3.ex
      subst hW2 hW1
      rw [hs1] at hgq
      subst hgq
      clear hM hM4 hM5 hB4 hB3 hB2 hB1 hb12 hk3 hst3 hsz3 hv3 hv2 hold q1 q2 hg2 e3 hB hs1
      go_wp2_with fail
      go_region
      go_wp2_with fail
      go_region
      go_wp2
      go_roundw
      case rel =>
        first
          | exact ⟨k + 1, _, by omega, by go_num, HM.out, HB.out⟩
          | ((repeat apply Exists.intro); refine ⟨⟨k + 1, _, by omega, ?_, HM.out, HB.out⟩, rfl⟩; go_num)
      case measure => simp [intOf]; omega
    · obtain rfl : k = bs.length := by omega
      rw [List.take_length] at hM
      go_wp2
      go_ret2
      exact ⟨_, rfl, ⟨_, _, _, hM⟩, hB⟩
theorem Grew.belowAll {W W' : World} {v v' : Value} (h : Grew W W' v v') {N : Nat} (hB : ∀ g, v.ownBlock = some g -> N <= g) {W0 : World} (h0 : Below N W0 W) (hN : N <= W0.heap.size) : Below N W0 W' :=
  h0.trans (h.below hB (Nat.le_trans hN h0.size))
theorem eql_nil (t e : TypeId) (ht : Tryz.prog.underlying t = some (.slice e)) (W : World) (p : Option Addr) (n c : Nat) : (binOp .eql t (.slice p n c) (.slice none 0 0)).run Tryz.prog W = .ok (.bool p.isNone) W := by
  have h : ∀ d : Nat, (Op.equalIn (d + 1) t (.slice p n c) (.slice none 0 0)).run Tryz.prog W = .ok p.isNone W := fun d => by
    cases p <;> simp [Op.equalIn, run_underlying ht]
  have h2 : (Op.equal t (.slice p n c) (.slice none 0 0)).run Tryz.prog W = .ok p.isNone W := h 9999
  simp [binOp, h2]
set_option maxHeartbeats 1000000
set_option maxRecDepth 100000
theorem clone_any (v : Value) (l : List UInt8) (hl : l.length <= room) (w : World) (h : Sl w v l) :
    Calls Tryz.prog 40 #[v] w fun e w' => ∃ u, e = .returned u /\ Row w' w.heap.size u l /\ Below w.heap.size w w' := by
  have h0 := h
  rcases h with ⟨rfl, rfl⟩ | ⟨x, c, rfl, _, hc⟩
  · have hn := fun (W : World) => eql_nil 25 5 Tryz.underlying25 W none 0 0
    go_enter Tryz.func40, Tryz.ntmps40
    go_wp2
    go_ret
    exact ⟨_, rfl, row_nil _ _, Below.refl _ _⟩
  · have hr0 : Row (w.alloc (.cells #[] 5)) w.heap.size (.slice (some ⟨w.heap.size, 0, none⟩) 0 0) [] := row_of_alloc w w.heap.size (Nat.le_refl _) [] (by simp)
    have hb0 : Below w.heap.size w (w.alloc (.cells #[] 5)) := (Below.refl _ _).alloc (Nat.le_refl _) _
    have hs0 := h0.below hb0
    have hn := fun (W : World) => eql_nil 25 5 Tryz.underlying25 W (some x) l.length c
    go_enter Tryz.func40, Tryz.ntmps40
    go_wp2_with (first | (at_builtin; refine wpList_append_bytes _ rfl _ _ rfl w.heap.size _ [] rfl hr0 _ l rfl hs0 (by simpa using hl) hb0.size ?_))
    intro v' w' hr hg
    go_wp2
    go_ret
    exact ⟨_, rfl, hr, hg.belowAll (fun g e => (hr0.lt g e).1) hb0 (Nat.le_refl _)⟩
def TRow (W : World) (B : Nat) (v : Value) (l : List (Int × Int × Int)) : Prop := W.ownsRow B 117 3 v l.length (tc l)
theorem TRow.cs {W : World} {B : Nat} {v : Value} {l : List (Int × Int × Int)} (h : TRow W B v l) : Cs W v 3 l.length (tc l) := by
  have h' := h
  rcases h.2 with ⟨rfl, e⟩ | ⟨g, cap, cur, rfl, _⟩
  · exact .inl ⟨rfl, e, by rw [List.eq_nil_of_length_eq_zero e]; rfl⟩
  · refine .inr ⟨_, cap, rfl, tc_len l, World.ownsRow.cells h' rfl, tc_one l⟩
theorem Cs.below {W W' : World} {u : Value} {s n : Nat} {xs : List Value} (h : Cs W u s n xs) (b : Below W.heap.size W W') : Cs W' u s n xs := by
  rcases h with h | ⟨ad, c, e1, e2, e3, e4⟩
  · exact .inl h
  · exact .inr ⟨ad, c, e1, e2, fun j v hj => by have e := e3 j v hj; rw [b.cell (World.block_lt_of_cell? W _ e)]; exact e, e4⟩
theorem cloneT_any (v : Value) (l : List (Int × Int × Int)) (hl : l.length <= 1000000) (w : World) (h : TRow w 0 v l) :
    Calls Tryz.prog 41 #[v] w fun e w' => ∃ u, e = .returned u /\ TRow w' w.heap.size u l /\ Below w.heap.size w w' := by
  have h0 := h
  rcases h.2 with ⟨rfl, e⟩ | ⟨g, cap, cur, rfl, _⟩
  · have hn := fun (W : World) => eql_nil 26 117 Tryz.underlying26 W none 0 0
    obtain rfl := List.eq_nil_of_length_eq_zero e
    go_enter Tryz.func41, Tryz.ntmps41
    go_wp2
    go_ret
    exact ⟨_, rfl, World.ownsRow_nil _ _ _ _, Below.refl _ _⟩
  · have hr0 : (w.alloc (.cells #[] 117)).ownsRow w.heap.size 117 3 (.slice (some ⟨w.heap.size, 0, none⟩) 0 0) 0 [] :=
      ⟨rfl, .inr ⟨w.heap.size, 0, #[], rfl, Nat.le_refl _, heap_alloc_new w _, Nat.le_refl _, by decide, by simp, by simp⟩⟩
    have hb0 : Below w.heap.size w (w.alloc (.cells #[] 117)) := (Below.refl _ _).alloc (Nat.le_refl _) _
    have hs0 := h0.cs.below hb0
    have hn := fun (W : World) => eql_nil 26 117 Tryz.underlying26 W (some ⟨g, 0, none⟩) l.length cap
    go_enter Tryz.func41, Tryz.ntmps41
    go_wp2_with (first | (at_builtin; refine wpList_append_row _ rfl _ _ 26 117 _ 3 16 Tryz.underlying26 info90 rfl (by decide) rfl w.heap.size _ 0 [] rfl hr0 _ l.length (tc l) rfl hs0 (by unfold room; omega) (by unfold maxLen; omega) hb0.size ?_))
    intro v' w' hr hg
    go_wp2
    go_ret
    refine ⟨_, rfl, ?_, hg.belowAll (fun g e => (hr0.lt g e).1) hb0 (Nat.le_refl _)⟩
    simpa [TRow] using hr
theorem tones_any (b : Nat) (w : World) {F : Nat -> Prop} {m : MS} (hm : HasM w F b m) (ht : m.tones.length <= 1000000) :
    Calls Tryz.prog 26 #[.pointer (some ⟨b, 0, none⟩)] w fun e w' => ∃ u, e = .returned u /\ TRow w' w.heap.size u m.tones /\ Below w.heap.size w w' := by
  obtain ⟨mb, L, tv, hm⟩ := hm
  have c6 := cell_of w b (19457 + 6) _ 122 _ hm.blk ((mcells_reg mb m tv hm.wf 6).trans rfl)
  simp only [Nat.reduceAdd] at c6
  have hc := cloneT_any tv m.tones ht w hm.tones
  go_enter Tryz.func26, Tryz.ntmps26
  go_wp2_with fail
  refine hc.mono ?_
  rintro e w1 ⟨u, rfl, h1, h2⟩
  go_wp2
  go_ret
  exact ⟨_, rfl, h1, h2⟩
theorem screen_any (b : Nat) (w : World) {F : Nat -> Prop} {m : MS} (hm : HasM w F b m) :
    Calls Tryz.prog 25 #[.pointer (some ⟨b, 0, none⟩)] w fun e w' => ∃ u, e = .returned u /\ Row w' w.heap.size u m.scr /\ Below w.heap.size w w' := by
  obtain ⟨mb, L, tv, hm⟩ := hm
  have hs : Sl w (.slice (some ⟨b, 16385, none⟩) 3072 3072) m.scr := by
    refine .inr ⟨⟨b, 16385, none⟩, 3072, by rw [hm.wf.scr], by rw [hm.wf.scr]; omega, fun j x hj => ?_⟩
    have e : (⟨b, 16385, none⟩ : Addr).add j = ⟨b, 16385 + j, none⟩ := Addr.add_lit _ _ _
    rw [e]; exact cell_of w b _ _ 122 _ hm.blk (mcells_scr mb m tv hm.wf j x hj)
  have hc := clone_any _ m.scr (by rw [hm.wf.scr]; unfold room; omega) w hs
  go_enter Tryz.func25, Tryz.ntmps25
  go_wp2_with fail
  refine hc.mono ?_
  rintro e w1 ⟨u, rfl, h1, h2⟩
  go_wp2
  go_ret
  exact ⟨_, rfl, h1, h2⟩
end Go.Proofs.YtoemoiehjdmheaaGreat.M
