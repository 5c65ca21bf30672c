import Derived.Test.YtgponcjjnjpfkaaGreatMStore
/-! Store, SetCell, Begin, At, Plot, Play, Choose. -/
namespace Go.Proofs.YtgponcjjnjpfkaaGreat.M
open Go.RowKit
open Go.Proofs
set_option linter.unusedVariables false
set_option linter.unusedSimpArgs false
def b8 (z : Int) : UInt8 := UInt8.ofNat (z % 256).toNat
theorem bt_b8 (z : Int) : bt (b8 z) = z % 256 := by
  unfold bt b8
  rw [UInt8.toNat_ofNat']
  have : (z % 256).toNat % 2 ^ 8 = (z % 256).toNat := Nat.mod_eq_of_lt (by omega)
  rw [this]; omega
theorem Done.next {w w1 w2 : World} {F : Nat → Prop} {b : Nat} {m1 m2 : MS} (h1 : Done w w1 F b m1) (h2 : Done w1 w2 (gr F w w1) b m2) : Done w w2 F b m2 := by
  refine ⟨h2.1.mono ?_, h1.2.trans h2.2 (fun _ f => f) ?_⟩
  · rintro i hi ((f | ⟨a, c⟩) | ⟨a, c⟩)
    · exact .inl f
    · exact .inr ⟨a, hi⟩
    · exact .inr ⟨Nat.le_trans h1.2.size a, c⟩
  · rintro i hi (f | ⟨a, c⟩)
    · exact f
    · omega
theorem HasM.wf {W : World} {F : Nat → Prop} {b : Nat} {m : MS} (h : HasM W F b m) : Wf m := by obtain ⟨_, _, _, h⟩ := h; exact h.wf
theorem Done.wf {w w' : World} {F : Nat → Prop} {b : Nat} {m : MS} (h : Done w w' F b m) : Wf m := h.1.wf
theorem Done.has {w w' : World} {F : Nat → Prop} {b : Nat} {m : MS} (h : Done w w' F b m) : HasM w' (gr F w w') b m := h.1

set_option maxHeartbeats 1000000
set_option maxRecDepth 100000
def R (e : Ending) (w w' : World) (F : Nat → Prop) (b : Nat) (m' : MS) : Prop := e = .returned (.tuple #[]) ∧ Done w w' F b m'
theorem store_room (b : Nat) (z : Int) (x : UInt8) (g i : Nat) (u : Value) (w : World)
    (hr : Calls Tryz.prog 60 #[.pointer (some ⟨b, 0, none⟩), .int .u16 z] w fun e w' => e = .returned (.pointer (some ⟨g, i, none⟩)) ∧ ∃ q, w' = w.drewN q) (hc : w.cell? ⟨g, i, none⟩ = some u) (hf : w.frozen? ⟨g, i, none⟩ = false) :
    Calls Tryz.prog 34 #[.pointer (some ⟨b, 0, none⟩), .int .u16 z, .int .u8 (bt x)] w fun e w' => e = .returned (.tuple #[]) ∧ ∃ q, w' = (w.drewN q).setCell ⟨g, i, none⟩ (.int .u8 (bt x)) := by
  go_enter Tryz.func34, Tryz.ntmps34
  go_wp2_with fail
  refine hr.mono ?_
  rintro e w1 ⟨rfl, q, rfl⟩
  have hc2 : (w.drewN q).cell? ⟨g, i, none⟩ = some u := hc
  have hf2 : (w.drewN q).frozen? ⟨g, i, none⟩ = false := hf
  go_wp2
  (try simp only [Exit.inBlock, Exit.then])
  refine bodyPost_ret (results_none rfl _ _ _) rfl ?_
  exact ⟨rfl, q, rfl⟩
theorem store_port (b : Nat) (z : Int) (x : UInt8) (w : World) (Post : World → Prop)
    (hr : Calls Tryz.prog 60 #[.pointer (some ⟨b, 0, none⟩), .int .u16 z] w fun e w' => e = .returned (.pointer none) ∧ ∃ q, w' = w.drewN q)
    (hp : ∀ q, Calls Tryz.prog 61 #[.pointer (some ⟨b, 0, none⟩), .int .u16 z, .int .u8 (bt x)] (w.drewN q) fun e w' => e = .returned (.tuple #[]) ∧ Post w') :
    Calls Tryz.prog 34 #[.pointer (some ⟨b, 0, none⟩), .int .u16 z, .int .u8 (bt x)] w fun e w' => e = .returned (.tuple #[]) ∧ Post w' := by
  go_enter Tryz.func34, Tryz.ntmps34
  go_wp2_with fail
  refine hr.mono ?_
  rintro e w1 ⟨rfl, q, rfl⟩
  have hp2 := hp q
  go_wp2_with fail
  refine hp2.mono ?_
  rintro e w1 ⟨rfl, hP⟩
  go_wp2
  go_end0
  exact ⟨rfl, hP⟩
theorem store_nil (z y : Int) (w : World) : Calls Tryz.prog 34 #[.pointer none, .int .u16 z, .int .u8 y] w fun e w' => e = .returned (.tuple #[]) ∧ w' = w := by
  go_enter Tryz.func34, Tryz.ntmps34
  go_wp2
  (try simp only [Exit.inBlock, Exit.then])
  refine bodyPost_ret (results_none rfl _ _ _) rfl ?_
  exact ⟨rfl, rfl⟩
theorem Done.drewn {w w' : World} {F : Nat → Prop} {b : Nat} {m : MS} (q : Nat) (h : Done (w.drewN q) w' F b m) : Done w w' F b m := ⟨h.1, h.2.os, h.2.tape, h.2.output, h.2.size, h.2.block⟩
theorem stp_low (m : MS) (z : Int) (x : UInt8) (h : z < 65280) : stp m z x = m := by
  unfold stp; simp [show z ≠ 65280 by omega, show z ≠ 65284 by omega, show z ≠ 65285 by omega, show z ≠ 65286 by omega]
theorem setPort_any (b : Nat) (z : Int) (x : UInt8) (w : World) {F : Nat → Prop} {m : MS} (hm : HasM w F b m) (ht : m.tones.length ≤ 1000000) :
    Calls Tryz.prog 61 #[.pointer (some ⟨b, 0, none⟩), .int .u16 z, .int .u8 (bt x)] w fun e w' => e = .returned (.tuple #[]) ∧ Done w w' F b (stp m z x) := by
  by_cases a0 : z = 65280
  · subst a0; exact setPort_ch b x w hm
  by_cases a1 : z = 65284
  · subst a1; exact setPort_lo b x w hm
  by_cases a2 : z = 65285
  · subst a2; exact setPort_hi b x w hm
  by_cases a3 : z = 65286
  · subst a3; exact setPort_play b x w hm ht
  refine (setPort_none b z x w a0 a1 a2 a3).mono ?_
  rintro e w' ⟨rfl, rfl⟩
  have e : stp m z x = m := by unfold stp; simp [a0, a1, a2, a3]
  rw [e]
  exact ⟨rfl, Done.same hm 0⟩
theorem store_any (b : Nat) (z : Int) (h0 : 0 ≤ z) (h1 : z < 65536) (x : UInt8) (w : World) {F : Nat → Prop} {m : MS} (hm : HasM w F b m) (ht : m.tones.length ≤ 1000000) :
    Calls Tryz.prog 34 #[.pointer (some ⟨b, 0, none⟩), .int .u16 z, .int .u8 (bt x)] w fun e w' => e = .returned (.tuple #[]) ∧ Done w w' F b (st m z x) := by
  have hport : ∀ q, Calls Tryz.prog 61 #[.pointer (some ⟨b, 0, none⟩), .int .u16 z, .int .u8 (bt x)] (w.drewN q) fun e w' => e = .returned (.tuple #[]) ∧ Done w w' F b (stp m z x) :=
    fun q => (setPort_any b z x (w.drewN q) (hm.drew q) ht).mono fun e w' h => ⟨h.1, h.2.drewn q⟩
  by_cases a1 : z < 16384
  · have := store_port b z x w _ (room_low b z w a1) hport
    rw [stp_low m z x (by omega)] at this
    simpa only [st, a1, if_true] using this
  by_cases a2 : z < 32768
  · obtain ⟨mb, L, tv, h⟩ := id hm
    have cb := cell_of w b 0 _ 119 _ h.blk (mcells_0 mb m tv)
    have cc := cell_of w b (19457 + 0) _ 119 _ h.blk ((mcells_reg mb m tv h.wf 0).trans rfl)
    have e : m.ch = (m.ch.toNat : Int) := by have := h.wf.ch0; omega
    have hn : m.ch.toNat < 16 := by have := h.wf.ch1; have := h.wf.ch0; omega
    rw [e] at cc
    cases hb : m.banks m.ch.toNat with
    | none =>
      have := store_port b z x w _ (room_nobank b mb m.ch.toNat L z w (by omega) a2 hn cb cc h.map (by rintro p hp e; obtain ⟨l, e2, _⟩ := h.bks p hp; rw [e, hb] at e2; cases e2)) hport
      rw [stp_low m z x (by omega)] at this
      simpa only [st, a1, a2, if_true, if_false, hb] using this
    | some l =>
      obtain ⟨g, hg⟩ := h.all _ _ hb
      obtain ⟨l', e2, hk⟩ := h.bks _ hg
      rw [hb] at e2; cases e2
      have hl := (h.wf.bk _ _ hb).2
      refine (store_room b z x g _ _ w (room_bank b mb m.ch.toNat g L z w (by omega) a2 hn cb cc h.map h.keys hg) (cell_of w g _ _ 116 _ hk ((bv_get l _ _).2 ⟨_, lb_of l (z - 16384).toNat (by omega), rfl⟩)) (frozen_of w g _ _ 116 hk)).mono ?_
      rintro e w' ⟨rfl, q, rfl⟩
      have e9 : st m z x = { m with banks := upd m.banks m.ch.toNat (l.set (z - 16384).toNat x) } := by simp only [st, a1, a2, if_true, if_false, hb]
      rw [e9]
      exact ⟨rfl, Done.set q g _ _ (h.fbk _ hg) ((h.drew q).bank m.ch.toNat g l _ x hg hb)⟩
  by_cases a3 : z < 49152
  · obtain ⟨mb, L, tv, h⟩ := id hm
    refine (store_room b z x b _ _ w (room_ram b z w (by omega) a3) (cell_of w b _ _ 119 _ h.blk (mcells_ram mb m tv h.wf _ _ (lb_of m.ram (z - 32768).toNat (by rw [h.wf.ram]; omega)))) (frozen_of w b _ _ 119 h.blk)).mono ?_
    rintro e w' ⟨rfl, q, rfl⟩
    have e9 : st m z x = { m with ram := m.ram.set (z - 32768).toNat x } := by simp only [st, a1, a2, a3, if_true, if_false]
    rw [e9]
    have hw := h.wf
    exact ⟨rfl, Done.set q b _ _ h.fb ((h.drew q).set _ _ _ ⟨by simp [hw.ram], hw.scr, hw.ch0, hw.ch1, hw.pad0, hw.pad1, hw.pitch0, hw.pitch1, hw.vol0, hw.vol1, hw.time0, hw.time1, hw.bk⟩ (mcells_set_ram mb m tv hw _ (by omega) x) rfl rfl)⟩
  by_cases a4 : z < 52224
  · obtain ⟨mb, L, tv, h⟩ := id hm
    refine (store_room b z x b _ _ w (room_scr b z w (by omega) a4) (cell_of w b _ _ 119 _ h.blk (mcells_scr mb m tv h.wf _ _ (lb_of m.scr (z - 49152).toNat (by rw [h.wf.scr]; omega)))) (frozen_of w b _ _ 119 h.blk)).mono ?_
    rintro e w' ⟨rfl, q, rfl⟩
    have e9 : st m z x = { m with scr := m.scr.set (z - 49152).toNat x } := by simp only [st, a1, a2, a3, a4, if_true, if_false]
    rw [e9]
    have hw := h.wf
    exact ⟨rfl, Done.set q b _ _ h.fb ((h.drew q).set _ _ _ ⟨hw.ram, by simp [hw.scr], hw.ch0, hw.ch1, hw.pad0, hw.pad1, hw.pitch0, hw.pitch1, hw.vol0, hw.vol1, hw.time0, hw.time1, hw.bk⟩ (mcells_set_scr mb m tv hw _ (by omega) x) rfl rfl)⟩
  have := store_port b z x w _ (room_high b z w (by omega)) hport
  simpa only [st, a1, a2, a3, a4, if_false] using this
theorem st_tones (m : MS) (z : Int) (x : UInt8) : (st m z x).tones.length ≤ m.tones.length + 1 := by
  unfold st
  split
  · omega
  split
  · split <;> simp
  split
  · simp
  split
  · simp
  unfold stp
  repeat' split
  all_goals simp
def sc (m : MS) (z X : Int) : MS := st (st m z (b8 X)) ((z + 1) % 65536) (b8 (X / 256))
theorem bt_inj {x y : UInt8} (h : bt x = bt y) : x = y := by unfold bt at h; exact UInt8.toNat_inj.1 (by omega)
theorem setCell_any (b : Nat) (z : Int) (h0 : 0 ≤ z) (h1 : z < 65536) (X : Int) (x0 : 0 ≤ X) (x1 : X < 65536) (w : World) {F : Nat → Prop} {m : MS} (hm : HasM w F b m) (ht : m.tones.length ≤ 999999) :
    Calls Tryz.prog 106 #[.pointer (some ⟨b, 0, none⟩), .int .u16 z, .int .u16 X] w fun e w' => e = .returned (.tuple #[]) ∧ Done w w' F b (sc m z X) := by
  have hs := store_any b z h0 h1 (b8 X) w hm (by omega)
  have e1 : IntKind.u8.wrap X = bt (b8 X) := by rw [u8_wrap, bt_b8]
  have e2 := u16_wrap (z + 1)
  unfold sc
  obtain ⟨y, hy⟩ : ∃ y, y = b8 (X / 256) := ⟨_, rfl⟩
  rw [← hy]
  have e3 : IntKind.u8.wrap (X / 256) = bt y := by rw [u8_wrap, hy, bt_b8]
  have e4 : X / 256 = bt y := by rw [hy, bt_b8]; omega
  clear hy
  go_enter Tryz.func106, Tryz.ntmps106
  go_wp2_with fail
  refine hs.mono ?_
  rintro e w1 ⟨rfl, hD⟩
  have ht2 := st_tones m z (b8 X)
  have hs2 := store_any b ((z + 1) % 65536) (by omega) (by omega) y w1 hD.has (by omega)
  go_wp2_with fail
  refine hs2.mono ?_
  rintro e w2 ⟨rfl, hD2⟩
  go_wp2
  go_end0
  exact ⟨rfl, hD.next hD2⟩
theorem setCell_nil (z X : Int) (w : World) : Calls Tryz.prog 106 #[.pointer none, .int .u16 z, .int .u16 X] w fun e w' => e = .returned (.tuple #[]) ∧ w' = w := by
  have hs := fun z y => store_nil z y w
  obtain ⟨y1, e1⟩ : ∃ y, y = IntKind.u8.wrap X := ⟨_, rfl⟩
  go_enter Tryz.func106, Tryz.ntmps106
  go_wp2_with fail
  refine (hs _ _).mono ?_
  rintro e w1 ⟨rfl, hD⟩
  obtain rfl := hD.symm
  go_wp2_with fail
  refine (hs _ _).mono ?_
  rintro e w2 ⟨rfl, hD⟩
  obtain rfl := hD.symm
  go_wp2
  go_end0
  exact ⟨rfl, rfl⟩
theorem choose_any (b : Nat) (X : Int) (w : World) {F : Nat → Prop} {m : MS} (hm : HasM w F b m) (ht : m.tones.length ≤ 1000000) :
    Calls Tryz.prog 122 #[.pointer (some ⟨b, 0, none⟩), .int .u16 X] w fun e w' => e = .returned (.tuple #[]) ∧ Done w w' F b (st m 65280 (b8 X)) := by
  have hs := store_any b 65280 (by omega) (by omega) (b8 X) w hm ht
  have e1 : IntKind.u8.wrap X = bt (b8 X) := by rw [u8_wrap, bt_b8]
  go_enter Tryz.func122, Tryz.ntmps122
  go_wp2_with fail
  refine hs.mono ?_
  rintro e w1 ⟨rfl, hD⟩
  go_wp2
  go_end0
  exact ⟨rfl, hD⟩
theorem choose_nil (X : Int) (w : World) : Calls Tryz.prog 122 #[.pointer none, .int .u16 X] w fun e w' => e = .returned (.tuple #[]) ∧ w' = w := by
  go_enter Tryz.func122, Tryz.ntmps122
  go_wp2_with fail
  refine (store_nil _ _ w).mono ?_
  rintro e w1 ⟨rfl, hD⟩
  obtain rfl := hD.symm
  go_wp2
  go_end0
  exact ⟨rfl, rfl⟩
theorem play_any (b : Nat) (X : Int) (x0 : 0 ≤ X) (x1 : X < 65536) (v : UInt8) (w : World) {F : Nat → Prop} {m : MS} (hm : HasM w F b m) (ht : m.tones.length ≤ 999990) :
    Calls Tryz.prog 120 #[.pointer (some ⟨b, 0, none⟩), .int .u16 X, .int .u8 (bt v)] w fun e w' => e = .returned (.tuple #[]) ∧ Done w w' F b (st (sc m 65284 X) 65286 v) := by
  have hs := setCell_any b 65284 (by omega) (by omega) X x0 x1 w hm (by omega)
  have t1 := st_tones m 65284 (b8 X)
  have t2 := st_tones (st m 65284 (b8 X)) ((65284 + 1) % 65536) (b8 (X / 256))
  go_enter Tryz.func120, Tryz.ntmps120
  go_wp2_with fail
  refine hs.mono ?_
  rintro e w1 ⟨rfl, hD⟩
  have hs2 := store_any b 65286 (by omega) (by omega) v w1 hD.has (by unfold sc; omega)
  go_wp2_with fail
  refine hs2.mono ?_
  rintro e w2 ⟨rfl, hD2⟩
  go_wp2
  go_end0
  exact ⟨rfl, hD.next hD2⟩
theorem play_nil (X v : Int) (w : World) : Calls Tryz.prog 120 #[.pointer none, .int .u16 X, .int .u8 v] w fun e w' => e = .returned (.tuple #[]) ∧ w' = w := by
  go_enter Tryz.func120, Tryz.ntmps120
  go_wp2_with fail
  refine (setCell_nil _ _ w).mono ?_
  rintro e w1 ⟨rfl, hD⟩
  obtain rfl := hD.symm
  go_wp2_with fail
  refine (store_nil _ _ w).mono ?_
  rintro e w1 ⟨rfl, hD⟩
  obtain rfl := hD.symm
  go_wp2
  go_end0
  exact ⟨rfl, rfl⟩
/-- Plot. -/
def plt (m : MS) (X Y C : Int) : MS := if X < 64 ∧ Y < 48 then st m (49152 + 64 * Y + X) (b8 C) else m
theorem plot_any (b : Nat) (X Y C : Int) (x0 : 0 ≤ X) (x1 : X < 65536) (y0 : 0 ≤ Y) (y1 : Y < 65536) (w : World) {F : Nat → Prop} {m : MS} (hm : HasM w F b m) (ht : m.tones.length ≤ 1000000) :
    Calls Tryz.prog 116 #[.pointer (some ⟨b, 0, none⟩), .int .u16 X, .int .u16 Y, .int .u16 C] w fun e w' => e = .returned (.tuple #[]) ∧ Done w w' F b (plt m X Y C) := by
  by_cases a1 : X < 64
  · by_cases a2 : Y < 48
    · have hs := store_any b (49152 + 64 * Y + X) (by omega) (by omega) (b8 C) w hm ht
      have e1 : IntKind.u8.wrap C = bt (b8 C) := by rw [u8_wrap, bt_b8]
      have ep : plt m X Y C = st m (49152 + 64 * Y + X) (b8 C) := by simp [plt, a1, a2]
      rw [ep]
      go_enter Tryz.func116, Tryz.ntmps116
      go_wp2_with fail
      refine hs.mono ?_
      rintro e w1 ⟨rfl, hD⟩
      go_wp2
      go_end0
      exact ⟨rfl, hD⟩
    · have ep : plt m X Y C = m := by simp [plt, a2]
      rw [ep]
      have a3 : decide (Y < 48) = false := by simpa using a2
      go_enter Tryz.func116, Tryz.ntmps116
      go_wp2
      go_end0
      exact ⟨rfl, Done.same hm 0⟩
  · have ep : plt m X Y C = m := by simp [plt, a1]
    rw [ep]
    have a3 : decide (X < 64) = false := by simpa using a1
    go_enter Tryz.func116, Tryz.ntmps116
    go_wp2
    go_end0
    exact ⟨rfl, Done.same hm 0⟩
theorem plot_nil (X Y C : Int) (w : World) (x0 : 0 ≤ X) (x1 : X < 65536) (y0 : 0 ≤ Y) (y1 : Y < 65536) : Calls Tryz.prog 116 #[.pointer none, .int .u16 X, .int .u16 Y, .int .u16 C] w fun e w' => e = .returned (.tuple #[]) ∧ w' = w := by
  by_cases a1 : X < 64
  · by_cases a2 : Y < 48
    · go_enter Tryz.func116, Tryz.ntmps116
      go_wp2_with fail
      refine (store_nil _ _ w).mono ?_
      rintro e w1 ⟨rfl, hD⟩
      obtain rfl := hD.symm
      go_wp2
      go_end0
      exact ⟨rfl, rfl⟩
    · have a3 : decide (Y < 48) = false := by simpa using a2
      go_enter Tryz.func116, Tryz.ntmps116
      go_wp2
      go_end0
      exact ⟨rfl, rfl⟩
  · have a3 : decide (X < 64) = false := by simpa using a1
    go_enter Tryz.func116, Tryz.ntmps116
    go_wp2
    go_end0
    exact ⟨rfl, rfl⟩
/-- The tones are cut off. -/
theorem MemP.clear {W : World} {F : Nat → Prop} {b : Nat} {m : MS} {mb : Nat} {L : List (Nat × Nat)} {tv : Value} (h : MemP W F b m mb L tv) : MemP (W.setCell ⟨b, 19463, none⟩ (.slice none 0 0)) F b { m with tones := [] } mb L (.slice none 0 0) := by
  have hw := h.wf
  refine ⟨⟨hw.ram, hw.scr, hw.ch0, hw.ch1, hw.pad0, hw.pad1, hw.pitch0, hw.pitch1, hw.vol0, hw.vol1, hw.time0, hw.time1, hw.bk⟩, ?_, (setCell_other _ _ _ _ _ h.ne_map).trans h.map, h.keys, h.lt16, h.blks, ?_, h.all, World.ownsRow_nil _ _ _ _, h.fb, h.fmb, h.fbk, ?_⟩
  · rw [setCell_heap W b 19463 _ 119 _ h.blk, show (19463 : Nat) = 19457 + 6 from rfl, mcells_set_reg mb m tv h.wf 6]; rfl
  · intro p hp
    obtain ⟨l, e1, e2⟩ := h.bks p hp
    exact ⟨l, e1, (setCell_other _ _ _ _ _ (h.ne_bk p hp)).trans e2⟩
  · intro g e; simp [Value.ownBlock] at e
def bg (m : MS) (p : Int) : MS := { m with pad := p, time := (m.time + 1) % 65536, tones := [], cyc := 0 }
theorem begin_any (b : Nat) (x : UInt8) (w : World) {F : Nat → Prop} {m : MS} (hm : HasM w F b m) :
    Calls Tryz.prog 33 #[.pointer (some ⟨b, 0, none⟩), .int .u8 (bt x)] w fun e w' => e = .returned (.tuple #[]) ∧ Done w w' F b (bg m (bt x)) := by
  obtain ⟨mb, L, tv, hm⟩ := hm
  have hw := hm.wf
  have hb := bt_bound x
  have hf := hm.fb
  have k1 := hm.reg 1 (.int .u8 (bt x)) { m with pad := bt x } (hw.regs rfl rfl rfl hw.ch0 hw.ch1 hb.1 hb.2 hw.pitch0 hw.pitch1 hw.vol0 hw.vol1 hw.time0 hw.time1) rfl rfl rfl rfl rfl
  have c1 := cell_of w b (19457 + 1) _ 119 _ hm.blk ((mcells_reg mb m tv hw 1).trans rfl)
  have z1 := frozen_of w b (19457 + 1) _ 119 hm.blk
  simp only [Nat.reduceAdd] at k1 c1 z1
  have t0 := Tc.refl F w
  have t1 := t0.setCell b 19458 hf (.int .u8 (bt x))
  generalize hw1 : w.setCell ⟨b, 19458, none⟩ (.int .u8 (bt x)) = w1 at k1 t1
  have c2 := cell_of w1 b (19457 + 4) _ 119 _ k1.blk ((mcells_reg mb _ tv k1.wf 4).trans rfl)
  have z2 := frozen_of w1 b (19457 + 4) _ 119 k1.blk
  have e1 := u16_wrap (m.time + 1)
  have k2 := k1.reg 4 (.int .u16 ((m.time + 1) % 65536)) { m with pad := bt x, time := (m.time + 1) % 65536 } (hw.regs rfl rfl rfl hw.ch0 hw.ch1 hb.1 hb.2 hw.pitch0 hw.pitch1 hw.vol0 hw.vol1 (by simp only; omega) (by simp only; omega)) rfl rfl rfl rfl rfl
  simp only [Nat.reduceAdd] at k2 c2 z2
  have t2 := t1.setCell b 19461 hf (.int .u16 ((m.time + 1) % 65536))
  generalize hw2 : w1.setCell ⟨b, 19461, none⟩ (.int .u16 ((m.time + 1) % 65536)) = w2 at k2 t2
  have c3 := cell_of w2 b (19457 + 6) _ 119 _ k2.blk ((mcells_reg mb _ tv k2.wf 6).trans rfl)
  have z3 := frozen_of w2 b (19457 + 6) _ 119 k2.blk
  have k3 := k2.clear
  simp only [Nat.reduceAdd] at c3 z3
  have t3 := t2.setCell b 19463 hf (.slice none 0 0)
  generalize hw3 : w2.setCell ⟨b, 19463, none⟩ (.slice none 0 0) = w3 at k3 t3
  have c4 := cell_of w3 b (19457 + 5) _ 119 _ k3.blk ((mcells_reg mb _ _ k3.wf 5).trans rfl)
  have z4 := frozen_of w3 b (19457 + 5) _ 119 k3.blk
  have k4 := k3.reg 5 (.int .i64 0) (bg m (bt x)) (hw.regs rfl rfl rfl hw.ch0 hw.ch1 hb.1 hb.2 hw.pitch0 hw.pitch1 hw.vol0 hw.vol1 (by simp only [bg]; omega) (by simp only [bg]; omega)) rfl rfl rfl rfl rfl
  have t4 := t3.setCell b 19462 hf (.int .i64 0)
  simp only [Nat.reduceAdd] at c4 z4 k4
  have hfin : Done w (w3.setCell ⟨b, 19462, none⟩ (.int .i64 0)) F b (bg m (bt x)) := ⟨⟨_, _, _, k4.mono fun _ _ f => .inl f⟩, t4⟩
  clear k1 k2 k3 k4 t0 t1 t2 t3 t4 hm hw
  go_enter Tryz.func33, Tryz.ntmps33
  go_wp2
  go_end0
  exact ⟨rfl, hfin⟩
theorem begin_nil (y : Int) (w : World) : Calls Tryz.prog 33 #[.pointer none, .int .u8 y] w fun e w' => e = .returned (.tuple #[]) ∧ w' = w := by
  go_enter Tryz.func33, Tryz.ntmps33
  go_wp2
  (try simp only [Exit.inBlock, Exit.then])
  refine bodyPost_ret (results_none rfl _ _ _) rfl ?_
  exact ⟨rfl, rfl⟩
end Go.Proofs.YtgponcjjnjpfkaaGreat.M
