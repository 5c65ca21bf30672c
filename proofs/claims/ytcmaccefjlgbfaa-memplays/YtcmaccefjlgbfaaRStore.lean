import Derived.Test.YtcmaccefjlgbfaaRLoad
/-! The reference: Store and the calls upon it. -/
namespace Go.Proofs.Ytcmaccefjlgbfaa
open Go.RowKit
open Go.Proofs
set_option linter.unusedVariables false
set_option linter.unusedSimpArgs false
set_option maxHeartbeats 2000000
set_option maxRecDepth 100000
theorem neq_nil (W : World) (p : Option Addr) (n c : Nat) : (binOp .neq 35 (.slice p n c) (.slice none 0 0)).run Try.prog W = .ok (.bool (!p.isNone)) W := by
  have h : ∀ d : Nat, (Op.equalIn (d + 1) 35 (.slice p n c) (.slice none 0 0)).run Try.prog W = .ok p.isNone W := fun d => by
    cases p <;> simp [Op.equalIn, run_underlying Try.underlying35]
  have h2 : (Op.equal 35 (.slice p n c) (.slice none 0 0)).run Try.prog W = .ok p.isNone W := h 9999
  simp [binOp, h2]
theorem mul256 (x : UInt8) : IntKind.u16.wrap (256 * bt x) = 256 * bt x := by have := bt_bound x; rw [u16_wrap]; omega
theorem rstore_port (b : Nat) (z : Int) (h0 : 52224 ≤ z) (h1 : z < 65536) (x : UInt8) (w : World) {F : Nat → Prop} {m : MS} (hm : IsR w F b m) (ht : m.tones.length ≤ 1000000) :
    Calls Try.prog 51 #[.pointer (some ⟨b, 0, none⟩), .int .u16 z, .int .u8 (bt x)] w fun e w' => e = .returned (.tuple #[]) ∧ RD w w' F b (stp m z x) := by
  have hb := bt_bound x
  have e0 := i64_id z (by omega) h1
  have d1 : decide (z < 16384) = false := by simp; omega
  have d2 : decide (z < 32768) = false := by simp; omega
  have d3 : decide (z < 49152) = false := by simp; omega
  have d4 : decide (z < 52224) = false := by simp; omega
  by_cases a3 : z = 65286
  · subst a3; exact rplay b x w hm ht
  obtain ⟨hw, u, gr', gc, gs, tv, h⟩ := id hm
  by_cases a0 : z = 65280
  · subst a0
    have e : stp m 65280 x = { m with ch := bt x % 16 } := by simp [stp]
    have c2 := cell_of w b 3 _ 80 _ h.blk rfl
    have z2 := frozen_of w b 3 _ 80 h.blk
    have hr : IntKind.u8.wrap ((bt x).tmod 16) = bt x % 16 := by rw [u8_wrap, Int.tmod_eq_emod_of_nonneg hb.1]; omega
    have hfin : RD w (w.setCell ⟨b, 3, none⟩ (.int .u8 (bt x % 16))) F b (stp m 65280 x) := by
      rw [e]
      exact RD.set (Below.refl _ _) b 3 _ h.fb ⟨hw.ram, hw.scr, by simp only; omega, by simp only; omega, hw.pad0, hw.pad1, hw.pitch0, hw.pitch1, hw.vol0, hw.vol1, hw.time0, hw.time1, hw.bk⟩ (by rw [inO_congr (m' := { m with ch := bt x % 16 }) (m := m) rfl]; exact h.reg 3 _ _ (fun _ _ => rfl) rfl rfl rfl)
    have HF : Hid _ := hfin
    clear hfin h hw hm e0 d1 d2 d3 d4 e
    go_enter Try.func51, Try.ntmps51
    go_wp2
    go_end0
    exact ⟨rfl, HF.out⟩
  by_cases a1 : z = 65284
  · subst a1
    have e : stp m 65284 x = { m with pitch := m.pitch / 256 * 256 + bt x } := by simp [stp]
    have c2 := cell_of w b 5 _ 80 _ h.blk rfl
    have z2 := frozen_of w b 5 _ 80 h.blk
    have hp0 := hw.pitch0
    have hp1 := hw.pitch1
    have q1 : IntKind.u16.wrap (m.pitch.tdiv 256) = m.pitch / 256 := by rw [u16_wrap, Int.tdiv_eq_ediv_of_nonneg hp0]; omega
    have q2 : IntKind.u16.wrap (m.pitch / 256 * 256) = m.pitch / 256 * 256 := by rw [u16_wrap]; omega
    have q3 : IntKind.u16.wrap (bt x) = bt x := by rw [u16_wrap]; omega
    have q4 : IntKind.u16.wrap (m.pitch / 256 * 256 + bt x) = m.pitch / 256 * 256 + bt x := by rw [u16_wrap]; omega
    have hfin : RD w (w.setCell ⟨b, 5, none⟩ (.int .u16 (m.pitch / 256 * 256 + bt x))) F b (stp m 65284 x) := by
      rw [e]
      exact RD.set (Below.refl _ _) b 5 _ h.fb ⟨hw.ram, hw.scr, hw.ch0, hw.ch1, hw.pad0, hw.pad1, by simp only; omega, by simp only; omega, hw.vol0, hw.vol1, hw.time0, hw.time1, hw.bk⟩ (by rw [inO_congr (m' := { m with pitch := m.pitch / 256 * 256 + bt x }) (m := m) rfl]; exact h.reg 5 _ _ (fun _ _ => rfl) rfl rfl rfl)
    have HF : Hid _ := hfin
    clear hfin h hw hm e0 d1 d2 d3 d4 e
    go_enter Try.func51, Try.ntmps51
    go_wp2
    go_end0
    exact ⟨rfl, HF.out⟩
  by_cases a2 : z = 65285
  · subst a2
    have e : stp m 65285 x = { m with pitch := m.pitch % 256 + 256 * bt x } := by simp [stp]
    have c2 := cell_of w b 5 _ 80 _ h.blk rfl
    have z2 := frozen_of w b 5 _ 80 h.blk
    have hp0 := hw.pitch0
    have hp1 := hw.pitch1
    have q1 : IntKind.u16.wrap (m.pitch.tmod 256) = m.pitch % 256 := by rw [u16_wrap, Int.tmod_eq_emod_of_nonneg hp0]; omega
    have q2 := mul256 x
    have q3 : IntKind.u16.wrap (bt x) = bt x := by rw [u16_wrap]; omega
    have q4 : IntKind.u16.wrap (m.pitch % 256 + 256 * bt x) = m.pitch % 256 + 256 * bt x := by rw [u16_wrap]; omega
    have hfin : RD w (w.setCell ⟨b, 5, none⟩ (.int .u16 (m.pitch % 256 + 256 * bt x))) F b (stp m 65285 x) := by
      rw [e]
      exact RD.set (Below.refl _ _) b 5 _ h.fb ⟨hw.ram, hw.scr, hw.ch0, hw.ch1, hw.pad0, hw.pad1, by simp only; omega, by simp only; omega, hw.vol0, hw.vol1, hw.time0, hw.time1, hw.bk⟩ (by rw [inO_congr (m' := { m with pitch := m.pitch % 256 + 256 * bt x }) (m := m) rfl]; exact h.reg 5 _ _ (fun _ _ => rfl) rfl rfl rfl)
    have HF : Hid _ := hfin
    clear hfin h hw hm e0 d1 d2 d3 d4 e
    go_enter Try.func51, Try.ntmps51
    go_wp2
    go_end0
    exact ⟨rfl, HF.out⟩
  have f0 : (z == 65280) = false := by simpa using a0
  have f1 : (z == 65284) = false := by simpa using a1
  have f2 : (z == 65285) = false := by simpa using a2
  have f3 : (z == 65286) = false := by simpa using a3
  have e : stp m z x = m := by unfold stp; simp [a0, a1, a2, a3]
  rw [e]
  clear h hw
  go_enter Try.func51, Try.ntmps51
  go_wp2
  go_end0
  exact ⟨rfl, RD.same hm (Below.refl _ _)⟩
theorem rstore_any (b : Nat) (z : Int) (h0 : 0 ≤ z) (h1 : z < 65536) (x : UInt8) (w : World) {F : Nat → Prop} {m : MS} (hm : IsR w F b m) (ht : m.tones.length ≤ 1000000) :
    Calls Try.prog 51 #[.pointer (some ⟨b, 0, none⟩), .int .u16 z, .int .u8 (bt x)] w fun e w' => e = .returned (.tuple #[]) ∧ RD w w' F b (st m z x) := by
  have e0 := i64_id z h0 h1
  by_cases a1 : z < 16384
  · have el : st m z x = m := by simp only [st, a1, if_true]
    rw [el]
    have d1 : decide (z < 16384) = true := by simpa using a1
    go_enter Try.func51, Try.ntmps51
    go_wp2
    go_end0
    exact ⟨rfl, RD.same hm (Below.refl _ _)⟩
  have d1 : decide (z < 16384) = false := by simpa using a1
  by_cases a2 : z < 32768
  · obtain ⟨hw, u, gr', gc, gs, tv, h⟩ := id hm
    have d2 : decide (z < 32768) = true := by simpa using a2
    have hbk := rbank_any b (inO m 16) w h hw.ch0 hw.ch1 (inO_len m 16)
    have hn : m.ch = (m.ch.toNat : Int) := by have := hw.ch0; omega
    have hch : m.ch.toNat < 16 := by have := hw.ch1; have := hw.ch0; omega
    have HEN : Hid (m.banks m.ch.toNat = none → st m z x = m) := fun hnone => by simp only [st, a1, a2, if_true, if_false, hnone]
    have HES : Hid (∀ l, m.banks m.ch.toNat = some l → st m z x = { m with banks := upd m.banks m.ch.toNat (l.set (z - 16384).toNat x) }) := fun l hbn => by simp only [st, a1, a2, if_true, if_false, hbn]
    have HH : Hid _ := h
    have HM : Hid _ := hm
    clear h hm
    have q0 := eql_nil 35 5 Try.underlying35
    have q9 : ∀ (W : World) (p : Option Addr) (n c : Nat), (binOp .neq 35 (.slice p n c) (.slice none 0 0)).run Try.prog W = .ok (.bool (!p.isNone)) W := neq_nil
    go_enter Try.func51, Try.ntmps51
    go_wp2_with fail
    refine hbk.mono ?_
    rintro e w2 ⟨hb2, hc⟩
    rcases hc with ⟨rfl, hno⟩ | ⟨i, t, g, hi, hg, htc, rfl⟩
    · have hnone : m.banks m.ch.toNat = none := by
        cases hb : m.banks m.ch.toNat with
        | none => rfl
        | some l => exact absurd (by rw [← hn]) (hno _ ((inO_mem m m.ch.toNat l 16).2 ⟨hch, hb⟩))
      have HE : Hid _ := HEN.out hnone
      clear hno hnone HEN HES
      go_wp2
      go_end0
      exact ⟨rfl, by rw [HE.out]; exact RD.same HM.out hb2⟩
    · have hmem : (((m.ch.toNat : Nat) : Int), t.2) ∈ inO m 16 := by
        have : t = (((m.ch.toNat : Nat) : Int), t.2) := by rw [← hn, ← htc]
        rw [← this]; exact List.mem_of_getElem? hi
      have hbn := ((inO_mem m m.ch.toNat t.2 16).1 hmem).2
      have h2 := HH.out.kept (W' := w2) fun j hj _ => hb2.block j hj
      obtain ⟨x1, x2, x3, x4⟩ := h2.banks.dat i t g hi hg
      obtain ⟨k, hk⟩ : ∃ k : Nat, z = k + 16384 := ⟨(z - 16384).toNat, by omega⟩
      have hkl : k < 16384 := by omega
      have hc := cell_of w2 g.1 k _ 5 _ x1 ((bv_get t.2 _ _).2 ⟨_, lb_of t.2 k (by omega), rfl⟩)
      have hz := frozen_of w2 g.1 k _ 5 x1
      have el := HES.out _ hbn
      rw [show (z - 16384).toNat = k by omega] at el
      have hfin : RD w (w2.setCell ⟨g.1, k, none⟩ (.int .u8 (bt x))) F b (st m z x) := by
        rw [el]
        refine RD.set hb2 g.1 k _ (HH.out.fg g (List.mem_of_getElem? hg)) (hw.bank _ k t.2 x hbn) (u := u) (gr' := gr') (gc := gc) (gs := gs) (tv := tv) ?_
        rw [inO_setB m m.ch.toNat t.2 _ hbn 16, show ((m.ch.toNat : Nat) : Int) = t.1 from hn.symm.trans htc.symm]
        exact h2.bankS (inO_keys m 16).1 i t g hi hg k x _ rfl rfl rfl (fun _ _ => rfl)
      have e1 : IntKind.i64.wrap (z - 16384) = (k : Int) := by rw [hk, show (k : Int) + 16384 - 16384 = (k : Int) by omega]; exact i64_id _ (by omega) (by omega)
      have i1 : (k : Int) < 16384 := by omega
      generalize (t.2.getD k 0).toNat = y at *
      have HF : Hid _ := hfin
      clear hmem hbn hi hg htc x1 x2 x3 x4 el hk hb2 h2 hfin HEN HES
      go_wp2
      go_end0
      exact ⟨rfl, HF.out⟩
  have d2 : decide (z < 32768) = false := by simpa using a2
  by_cases a3 : z < 49152
  · obtain ⟨hw, u, gr', gc, gs, tv, h⟩ := hm
    have d3 : decide (z < 49152) = true := by simpa using a3
    have el : st m z x = { m with ram := m.ram.set (z - 32768).toNat x } := by simp only [st, a1, a2, a3, if_true, if_false]
    obtain ⟨k, rfl⟩ : ∃ k : Nat, z = k + 32768 := ⟨(z - 32768).toNat, by omega⟩
    rw [show ((k : Int) + 32768 - 32768).toNat = k by omega] at el
    have c1 := cell_of w b 1 _ 80 _ h.blk rfl
    have hc := cell_of w gr' k _ 5 _ h.ram ((bv_get m.ram _ _).2 ⟨_, lb_of m.ram k (by rw [h.rl]; omega), rfl⟩)
    have hz := frozen_of w gr' k _ 5 h.ram
    have hfin : RD w (w.setCell ⟨gr', k, none⟩ (.int .u8 (bt x))) F b (st m ((k : Int) + 32768) x) := by
      rw [el]
      exact RD.set (Below.refl _ _) gr' k _ h.fr ⟨by simp [hw.ram], hw.scr, hw.ch0, hw.ch1, hw.pad0, hw.pad1, hw.pitch0, hw.pitch1, hw.vol0, hw.vol1, hw.time0, hw.time1, hw.bk⟩ (by rw [inO_congr (m' := { m with ram := m.ram.set k x }) (m := m) rfl]; exact h.ramS k x)
    have e1 : IntKind.i64.wrap ((k : Int) + 32768 - 32768) = (k : Int) := by rw [show (k : Int) + 32768 - 32768 = (k : Int) by omega]; exact i64_id _ (by omega) (by omega)
    have i1 : (k : Int) < 16384 := by omega
    generalize (m.ram.getD k 0).toNat = y at *
    have HF : Hid _ := hfin
    clear h el hfin hw
    go_enter Try.func51, Try.ntmps51
    go_wp2
    go_end0
    exact ⟨rfl, HF.out⟩
  have d3 : decide (z < 49152) = false := by simpa using a3
  by_cases a4 : z < 52224
  · obtain ⟨hw, u, gr', gc, gs, tv, h⟩ := hm
    have d4 : decide (z < 52224) = true := by simpa using a4
    have el : st m z x = { m with scr := m.scr.set (z - 49152).toNat x } := by simp only [st, a1, a2, a3, a4, if_true, if_false]
    obtain ⟨k, rfl⟩ : ∃ k : Nat, z = k + 49152 := ⟨(z - 49152).toNat, by omega⟩
    rw [show ((k : Int) + 49152 - 49152).toNat = k by omega] at el
    have c1 := cell_of w b 2 _ 80 _ h.blk rfl
    have hc := cell_of w gc k _ 5 _ h.scr ((bv_get m.scr _ _).2 ⟨_, lb_of m.scr k (by rw [h.sl]; omega), rfl⟩)
    have hz := frozen_of w gc k _ 5 h.scr
    have hfin : RD w (w.setCell ⟨gc, k, none⟩ (.int .u8 (bt x))) F b (st m ((k : Int) + 49152) x) := by
      rw [el]
      exact RD.set (Below.refl _ _) gc k _ h.fc ⟨hw.ram, by simp [hw.scr], hw.ch0, hw.ch1, hw.pad0, hw.pad1, hw.pitch0, hw.pitch1, hw.vol0, hw.vol1, hw.time0, hw.time1, hw.bk⟩ (by rw [inO_congr (m' := { m with scr := m.scr.set k x }) (m := m) rfl]; exact h.scrS k x)
    have e1 : IntKind.i64.wrap ((k : Int) + 49152 - 49152) = (k : Int) := by rw [show (k : Int) + 49152 - 49152 = (k : Int) by omega]; exact i64_id _ (by omega) (by omega)
    have i1 : (k : Int) < 3072 := by omega
    generalize (m.scr.getD k 0).toNat = y at *
    have HF : Hid _ := hfin
    clear h el hfin hw
    go_enter Try.func51, Try.ntmps51
    go_wp2
    go_end0
    exact ⟨rfl, HF.out⟩
  have := rstore_port b z (by omega) h1 x w hm ht
  simpa only [st, a1, a2, a3, a4, if_false] using this
end Go.Proofs.Ytcmaccefjlgbfaa
