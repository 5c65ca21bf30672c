import Derived.Test.YtgponcjjnjpfkaaGreatMMem
import Derived.BigQuiet
/-! Where the byte of an address stands. -/
namespace Go.Proofs.YtgponcjjnjpfkaaGreat.M
open Go.RowKit
open Go.Proofs
set_option linter.unusedVariables false
set_option linter.unusedSimpArgs false

def ptr (b : Nat) : Value := .pointer (some ⟨b, 0, none⟩)
set_option maxHeartbeats 1000000
set_option maxRecDepth 100000
theorem room_low (b : Nat) (z : Int) (w : World) (h : z < 16384) :
    Calls Tryz.prog 60 #[.pointer (some ⟨b, 0, none⟩), .int .u16 z] w fun e w' => e = .returned (.pointer none) ∧ ∃ q, w' = w.drewN q := by
  go_enter Tryz.func60, Tryz.ntmps60
  go_wp2
  go_ret
  exact ⟨rfl, 0, rfl⟩
theorem room_high (b : Nat) (z : Int) (w : World) (h : 52224 ≤ z) :
    Calls Tryz.prog 60 #[.pointer (some ⟨b, 0, none⟩), .int .u16 z] w fun e w' => e = .returned (.pointer none) ∧ ∃ q, w' = w.drewN q := by
  have i1 : decide (z < 16384) = false := by simp; omega
  have i2 : decide (z < 32768) = false := by simp; omega
  have i3 : decide (z < 49152) = false := by simp; omega
  have i4 : decide (z < 52224) = false := by simp; omega
  go_enter Tryz.func60, Tryz.ntmps60
  go_wp2
  go_ret
  exact ⟨rfl, 0, rfl⟩
theorem room_ram (b : Nat) (z : Int) (w : World) (h : 32768 ≤ z) (h2 : z < 49152) :
    Calls Tryz.prog 60 #[.pointer (some ⟨b, 0, none⟩), .int .u16 z] w fun e w' => e = .returned (.pointer (some ⟨b, 1 + (z - 32768).toNat, none⟩)) ∧ ∃ q, w' = w.drewN q := by
  have i1 : decide (z < 16384) = false := by simp; omega
  have i2 : decide (z < 32768) = false := by simp; omega
  obtain ⟨k, rfl⟩ : ∃ k : Nat, z = k + 32768 := ⟨(z - 32768).toNat, by omega⟩
  have e1 : IntKind.u16.wrap ((k : Int) + 32768 - 32768) = (k : Int) := by simp [IntKind.wrap, IntKind.bits, IntKind.signed]; omega
  have hk : (k : Int) < 16384 := by omega
  have e2 : ((k : Int) + 32768 - 32768).toNat = k := by omega
  go_enter Tryz.func60, Tryz.ntmps60
  go_wp2
  go_ret
  exact ⟨by rw [e2]; rfl, 0, rfl⟩
theorem room_scr (b : Nat) (z : Int) (w : World) (h : 49152 ≤ z) (h2 : z < 52224) :
    Calls Tryz.prog 60 #[.pointer (some ⟨b, 0, none⟩), .int .u16 z] w fun e w' => e = .returned (.pointer (some ⟨b, 16385 + (z - 49152).toNat, none⟩)) ∧ ∃ q, w' = w.drewN q := by
  have i1 : decide (z < 16384) = false := by simp; omega
  have i2 : decide (z < 32768) = false := by simp; omega
  have i3 : decide (z < 49152) = false := by simp; omega
  obtain ⟨k, rfl⟩ : ∃ k : Nat, z = k + 49152 := ⟨(z - 49152).toNat, by omega⟩
  have e1 : IntKind.u16.wrap ((k : Int) + 49152 - 49152) = (k : Int) := by simp [IntKind.wrap, IntKind.bits, IntKind.signed]; omega
  have hk : (k : Int) < 3072 := by omega
  have e2 : ((k : Int) + 49152 - 49152).toNat = k := by omega
  go_enter Tryz.func60, Tryz.ntmps60
  go_wp2
  go_ret
  exact ⟨by rw [e2]; rfl, 0, rfl⟩
theorem room_nobank (b mb n : Nat) (L : List (Nat × Nat)) (z : Int) (w : World) (h : 16384 ≤ z) (h2 : z < 32768) (hn : n < 16)
    (hb : w.cell? ⟨b, 0, none⟩ = some (.map (some mb))) (hc : w.cell? ⟨b, 19457, none⟩ = some (.int .u8 (n : Int))) (hm : w.heap[mb]? = some (.map (ents 0 L).toArray L.length)) (hg : ∀ p ∈ L, p.1 ≠ n) :
    Calls Tryz.prog 60 #[.pointer (some ⟨b, 0, none⟩), .int .u16 z] w fun e w' => e = .returned (.pointer none) ∧ ∃ q, w' = w.drewN q := by
  have i1 : decide (z < 16384) = false := by simp; omega
  have hl := fun q => look_none (w.drewN q) mb n L hm hg
  go_enter Tryz.func60, Tryz.ntmps60
  go_wp2_with fail
  go_quiet (fail)
  go_wp2
  go_ret
  exact ⟨rfl, _, rfl⟩
theorem room_bank (b mb n g : Nat) (L : List (Nat × Nat)) (z : Int) (w : World) (h : 16384 ≤ z) (h2 : z < 32768) (hn : n < 16)
    (hb : w.cell? ⟨b, 0, none⟩ = some (.map (some mb))) (hc : w.cell? ⟨b, 19457, none⟩ = some (.int .u8 (n : Int))) (hm : w.heap[mb]? = some (.map (ents 0 L).toArray L.length)) (hd : (L.map Prod.fst).Nodup) (hg : (n, g) ∈ L) :
    Calls Tryz.prog 60 #[.pointer (some ⟨b, 0, none⟩), .int .u16 z] w fun e w' => e = .returned (.pointer (some ⟨g, (z - 16384).toNat, none⟩)) ∧ ∃ q, w' = w.drewN q := by
  have i1 : decide (z < 16384) = false := by simp; omega
  have hl := fun q => look_some (w.drewN q) mb n g L hm hd hg
  obtain ⟨k, rfl⟩ : ∃ k : Nat, z = k + 16384 := ⟨(z - 16384).toNat, by omega⟩
  have e1 : IntKind.u16.wrap ((k : Int) + 16384 - 16384) = (k : Int) := by simp [IntKind.wrap, IntKind.bits, IntKind.signed]; omega
  have hk : (k : Int) < 16384 := by omega
  have e2 : ((k : Int) + 16384 - 16384).toNat = k := by omega
  go_enter Tryz.func60, Tryz.ntmps60
  go_wp2_with fail
  go_quiet (fail)
  go_wp2
  go_ret
  exact ⟨by rw [e2]; rfl, _, rfl⟩
end Go.Proofs.YtgponcjjnjpfkaaGreat.M
/-! Load. -/
namespace Go.Proofs.YtgponcjjnjpfkaaGreat.M
open Go.RowKit
open Go.Proofs
set_option linter.unusedVariables false
set_option linter.unusedSimpArgs false

/-- What a port reads. -/
def pt (m : MS) (z : Int) : Int := if z = 65280 then m.ch else if z = 65282 then m.pad else if z = 65284 then m.pitch % 256 else if z = 65285 then m.pitch / 256 else if z = 65286 then m.vol else if z = 65288 then m.time % 256 else if z = 65289 then m.time / 256 else 0
def lb (l : List UInt8) (i : Nat) : Int := ((l.getD i 0).toNat : Int)
/-- DOC.md's table, read. -/
def ld (m : MS) (z : Int) : Int :=
  if z < 16384 then 0 else if z < 32768 then (match m.banks m.ch.toNat with | none => 0 | some l => lb l (z - 16384).toNat)
  else if z < 49152 then lb m.ram (z - 32768).toNat else if z < 52224 then lb m.scr (z - 49152).toNat else pt m z

theorem u8_wrap (z : Int) : IntKind.u8.wrap z = z % 256 := by simp [IntKind.wrap, IntKind.bits, IntKind.signed]
theorem u16_wrap (z : Int) : IntKind.u16.wrap z = z % 65536 := by simp [IntKind.wrap, IntKind.bits, IntKind.signed]

set_option maxHeartbeats 1000000
set_option maxRecDepth 100000
theorem port_any (b : Nat) (z : Int) (w : World) {F : Nat → Prop} {m : MS} (hm : HasM w F b m) :
    Calls Tryz.prog 128 #[.pointer (some ⟨b, 0, none⟩), .int .u16 z] w fun e w' => e = .returned (.int .u8 (pt m z)) ∧ ∃ q, w' = w.drewN q := by
  obtain ⟨mb, L, tv, hm⟩ := hm
  have c := fun i v h => cell_of w b (19457 + i) _ 119 v hm.blk ((mcells_reg mb m tv hm.wf i).trans h)
  have c0 := c 0 _ rfl
  have c1 := c 1 _ rfl
  have c2 := c 2 _ rfl
  have c3 := c 3 _ rfl
  have c4 := c 4 _ rfl
  have w1 := hm.wf.pitch0
  have w2 := hm.wf.pitch1
  have w3 := hm.wf.time0
  have w4 := hm.wf.time1
  simp only [Nat.add_zero, Nat.reduceAdd] at c0 c1 c2 c3 c4
  clear c hm
  by_cases a0 : z = 65280
  · subst a0
    go_enter Tryz.func128, Tryz.ntmps128
    go_wp2
    go_ret
    exact ⟨by simp [pt], 0, rfl⟩
  by_cases a1 : z = 65282
  · subst a1
    go_enter Tryz.func128, Tryz.ntmps128
    go_wp2
    go_ret
    exact ⟨by simp [pt], 0, rfl⟩
  by_cases a2 : z = 65284
  · subst a2
    have e1 := u8_wrap m.pitch
    go_enter Tryz.func128, Tryz.ntmps128
    go_wp2
    go_ret
    exact ⟨by simp [pt], 0, rfl⟩
  by_cases a3 : z = 65285
  · subst a3
    go_enter Tryz.func128, Tryz.ntmps128
    go_wp2
    go_ret
    exact ⟨by simp [pt], 0, rfl⟩
  by_cases a4 : z = 65286
  · subst a4
    go_enter Tryz.func128, Tryz.ntmps128
    go_wp2
    go_ret
    exact ⟨by simp [pt], 0, rfl⟩
  by_cases a5 : z = 65288
  · subst a5
    have e1 := u8_wrap m.time
    go_enter Tryz.func128, Tryz.ntmps128
    go_wp2
    go_ret
    exact ⟨by simp [pt], 0, rfl⟩
  by_cases a6 : z = 65289
  · subst a6
    go_enter Tryz.func128, Tryz.ntmps128
    go_wp2
    go_ret
    exact ⟨by simp [pt], 0, rfl⟩
  have f0 : (z == 65280) = false := by simpa using a0
  have f1 : (z == 65282) = false := by simpa using a1
  have f2 : (z == 65284) = false := by simpa using a2
  have f3 : (z == 65285) = false := by simpa using a3
  have f4 : (z == 65286) = false := by simpa using a4
  have f5 : (z == 65288) = false := by simpa using a5
  have f6 : (z == 65289) = false := by simpa using a6
  go_enter Tryz.func128, Tryz.ntmps128
  go_wp2
  go_ret
  exact ⟨by simp [pt, a0, a1, a2, a3, a4, a5, a6], 0, rfl⟩

theorem HasM.drew {W : World} {F : Nat → Prop} {b : Nat} {m : MS} (h : HasM W F b m) (q : Nat) : HasM (W.drewN q) F b m := h.kept fun _ _ _ => rfl
theorem drewN_drewN (W : World) (p q : Nat) : ∃ r, (W.drewN p).drewN q = W.drewN r := ⟨p + q, by simp [World.drewN, Nat.add_assoc]⟩
theorem lb_of (l : List UInt8) (i : Nat) (h : i < l.length) : l[i]? = some (l.getD i 0) := by rw [List.getD_eq_getElem?_getD, List.getElem?_eq_getElem h]; rfl

theorem load_room (b : Nat) (z x : Int) (a : Addr) (w : World)
    (hr : Calls Tryz.prog 60 #[.pointer (some ⟨b, 0, none⟩), .int .u16 z] w fun e w' => e = .returned (.pointer (some a)) ∧ ∃ q, w' = w.drewN q) (hc : w.cell? a = some (.int .u8 x)) :
    Calls Tryz.prog 108 #[.pointer (some ⟨b, 0, none⟩), .int .u16 z] w fun e w' => e = .returned (.int .u8 x) ∧ ∃ q, w' = w.drewN q := by
  go_enter Tryz.func108, Tryz.ntmps108
  go_wp2_with fail
  refine hr.mono ?_
  rintro e w1 ⟨rfl, q, rfl⟩
  have hc2 : (w.drewN q).cell? a = some (.int .u8 x) := hc
  go_wp2
  go_ret
  exact ⟨rfl, _, rfl⟩
theorem load_port (b : Nat) (z : Int) (w : World) {F : Nat → Prop} {m : MS} (hm : HasM w F b m)
    (hr : Calls Tryz.prog 60 #[.pointer (some ⟨b, 0, none⟩), .int .u16 z] w fun e w' => e = .returned (.pointer none) ∧ ∃ q, w' = w.drewN q) :
    Calls Tryz.prog 108 #[.pointer (some ⟨b, 0, none⟩), .int .u16 z] w fun e w' => e = .returned (.int .u8 (pt m z)) ∧ ∃ q, w' = w.drewN q := by
  go_enter Tryz.func108, Tryz.ntmps108
  go_wp2_with fail
  refine hr.mono ?_
  rintro e w1 ⟨rfl, q, rfl⟩
  have hp := port_any b z (w.drewN q) (hm.drew q)
  go_wp2_with fail
  refine hp.mono ?_
  rintro e w1 ⟨rfl, q1, rfl⟩
  go_wp2
  go_ret
  exact ⟨rfl, _, rfl⟩
theorem load_nil (z : Int) (w : World) : Calls Tryz.prog 108 #[.pointer none, .int .u16 z] w fun e w' => e = .returned (.int .u8 0) ∧ w' = w := by
  go_enter Tryz.func108, Tryz.ntmps108
  go_wp2
  go_ret
  exact ⟨rfl, rfl⟩
theorem pt_low (m : MS) (z : Int) (h : z < 65280) : pt m z = 0 := by simp [pt]; omega
theorem load_any (b : Nat) (z : Int) (h0 : 0 ≤ z) (h1 : z < 65536) (w : World) {F : Nat → Prop} {m : MS} (hm : HasM w F b m) :
    Calls Tryz.prog 108 #[.pointer (some ⟨b, 0, none⟩), .int .u16 z] w fun e w' => e = .returned (.int .u8 (ld m z)) ∧ ∃ q, w' = w.drewN q := by
  by_cases a1 : z < 16384
  · have := load_port b z w hm (room_low b z w a1)
    rw [pt_low m z (by omega)] at this
    simpa only [ld, a1, if_true] using this
  by_cases a2 : z < 32768
  · obtain ⟨mb, L, tv, h⟩ := id hm
    have cb := cell_of w b 0 _ 119 _ h.blk (mcells_0 mb m tv)
    have cc := cell_of w b (19457 + 0) _ 119 _ h.blk ((mcells_reg mb m tv h.wf 0).trans rfl)
    have e : m.ch = (m.ch.toNat : Int) := by have := h.wf.ch0; omega
    have hn : m.ch.toNat < 16 := by have := h.wf.ch1; have := h.wf.ch0; omega
    rw [e] at cc
    cases hb : m.banks m.ch.toNat with
    | none =>
      have := load_port b z w hm (room_nobank b mb m.ch.toNat L z w (by omega) a2 hn cb cc h.map (by rintro p hp e; obtain ⟨l, e2, _⟩ := h.bks p hp; rw [e, hb] at e2; cases e2))
      rw [pt_low m z (by omega)] at this
      simpa only [ld, a1, a2, if_true, if_false, hb] using this
    | some l =>
      obtain ⟨g, hg⟩ := h.all _ _ hb
      obtain ⟨l', e2, hk⟩ := h.bks _ hg
      rw [hb] at e2; cases e2
      have hl := (h.wf.bk _ _ hb).2
      have := load_room b z _ _ w (room_bank b mb m.ch.toNat g L z w (by omega) a2 hn cb cc h.map h.keys hg) (cell_of w g _ _ 116 _ hk ((bv_get l _ _).2 ⟨_, lb_of l (z - 16384).toNat (by omega), rfl⟩))
      simpa only [ld, a1, a2, if_true, if_false, hb, lb] using this
  by_cases a3 : z < 49152
  · obtain ⟨mb, L, tv, h⟩ := id hm
    have := load_room b z _ _ w (room_ram b z w (by omega) a3) (cell_of w b _ _ 119 _ h.blk (mcells_ram mb m tv h.wf _ _ (lb_of m.ram (z - 32768).toNat (by rw [h.wf.ram]; omega))))
    simpa only [ld, a1, a2, a3, if_true, if_false, lb] using this
  by_cases a4 : z < 52224
  · obtain ⟨mb, L, tv, h⟩ := id hm
    have := load_room b z _ _ w (room_scr b z w (by omega) a4) (cell_of w b _ _ 119 _ h.blk (mcells_scr mb m tv h.wf _ _ (lb_of m.scr (z - 49152).toNat (by rw [h.wf.scr]; omega))))
    simpa only [ld, a1, a2, a3, a4, if_true, if_false, lb] using this
  have := load_port b z w hm (room_high b z w (by omega))
  simpa only [ld, a1, a2, a3, a4, if_false] using this
theorem pad_any (b : Nat) (w : World) {F : Nat → Prop} {m : MS} (hm : HasM w F b m) :
    Calls Tryz.prog 118 #[.pointer (some ⟨b, 0, none⟩)] w fun e w' => e = .returned (.int .u8 m.pad) ∧ ∃ q, w' = w.drewN q := by
  have hl := load_any b 65282 (by omega) (by omega) w hm
  go_enter Tryz.func118, Tryz.ntmps118
  go_wp2_with fail
  refine hl.mono ?_
  rintro e w1 ⟨rfl, q, rfl⟩
  go_wp2
  go_ret
  exact ⟨by simp [ld, pt], q, rfl⟩
theorem ld_bound (m : MS) (h : Wf m) (z : Int) : 0 ≤ ld m z ∧ ld m z < 256 := by
  have lbb : ∀ l i, 0 ≤ lb l i ∧ lb l i < 256 := fun l i => ⟨by unfold lb; omega, by unfold lb; have := (l.getD i 0).toNat_lt; omega⟩
  have := h.ch0; have := h.ch1; have := h.pad0; have := h.pad1; have := h.pitch0; have := h.pitch1; have := h.vol0; have := h.vol1; have := h.time0; have := h.time1
  unfold ld
  split
  · omega
  split
  · split
    · omega
    · exact lbb _ _
  split
  · exact lbb _ _
  split
  · exact lbb _ _
  unfold pt
  repeat' split
  all_goals omega
/-- Two bytes. -/
def cl (m : MS) (z : Int) : Int := ld m z + 256 * ld m ((z + 1) % 65536)
theorem cell_any (b : Nat) (z : Int) (h0 : 0 ≤ z) (h1 : z < 65536) (w : World) {F : Nat → Prop} {m : MS} (hm : HasM w F b m) :
    Calls Tryz.prog 104 #[.pointer (some ⟨b, 0, none⟩), .int .u16 z] w fun e w' => e = .returned (.int .u16 (cl m z)) ∧ ∃ q, w' = w.drewN q := by
  have hl := load_any b z h0 h1 w hm
  have hwf : Wf m := by obtain ⟨_, _, _, h⟩ := hm; exact h.wf
  have l1 := (ld_bound m hwf z)
  have l2 := (ld_bound m hwf ((z + 1) % 65536))
  have e1 := u16_wrap (z + 1)
  go_enter Tryz.func104, Tryz.ntmps104
  go_wp2_with fail
  refine hl.mono ?_
  rintro e w1 ⟨rfl, q, rfl⟩
  have hl2 := load_any b ((z + 1) % 65536) (by omega) (by omega) (w.drewN q) (hm.drew q)
  go_wp2_with fail
  refine hl2.mono ?_
  rintro e w1 ⟨rfl, q1, rfl⟩
  have e3 : ∀ y, IntKind.u16.wrap (ld m z + y) = (ld m z + y) % 65536 := fun y => u16_wrap _
  go_wp2
  go_ret
  refine ⟨congrArg Ending.returned (congrArg (Value.int .u16) ?_), _, rfl⟩
  unfold cl
  omega
end Go.Proofs.YtgponcjjnjpfkaaGreat.M
/-! The halves of a cell. -/
namespace Go.Proofs.YtgponcjjnjpfkaaGreat.M
open Go.Proofs
set_option linter.unusedVariables false
set_option linter.unusedSimpArgs false
theorem ofInt16 (a : Nat) (h : a < 65536) : (BitVec.ofInt 16 (a : Int)).toNat = a := by
  rw [BitVec.ofInt_natCast, BitVec.toNat_ofNat]; exact Nat.mod_eq_of_lt (by omega)
theorem or16 (a b : Nat) (ha : a < 65536) (hb : b < 65536) : bits .or .u16 (a : Int) (b : Int) = ((a ||| b : Nat) : Int) := by
  have hx : a ||| b < 2 ^ 16 := Nat.or_lt_two_pow (by omega) (by omega)
  show IntKind.u16.wrap ((BitVec.ofInt 16 (a : Int) ||| BitVec.ofInt 16 (b : Int)).toNat : Int) = _
  rw [BitVec.toNat_or, ofInt16 a ha, ofInt16 b hb, u16_wrap]
  omega
theorem and16 (a b : Nat) (ha : a < 65536) (hb : b < 65536) : bits .and .u16 (a : Int) (b : Int) = ((a &&& b : Nat) : Int) := by
  have hx : a &&& b < 2 ^ 16 := Nat.and_lt_two_pow _ (by omega)
  show IntKind.u16.wrap ((BitVec.ofInt 16 (a : Int) &&& BitVec.ofInt 16 (b : Int)).toNat : Int) = _
  rw [BitVec.toNat_and, ofInt16 a ha, ofInt16 b hb, u16_wrap]
  omega
theorem and_high (p : Nat) (h : p < 65536) : p &&& 65280 = (p / 256) <<< 8 := by
  apply Nat.eq_of_testBit_eq
  intro i
  rw [show (65280 : Nat) = (2 ^ 8 - 1) <<< 8 from rfl, Nat.testBit_and, Nat.testBit_shiftLeft, Nat.testBit_shiftLeft, Nat.testBit_two_pow_sub_one, show p / 256 = p >>> 8 by rw [Nat.shiftRight_eq_div_pow], Nat.testBit_shiftRight]
  by_cases h1 : 8 ≤ i
  · by_cases h2 : i - 8 < 8
    · simp [h1, h2, show 8 + (i - 8) = i by omega]
    · have hp : p.testBit i = false := Nat.testBit_lt_two_pow (Nat.lt_of_lt_of_le h (Nat.pow_le_pow_right (n := 2) (by decide) (show 16 ≤ i by omega)))
      simp [h1, h2, show 8 + (i - 8) = i by omega, hp]
  · simp [h1]
theorem and_low (p : Nat) : p &&& 255 = p % 256 := Nat.and_two_pow_sub_one_eq_mod p 8
theorem set_lo (p x : Int) (h0 : 0 ≤ p) (h1 : p < 65536) (x0 : 0 ≤ x) (x1 : x < 256) : bits .or .u16 (bits .and .u16 p 65280) x = p / 256 * 256 + x := by
  obtain ⟨a, rfl⟩ := Int.eq_ofNat_of_zero_le h0
  obtain ⟨c, rfl⟩ := Int.eq_ofNat_of_zero_le x0
  have e := and16 a 65280 (by omega) (by omega)
  rw [show ((65280 : Nat) : Int) = 65280 from rfl] at e
  have hs : (a / 256) <<< 8 = a / 256 * 256 := Nat.shiftLeft_eq _ _
  rw [e, and_high a (by omega), or16 _ c (by rw [hs]; omega) (by omega), ← Nat.shiftLeft_add_eq_or_of_lt (by omega), hs]
  omega
theorem set_hi (p x : Int) (h0 : 0 ≤ p) (h1 : p < 65536) (x0 : 0 ≤ x) (x1 : x < 256) : bits .or .u16 (bits .and .u16 p 255) (x * 256) = p % 256 + 256 * x := by
  obtain ⟨a, rfl⟩ := Int.eq_ofNat_of_zero_le h0
  obtain ⟨c, rfl⟩ := Int.eq_ofNat_of_zero_le x0
  have e := and16 a 255 (by omega) (by omega)
  rw [show ((255 : Nat) : Int) = 255 from rfl] at e
  have hs : c <<< 8 = c * 256 := Nat.shiftLeft_eq _ _
  have e2 : (c : Int) * (256 : Int) = ((c <<< 8 : Nat) : Int) := by rw [hs]; exact (Int.natCast_mul c 256).symm
  rw [e, and_low, e2, or16 _ _ (by omega) (by rw [hs]; omega), Nat.or_comm, ← Nat.shiftLeft_add_eq_or_of_lt (by omega), hs]
  omega
end Go.Proofs.YtgponcjjnjpfkaaGreat.M
