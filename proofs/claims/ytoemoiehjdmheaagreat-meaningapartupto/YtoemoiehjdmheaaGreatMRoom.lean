import Derived.Test.YtoemoiehjdmheaaGreatMKit
import Derived.BigQuiet
namespace Go.Proofs.YtoemoiehjdmheaaGreat.M
open Go.RowKit
open Go.Proofs
set_option linter.unusedVariables false
set_option linter.unusedSimpArgs false
set_option maxHeartbeats 1000000
set_option maxRecDepth 100000
theorem room_low (b : Nat) (z : Int) (w : World) (h : z < 16384) :
  Calls Tryz.prog 141 #[.pointer (some ⟨b, 0, none⟩), .int .u16 z] w fun e w' => e = .returned (.pointer none) /\ ∃ q, w' = w.drewN q := by
 go_enter Tryz.func141, Tryz.ntmps141
 go_wp2
 go_ret
 exact ⟨rfl, 0, rfl⟩
theorem room_high (b : Nat) (z : Int) (w : World) (h : 52224 <= z) :
  Calls Tryz.prog 141 #[.pointer (some ⟨b, 0, none⟩), .int .u16 z] w fun e w' => e = .returned (.pointer none) /\ ∃ q, w' = w.drewN q := by
 have i1 : decide (z < 16384) = false := by simp; omega
 have i2 : decide (z < 32768) = false := by simp; omega
 have i3 : decide (z < 49152) = false := by simp; omega
 have i4 : decide (z < 52224) = false := by simp; omega
 go_enter Tryz.func141, Tryz.ntmps141
 go_wp2
 go_ret
 exact ⟨rfl, 0, rfl⟩
theorem room_ram (b : Nat) (z : Int) (w : World) (h : 32768 <= z) (h2 : z < 49152) :
  Calls Tryz.prog 141 #[.pointer (some ⟨b, 0, none⟩), .int .u16 z] w fun e w' => e = .returned (.pointer (some ⟨b, 1 + (z - 32768).toNat, none⟩)) /\ ∃ q, w' = w.drewN q := by
 have i1 : decide (z < 16384) = false := by simp; omega
 have i2 : decide (z < 32768) = false := by simp; omega
 obtain ⟨k, rfl⟩ : ∃ k : Nat, z = k + 32768 := ⟨(z - 32768).toNat, by omega⟩
 have e1 : IntKind.u16.wrap ((k : Int) + 32768 - 32768) = (k : Int) := by simp [IntKind.wrap, IntKind.bits, IntKind.signed]; omega
 have hk : (k : Int) < 16384 := by omega
 have e2 : ((k : Int) + 32768 - 32768).toNat = k := by omega
 go_enter Tryz.func141, Tryz.ntmps141
 go_wp2
 go_ret
 exact ⟨by rw [e2]; rfl, 0, rfl⟩
theorem room_scr (b : Nat) (z : Int) (w : World) (h : 49152 <= z) (h2 : z < 52224) :
  Calls Tryz.prog 141 #[.pointer (some ⟨b, 0, none⟩), .int .u16 z] w fun e w' => e = .returned (.pointer (some ⟨b, 16385 + (z - 49152).toNat, none⟩)) /\ ∃ q, w' = w.drewN q := by
 have i1 : decide (z < 16384) = false := by simp; omega
 have i2 : decide (z < 32768) = false := by simp; omega
 have i3 : decide (z < 49152) = false := by simp; omega
 obtain ⟨k, rfl⟩ : ∃ k : Nat, z = k + 49152 := ⟨(z - 49152).toNat, by omega⟩
 have e1 : IntKind.u16.wrap ((k : Int) + 49152 - 49152) = (k : Int) := by simp [IntKind.wrap, IntKind.bits, IntKind.signed]; omega
 have hk : (k : Int) < 3072 := by omega
 have e2 : ((k : Int) + 49152 - 49152).toNat = k := by omega
 go_enter Tryz.func141, Tryz.ntmps141
 go_wp2
 go_ret
 exact ⟨by rw [e2]; rfl, 0, rfl⟩
theorem room_nobank (b mb n : Nat) (L : List (Nat × Nat)) (z : Int) (w : World) (h : 16384 <= z) (h2 : z < 32768) (hn : n < 16)
  (hb : w.cell? ⟨b, 0, none⟩ = some (.map (some mb))) (hc : w.cell? ⟨b, 19457, none⟩ = some (.int .u8 (n : Int))) (hm : w.heap[mb]? = some (.map (ents 0 L).toArray L.length)) (hg : ∀ p ∈ L, p.1 ≠ n) :
  Calls Tryz.prog 141 #[.pointer (some ⟨b, 0, none⟩), .int .u16 z] w fun e w' => e = .returned (.pointer none) /\ ∃ q, w' = w.drewN q := by
 have i1 : decide (z < 16384) = false := by simp; omega
 have hl := fun q => look_none (w.drewN q) mb n L hm hg
 go_enter Tryz.func141, Tryz.ntmps141
 go_wp2_with fail
 go_quiet (fail)
 go_wp2
 go_ret
 exact ⟨rfl, _, rfl⟩
theorem room_bank (b mb n g : Nat) (L : List (Nat × Nat)) (z : Int) (w : World) (h : 16384 <= z) (h2 : z < 32768) (hn : n < 16)
  (hb : w.cell? ⟨b, 0, none⟩ = some (.map (some mb))) (hc : w.cell? ⟨b, 19457, none⟩ = some (.int .u8 (n : Int))) (hm : w.heap[mb]? = some (.map (ents 0 L).toArray L.length)) (hd : (L.map Prod.fst).Nodup) (hg : (n, g) ∈ L) :
  Calls Tryz.prog 141 #[.pointer (some ⟨b, 0, none⟩), .int .u16 z] w fun e w' => e = .returned (.pointer (some ⟨g, (z - 16384).toNat, none⟩)) /\ ∃ q, w' = w.drewN q := by
 have i1 : decide (z < 16384) = false := by simp; omega
 have hl := fun q => look_some (w.drewN q) mb n g L hm hd hg
 obtain ⟨k, rfl⟩ : ∃ k : Nat, z = k + 16384 := ⟨(z - 16384).toNat, by omega⟩
 have e1 : IntKind.u16.wrap ((k : Int) + 16384 - 16384) = (k : Int) := by simp [IntKind.wrap, IntKind.bits, IntKind.signed]; omega
 have hk : (k : Int) < 16384 := by omega
 have e2 : ((k : Int) + 16384 - 16384).toNat = k := by omega
 go_enter Tryz.func141, Tryz.ntmps141
 go_wp2_with fail
 go_quiet (fail)
 go_wp2
 go_ret
 exact ⟨by rw [e2]; rfl, _, rfl⟩
def pt (m : MS) (z : Int) : Int := if z = 65280 then m.ch else if z = 65282 then m.pad else if z = 65284 then m.pitch % 256 else if z = 65285 then m.pitch / 256 else if z = 65286 then m.vol else if z = 65288 then m.time % 256 else if z = 65289 then m.time / 256 else 0
def lb (l : List UInt8) (i : Nat) : Int := ((l.getD i 0).toNat : Int)
def ld (m : MS) (z : Int) : Int :=
 if z < 16384 then 0 else if z < 32768 then (match m.banks m.ch.toNat with | none => 0 | some l => lb l (z - 16384).toNat)
 else if z < 49152 then lb m.ram (z - 32768).toNat else if z < 52224 then lb m.scr (z - 49152).toNat else pt m z
theorem u8_wrap (z : Int) : IntKind.u8.wrap z = z % 256 := by simp [IntKind.wrap, IntKind.bits, IntKind.signed]
theorem u16_wrap (z : Int) : IntKind.u16.wrap z = z % 65536 := by simp [IntKind.wrap, IntKind.bits, IntKind.signed]
set_option maxHeartbeats 1000000
set_option maxRecDepth 100000
theorem port_any (b : Nat) (z : Int) (w : World) {F : Nat -> Prop} {m : MS} (hm : HasM w F b m) :
  Calls Tryz.prog 142 #[.pointer (some ⟨b, 0, none⟩), .int .u16 z] w fun e w' => e = .returned (.int .u8 (pt m z)) /\ ∃ q, w' = w.drewN q := by
 obtain ⟨mb, L, tv, hm⟩ := hm
 have c := fun i v h => cell_of w b (19457 + i) _ 122 v hm.blk ((mcells_reg mb m tv hm.wf i).trans h)
 have c0 := c 0 _ rfl
 have c1 := c 1 _ rfl
 have c2 := c 2 _ rfl
 have c3 := c 3 _ rfl
 have c4 := c 4 _ rfl
 have w1 := hm.wf.pitch0
 have w2 := hm.wf.pitch1
 have w3 := hm.wf.time0
 have w4 := hm.wf.time1
 simp only [Nat.add_zero, Nat.reduceAdd] at c0 c1 c2 c3 c4
 clear c hm
 by_cases a0 : z = 65280
 ·subst a0
  go_enter Tryz.func142, Tryz.ntmps142
  go_wp2
  go_ret
  exact ⟨by simp [pt], 0, rfl⟩
 by_cases a1 : z = 65282
 ·subst a1
  go_enter Tryz.func142, Tryz.ntmps142
  go_wp2
  go_ret
  exact ⟨by simp [pt], 0, rfl⟩
 by_cases a2 : z = 65284
 ·subst a2
  have e1 := u8_wrap m.pitch
  go_enter Tryz.func142, Tryz.ntmps142
  go_wp2
  go_ret
  exact ⟨by simp [pt], 0, rfl⟩
 by_cases a3 : z = 65285
 ·subst a3
  go_enter Tryz.func142, Tryz.ntmps142
  go_wp2
  go_ret
  exact ⟨by simp [pt], 0, rfl⟩
 by_cases a4 : z = 65286
 ·subst a4
  go_enter Tryz.func142, Tryz.ntmps142
  go_wp2
  go_ret
  exact ⟨by simp [pt], 0, rfl⟩
 by_cases a5 : z = 65288
 ·subst a5
  have e1 := u8_wrap m.time
  go_enter Tryz.func142, Tryz.ntmps142
  go_wp2
  go_ret
  exact ⟨by simp [pt], 0, rfl⟩
 by_cases a6 : z = 65289
 ·subst a6
  go_enter Tryz.func142, Tryz.ntmps142
  go_wp2
  go_ret
  exact ⟨by simp [pt], 0, rfl⟩
 have f0 : (z == 65280) = false := by simpa using a0
 have f1 : (z == 65282) = false := by simpa using a1
 have f2 : (z == 65284) = false := by simpa using a2
 have f3 : (z == 65285) = false := by simpa using a3
 have f4 : (z == 65286) = false := by simpa using a4
 have f5 : (z == 65288) = false := by simpa using a5
 have f6 : (z == 65289) = false := by simpa using a6
 go_enter Tryz.func142, Tryz.ntmps142
 go_wp2
 go_ret
 exact ⟨by simp [pt, a0, a1, a2, a3, a4, a5, a6], 0, rfl⟩
theorem HasM.drew {W : World} {F : Nat -> Prop} {b : Nat} {m : MS} (h : HasM W F b m) (q : Nat) : HasM (W.drewN q) F b m := h.kept fun _ _ _ => rfl
theorem drewN_drewN (W : World) (p q : Nat) : ∃ r, (W.drewN p).drewN q = W.drewN r := ⟨p + q, by simp [World.drewN, Nat.add_assoc]⟩
theorem lb_of (l : List UInt8) (i : Nat) (h : i < l.length) : l[i]? = some (l.getD i 0) := by rw [List.getD_eq_getElem?_getD, List.getElem?_eq_getElem h]; rfl
theorem load_room (b : Nat) (z x : Int) (a : Addr) (w : World)
  (hr : Calls Tryz.prog 141 #[.pointer (some ⟨b, 0, none⟩), .int .u16 z] w fun e w' => e = .returned (.pointer (some a)) /\ ∃ q, w' = w.drewN q) (hc : w.cell? a = some (.int .u8 x)) :
  Calls Tryz.prog 116 #[.pointer (some ⟨b, 0, none⟩), .int .u16 z] w fun e w' => e = .returned (.int .u8 x) /\ ∃ q, w' = w.drewN q := by
 go_enter Tryz.func116, Tryz.ntmps116
 go_wp2_with fail
 refine hr.mono ?_
 rintro e w1 ⟨rfl, q, rfl⟩
 have hc2 : (w.drewN q).cell? a = some (.int .u8 x) := hc
 go_wp2
 go_ret
 exact ⟨rfl, _, rfl⟩
theorem load_port (b : Nat) (z : Int) (w : World) {F : Nat -> Prop} {m : MS} (hm : HasM w F b m)
  (hr : Calls Tryz.prog 141 #[.pointer (some ⟨b, 0, none⟩), .int .u16 z] w fun e w' => e = .returned (.pointer none) /\ ∃ q, w' = w.drewN q) :
  Calls Tryz.prog 116 #[.pointer (some ⟨b, 0, none⟩), .int .u16 z] w fun e w' => e = .returned (.int .u8 (pt m z)) /\ ∃ q, w' = w.drewN q := by
 go_enter Tryz.func116, Tryz.ntmps116
 go_wp2_with fail
 refine hr.mono ?_
 rintro e w1 ⟨rfl, q, rfl⟩
 have hp := port_any b z (w.drewN q) (hm.drew q)
 go_wp2_with fail
 refine hp.mono ?_
 rintro e w1 ⟨rfl, q1, rfl⟩
 go_wp2
 go_ret
 exact ⟨rfl, _, rfl⟩
theorem pt_low (m : MS) (z : Int) (h : z < 65280) : pt m z = 0 := by simp [pt]; omega
theorem load_any (b : Nat) (z : Int) (h0 : 0 <= z) (h1 : z < 65536) (w : World) {F : Nat -> Prop} {m : MS} (hm : HasM w F b m) :
  Calls Tryz.prog 116 #[.pointer (some ⟨b, 0, none⟩), .int .u16 z] w fun e w' => e = .returned (.int .u8 (ld m z)) /\ ∃ q, w' = w.drewN q := by
 by_cases a1 : z < 16384
 ·have := load_port b z w hm (room_low b z w a1)
  rw [pt_low m z (by omega)] at this
  simpa only [ld, a1, if_true] using this
 by_cases a2 : z < 32768
 ·obtain ⟨mb, L, tv, h⟩ := id hm
  have cb := cell_of w b 0 _ 122 _ h.blk (mcells_0 mb m tv)
  have cc := cell_of w b (19457 + 0) _ 122 _ h.blk ((mcells_reg mb m tv h.wf 0).trans rfl)
  have e : m.ch = (m.ch.toNat : Int) := by have := h.wf.ch0; omega
  have hn : m.ch.toNat < 16 := by have := h.wf.ch1; have := h.wf.ch0; omega
  rw [e] at cc
  cases hb : m.banks m.ch.toNat with
  | none =>
   have := load_port b z w hm (room_nobank b mb m.ch.toNat L z w (by omega) a2 hn cb cc h.map (by rintro p hp e; obtain ⟨l, e2, _⟩ := h.bks p hp; rw [e, hb] at e2; cases e2))
   rw [pt_low m z (by omega)] at this
   simpa only [ld, a1, a2, if_true, if_false, hb] using this
  | some l =>
   obtain ⟨g, hg⟩ := h.all _ _ hb
   obtain ⟨l', e2, hk⟩ := h.bks _ hg
   rw [hb] at e2; cases e2
   have hl := (h.wf.bk _ _ hb).2
   have := load_room b z _ _ w (room_bank b mb m.ch.toNat g L z w (by omega) a2 hn cb cc h.map h.keys hg) (cell_of w g _ _ 119 _ hk ((bv_get l _ _).2 ⟨_, lb_of l (z - 16384).toNat (by omega), rfl⟩))
   simpa only [ld, a1, a2, if_true, if_false, hb, lb] using this
 by_cases a3 : z < 49152
 ·obtain ⟨mb, L, tv, h⟩ := id hm
  have := load_room b z _ _ w (room_ram b z w (by omega) a3) (cell_of w b _ _ 122 _ h.blk (mcells_ram mb m tv h.wf _ _ (lb_of m.ram (z - 32768).toNat (by rw [h.wf.ram]; omega))))
  simpa only [ld, a1, a2, a3, if_true, if_false, lb] using this
 by_cases a4 : z < 52224
 ·obtain ⟨mb, L, tv, h⟩ := id hm
  have := load_room b z _ _ w (room_scr b z w (by omega) a4) (cell_of w b _ _ 122 _ h.blk (mcells_scr mb m tv h.wf _ _ (lb_of m.scr (z - 49152).toNat (by rw [h.wf.scr]; omega))))
  simpa only [ld, a1, a2, a3, a4, if_true, if_false, lb] using this
 have := load_port b z w hm (room_high b z w (by omega))
 simpa only [ld, a1, a2, a3, a4, if_false] using this
theorem pad_any (b : Nat) (w : World) {F : Nat -> Prop} {m : MS} (hm : HasM w F b m) :
  Calls Tryz.prog 126 #[.pointer (some ⟨b, 0, none⟩)] w fun e w' => e = .returned (.int .u8 m.pad) /\ ∃ q, w' = w.drewN q := by
 have hl := load_any b 65282 (by omega) (by omega) w hm
 go_enter Tryz.func126, Tryz.ntmps126
 go_wp2_with fail
 refine hl.mono ?_
 rintro e w1 ⟨rfl, q, rfl⟩
 go_wp2
 go_ret
 exact ⟨by simp [ld, pt], q, rfl⟩
theorem ld_bound (m : MS) (h : Wf m) (z : Int) : 0 <= ld m z /\ ld m z < 256 := by
 have lbb : ∀ l i, 0 <= lb l i /\ lb l i < 256 := fun l i => ⟨by unfold lb; omega, by unfold lb; have := (l.getD i 0).toNat_lt; omega⟩
 have := h.ch0; have := h.ch1; have := h.pad0; have := h.pad1; have := h.pitch0; have := h.pitch1; have := h.vol0; have := h.vol1; have := h.time0; have := h.time1
 unfold ld
 split
 ·omega
 split
 ·split
  ·omega
  ·exact lbb _ _
 split
 ·exact lbb _ _
 split
 ·exact lbb _ _
 unfold pt
 repeat' split
 all_goals omega
def cl (m : MS) (z : Int) : Int := ld m z + 256 * ld m ((z + 1) % 65536)
theorem cell_any (b : Nat) (z : Int) (h0 : 0 <= z) (h1 : z < 65536) (w : World) {F : Nat -> Prop} {m : MS} (hm : HasM w F b m) :
  Calls Tryz.prog 112 #[.pointer (some ⟨b, 0, none⟩), .int .u16 z] w fun e w' => e = .returned (.int .u16 (cl m z)) /\ ∃ q, w' = w.drewN q := by
 have hl := load_any b z h0 h1 w hm
 have hwf : Wf m := by obtain ⟨_, _, _, h⟩ := hm; exact h.wf
 have l1 := (ld_bound m hwf z)
 have l2 := (ld_bound m hwf ((z + 1) % 65536))
 have e1 := u16_wrap (z + 1)
 go_enter Tryz.func112, Tryz.ntmps112
 go_wp2_with fail
 refine hl.mono ?_
 rintro e w1 ⟨rfl, q, rfl⟩
 have hl2 := load_any b ((z + 1) % 65536) (by omega) (by omega) (w.drewN q) (hm.drew q)
 go_wp2_with fail
 refine hl2.mono ?_
 rintro e w1 ⟨rfl, q1, rfl⟩
 have e3 : ∀ y, IntKind.u16.wrap (ld m z + y) = (ld m z + y) % 65536 := fun y => u16_wrap _
 go_wp2
 go_ret
 refine ⟨congrArg Ending.returned (congrArg (Value.int .u16) ?_), _, rfl⟩
 unfold cl
 omega
theorem ofInt16 (a : Nat) (h : a < 65536) : (BitVec.ofInt 16 (a : Int)).toNat = a := by
 rw [BitVec.ofInt_natCast, BitVec.toNat_ofNat]; exact Nat.mod_eq_of_lt (by omega)
theorem or16 (a b : Nat) (ha : a < 65536) (hb : b < 65536) : bits .or .u16 (a : Int) (b : Int) = ((a ||| b : Nat) : Int) := by
 have hx : a ||| b < 2 ^ 16 := Nat.or_lt_two_pow (by omega) (by omega)
 show IntKind.u16.wrap ((BitVec.ofInt 16 (a : Int) ||| BitVec.ofInt 16 (b : Int)).toNat : Int) = _
 rw [BitVec.toNat_or, ofInt16 a ha, ofInt16 b hb, u16_wrap]
 omega
theorem and16 (a b : Nat) (ha : a < 65536) (hb : b < 65536) : bits .and .u16 (a : Int) (b : Int) = ((a &&& b : Nat) : Int) := by
 have hx : a &&& b < 2 ^ 16 := Nat.and_lt_two_pow _ (by omega)
 show IntKind.u16.wrap ((BitVec.ofInt 16 (a : Int) &&& BitVec.ofInt 16 (b : Int)).toNat : Int) = _
 rw [BitVec.toNat_and, ofInt16 a ha, ofInt16 b hb, u16_wrap]
 omega
theorem and_high (p : Nat) (h : p < 65536) : p &&& 65280 = (p / 256) <<< 8 := by
 apply Nat.eq_of_testBit_eq
 intro i
 rw [show (65280 : Nat) = (2 ^ 8 - 1) <<< 8 from rfl, Nat.testBit_and, Nat.testBit_shiftLeft, Nat.testBit_shiftLeft, Nat.testBit_two_pow_sub_one, show p / 256 = p >>> 8 by rw [Nat.shiftRight_eq_div_pow], Nat.testBit_shiftRight]
 by_cases h1 : 8 <= i
 ·by_cases h2 : i - 8 < 8
  ·simp [h1, h2, show 8 + (i - 8) = i by omega]
  ·have hp : p.testBit i = false := Nat.testBit_lt_two_pow (Nat.lt_of_lt_of_le h (Nat.pow_le_pow_right (n := 2) (by decide) (show 16 <= i by omega)))
   simp [h1, h2, show 8 + (i - 8) = i by omega, hp]
 ·simp [h1]
theorem and_low (p : Nat) : p &&& 255 = p % 256 := Nat.and_two_pow_sub_one_eq_mod p 8
theorem set_lo (p x : Int) (h0 : 0 <= p) (h1 : p < 65536) (x0 : 0 <= x) (x1 : x < 256) : bits .or .u16 (bits .and .u16 p 65280) x = p / 256 * 256 + x := by
 obtain ⟨a, rfl⟩ := Int.eq_ofNat_of_zero_le h0
 obtain ⟨c, rfl⟩ := Int.eq_ofNat_of_zero_le x0
 have e := and16 a 65280 (by omega) (by omega)
 rw [show ((65280 : Nat) : Int) = 65280 from rfl] at e
 have hs : (a / 256) <<< 8 = a / 256 * 256 := Nat.shiftLeft_eq _ _
 rw [e, and_high a (by omega), or16 _ c (by rw [hs]; omega) (by omega), <- Nat.shiftLeft_add_eq_or_of_lt (by omega), hs]
 omega
theorem set_hi (p x : Int) (h0 : 0 <= p) (h1 : p < 65536) (x0 : 0 <= x) (x1 : x < 256) : bits .or .u16 (bits .and .u16 p 255) (x * 256) = p % 256 + 256 * x := by
 obtain ⟨a, rfl⟩ := Int.eq_ofNat_of_zero_le h0
 obtain ⟨c, rfl⟩ := Int.eq_ofNat_of_zero_le x0
 have e := and16 a 255 (by omega) (by omega)
 rw [show ((255 : Nat) : Int) = 255 from rfl] at e
 have hs : c <<< 8 = c * 256 := Nat.shiftLeft_eq _ _
 have e2 : (c : Int) * (256 : Int) = ((c <<< 8 : Nat) : Int) := by rw [hs]; exact (Int.natCast_mul c 256).symm
 rw [e, and_low, e2, or16 _ _ (by omega) (by rw [hs]; omega), Nat.or_comm, <- Nat.shiftLeft_add_eq_or_of_lt (by omega), hs]
 omega
def bt (x : UInt8) : Int := (x.toNat : Int)
theorem bt_bound (x : UInt8) : 0 <= bt x /\ bt x < 256 := ⟨by unfold bt; omega, by unfold bt; have := x.toNat_lt; omega⟩
def upd (f : Nat -> Option (List UInt8)) (n : Nat) (l : List UInt8) (k : Nat) : Option (List UInt8) := if k = n then some l else f k
def stp (m : MS) (z : Int) (x : UInt8) : MS :=
  if z = 65280 then { m with ch := bt x % 16 } else if z = 65284 then { m with pitch := m.pitch / 256 * 256 + bt x }
  else if z = 65285 then { m with pitch := m.pitch % 256 + 256 * bt x } else if z = 65286 then { m with vol := bt x, tones := m.tones ++ [(m.cyc, m.pitch, bt x)] } else m
def st (m : MS) (z : Int) (x : UInt8) : MS :=
  if z < 16384 then m else if z < 32768 then (match m.banks m.ch.toNat with | none => m | some l => { m with banks := upd m.banks m.ch.toNat (l.set (z - 16384).toNat x) })
  else if z < 49152 then { m with ram := m.ram.set (z - 32768).toNat x } else if z < 52224 then { m with scr := m.scr.set (z - 49152).toNat x } else stp m z x
theorem MemP.ne_map {W : World} {F : Nat -> Prop} {b : Nat} {m : MS} {mb : Nat} {L : List (Nat × Nat)} {tv : Value} (h : MemP W F b m mb L tv) : mb ≠ b := by
  rintro rfl; have := h.blk; rw [h.map] at this; cases this
theorem MemP.ne_bk {W : World} {F : Nat -> Prop} {b : Nat} {m : MS} {mb : Nat} {L : List (Nat × Nat)} {tv : Value} (h : MemP W F b m mb L tv) (p : Nat × Nat) (hp : p ∈ L) : p.2 ≠ b := by
  intro e; obtain ⟨l, _, k⟩ := h.bks p hp; have := h.blk; rw [<- e, k] at this; simp at this
theorem own_block {W : World} {B : Nat} {e : TypeId} {size : Nat} {v : Value} {n : Nat} {xs : List Value} (h : W.ownsRow B e size v n xs) (g : Nat) (hg : v.ownBlock = some g) : ∃ cur, W.heap[g]? = some (.cells cur e (0, 0)) := by
  rcases h.2 with ⟨rfl, _⟩ | ⟨g', cap, cur, rfl, _, h3, _⟩
  · simp [Value.ownBlock] at hg
  · simp [Value.ownBlock] at hg; subst hg; exact ⟨cur, h3⟩
theorem MemP.ne_t {W : World} {F : Nat -> Prop} {b : Nat} {m : MS} {mb : Nat} {L : List (Nat × Nat)} {tv : Value} (h : MemP W F b m mb L tv) (g : Nat) (hg : tv.ownBlock = some g) : g ≠ b := by
  rintro rfl; obtain ⟨cur, e⟩ := own_block h.tones g hg; have := h.blk; rw [e] at this; simp at this
theorem MemP.ne_t_bk {W : World} {F : Nat -> Prop} {b : Nat} {m : MS} {mb : Nat} {L : List (Nat × Nat)} {tv : Value} (h : MemP W F b m mb L tv) (g : Nat) (hg : tv.ownBlock = some g) (p : Nat × Nat) (hp : p ∈ L) : p.2 ≠ g := by
  rintro rfl; obtain ⟨cur, e⟩ := own_block h.tones _ hg; obtain ⟨l, _, k⟩ := h.bks p hp; unfold Bk at k; rw [e] at k; simp at k
theorem MemP.ne_t_map {W : World} {F : Nat -> Prop} {b : Nat} {m : MS} {mb : Nat} {L : List (Nat × Nat)} {tv : Value} (h : MemP W F b m mb L tv) (g : Nat) (hg : tv.ownBlock = some g) : mb ≠ g := by
  rintro rfl; obtain ⟨cur, e⟩ := own_block h.tones _ hg; have := h.map; rw [e] at this; cases this
theorem MemP.ne_bk_map {W : World} {F : Nat -> Prop} {b : Nat} {m : MS} {mb : Nat} {L : List (Nat × Nat)} {tv : Value} (h : MemP W F b m mb L tv) (p : Nat × Nat) (hp : p ∈ L) : mb ≠ p.2 := by
  intro e; obtain ⟨l, _, k⟩ := h.bks p hp; have := h.map; rw [e, k] at this; cases this
theorem MemP.set {W : World} {F : Nat -> Prop} {b : Nat} {m : MS} {mb : Nat} {L : List (Nat × Nat)} {tv : Value} (h : MemP W F b m mb L tv) (i : Nat) (v : Value) (m' : MS) (wf : Wf m')
    (hr : (mcells mb m tv).set i v = mcells mb m' tv) (e3 : m'.banks = m.banks) (e4 : m'.tones = m.tones) : MemP (W.setCell ⟨b, i, none⟩ v) F b m' mb L tv :=
  { wf := wf
    blk := by rw [<- hr]; exact setCell_heap W b i _ 122 v h.blk
    map := (setCell_other _ _ _ _ _ h.ne_map).trans h.map
    keys := h.keys
    lt16 := h.lt16
    blks := h.blks
    bks := fun p hp => by obtain ⟨l, e1, e2⟩ := h.bks p hp; exact ⟨l, by rw [e3]; exact e1, (setCell_other _ _ _ _ _ (h.ne_bk p hp)).trans e2⟩
    all := fun n l hn => h.all n l (by rw [<- e3]; exact hn)
    tones := by rw [e4]; exact own_kept h.tones fun g e _ => setCell_other _ _ _ _ _ (h.ne_t g e)
    fb := h.fb
    fmb := h.fmb
    fbk := h.fbk
    ft := h.ft }
theorem MemP.reg {W : World} {F : Nat -> Prop} {b : Nat} {m : MS} {mb : Nat} {L : List (Nat × Nat)} {tv : Value} (h : MemP W F b m mb L tv) (i : Nat) (v : Value) (m' : MS) (wf : Wf m')
    (hr : (regs m tv).set i v = regs m' tv) (e1 : m'.ram = m.ram) (e2 : m'.scr = m.scr) (e3 : m'.banks = m.banks) (e4 : m'.tones = m.tones) : MemP (W.setCell ⟨b, 19457 + i, none⟩ v) F b m' mb L tv :=
  h.set (19457 + i) v m' wf (by rw [mcells_set_reg mb m tv h.wf, hr, <- e1, <- e2]; rfl) e3 e4
theorem inj_on (f : Nat × Nat -> Nat) : ∀ (M : List (Nat × Nat)), (M.map f).Nodup -> ∀ x ∈ M, ∀ y ∈ M, f x = f y -> x = y
  | [], _, x, hx, _, _, _ => by cases hx
  | q :: M, hd, x, hx, y, hy, e => by
    simp only [List.map_cons, List.nodup_cons, List.mem_map, not_exists, not_and] at hd
    rcases List.mem_cons.1 hx with hx' | hx' <;> rcases List.mem_cons.1 hy with hy' | hy'
    · rw [hx', hy']
    · subst hx'; exact absurd e.symm (hd.1 y hy')
    · subst hy'; exact absurd e (hd.1 x hx')
    · exact inj_on f M hd.2 x hx' y hy' e
theorem Wf.bank {m : MS} (h : Wf m) (n i : Nat) (l : List UInt8) (x : UInt8) (hn : m.banks n = some l) : Wf { m with banks := upd m.banks n (l.set i x) } := by
  refine ⟨h.ram, h.scr, h.ch0, h.ch1, h.pad0, h.pad1, h.pitch0, h.pitch1, h.vol0, h.vol1, h.time0, h.time1, ?_⟩
  intro k l' e
  simp only [upd] at e
  split at e
  · next c => subst c; cases e; exact ⟨(h.bk _ _ hn).1, by simp [(h.bk _ _ hn).2]⟩
  · exact h.bk k l' e
theorem MemP.bank {W : World} {F : Nat -> Prop} {b : Nat} {m : MS} {mb : Nat} {L : List (Nat × Nat)} {tv : Value} (h : MemP W F b m mb L tv) (n g : Nat) (l : List UInt8) (i : Nat) (x : UInt8) (hg : (n, g) ∈ L) (hn : m.banks n = some l) :
    MemP (W.setCell ⟨g, i, none⟩ (.int .u8 (bt x))) F b { m with banks := upd m.banks n (l.set i x) } mb L tv := by
  have hk : Bk W g l := by obtain ⟨l', e1, e2⟩ := h.bks _ hg; rw [hn] at e1; cases e1; exact e2
  refine ⟨h.wf.bank n i l x hn, (setCell_other _ _ _ _ _ (h.ne_bk _ hg).symm).trans h.blk, (setCell_other _ _ _ _ _ (h.ne_bk_map _ hg)).trans h.map, h.keys, h.lt16, h.blks, ?_, ?_,
    own_kept h.tones fun k e _ => setCell_other _ _ _ _ _ (h.ne_t_bk k e _ hg).symm, h.fb, h.fmb, h.fbk, h.ft⟩
  · intro p hp
    obtain ⟨l', e1, e2⟩ := h.bks p hp
    by_cases e : p.1 = n
    · have hpg : p = (n, g) := inj_on Prod.fst L h.keys _ hp _ hg e
      subst hpg
      exact ⟨l.set i x, by simp [upd], by unfold Bk; rw [<- bv_set]; exact setCell_heap W _ _ _ 119 _ hk⟩
    · have hne : p.2 ≠ g := by
        intro c
        have := inj_on Prod.snd L h.blks p hp (n, g) hg c
        subst this; exact e rfl
      exact ⟨l', by simp only [upd, e, if_false]; exact e1, (setCell_other _ _ _ _ _ hne).trans e2⟩
  · intro k l' e
    simp only [upd] at e
    split at e
    · next c => subst c; exact ⟨g, hg⟩
    · exact h.all k l' e
theorem step_append_row {ops : Array Oper} {o : Oper} {a : Act} {w : World} {K : Act -> World -> Prop} {Q : Exit -> Act -> World -> Prop} {E : Prop} (hgd : o.guard = none) (s x : Operand) (t e : TypeId) (z : Value) (size bytes : Nat)
    (ht : Tryz.prog.underlying t = some (.slice e)) (hinf : (Tryz.prog.info? e).map (fun i => (i.zero, i.size, i.bytes)) = some (some z, size, bytes)) (hzs : z.cells.size = size) (hsz : 0 < size)
    (ho : o.op = .call { callee := .builtin .append, args := #[s, x], argTypes := #[t, t] }) (B : Nat) (v : Value) (n : Nat) (xs : List Value) (hs : a.eval s = v) (hown : w.ownsRow B e size v n xs)
    (u : Value) (m : Nat) (news : List Value) (hx : a.eval x = u) (hp : Cs w u size m news) (hb : (n + m) * bytes <= room) (hb2 : n + m <= maxLen) (hB : B <= w.heap.size)
    (h : ∀ v' w', w'.ownsRow B e size v' (n + m) (xs ++ news) -> Grew w w' v v' -> K (a.put o.dst v') w') :
    if Region.wanted o (yielded ops a.tmps) = true then Oper.wp Tryz.prog o a w K Q else E := by
  have hw : Region.wanted o (yielded ops a.tmps) = true := by simp [Region.wanted, hgd]
  rw [if_pos hw]
  exact wp_append_row w s x t e z size bytes ht hinf hzs hsz ho B v n xs hs hown u m news hx hp hb hb2 hB h
theorem info90 : (Tryz.prog.info? 117).map (fun i => (i.zero, i.size, i.bytes)) = some (some (.agg #[.int .i64 0, .int .u16 0, .int .u8 0]), 3, 16) := by kernel_rfl
def Done (w w' : World) (F : Nat -> Prop) (b : Nat) (m' : MS) : Prop := HasM w' (gr F w w') b m' /\ Tc F w w'
theorem Done.same {w : World} {F : Nat -> Prop} {b : Nat} {m : MS} (h : HasM w F b m) (q : Nat) : Done w (w.drewN q) F b m :=
  ⟨(h.drew q).mono fun i _ f => .inl f, ⟨rfl, rfl, rfl, Nat.le_refl _, fun _ _ _ => rfl⟩⟩
theorem MemP.drew {W : World} {F : Nat -> Prop} {b : Nat} {m : MS} {mb : Nat} {L : List (Nat × Nat)} {tv : Value} (h : MemP W F b m mb L tv) (q : Nat) : MemP (W.drewN q) F b m mb L tv := h.kept fun _ _ _ => rfl
theorem Done.set {w : World} {F : Nat -> Prop} {b : Nat} {m' : MS} {mb : Nat} {L : List (Nat × Nat)} {tv : Value} (q g i : Nat) (v : Value) (hg : F g) (h : MemP ((w.drewN q).setCell ⟨g, i, none⟩ v) F b m' mb L tv) : Done w ((w.drewN q).setCell ⟨g, i, none⟩ v) F b m' :=
  ⟨⟨mb, L, tv, h.mono fun i _ f => .inl f⟩, ⟨rfl, rfl, rfl, by rw [setCell_size]; exact Nat.le_refl _, fun k hk hn => setCell_other _ _ _ _ _ (by rintro rfl; exact hn hg)⟩⟩
set_option maxHeartbeats 1000000
set_option maxRecDepth 100000
theorem setPort_none (b : Nat) (z : Int) (x : UInt8) (w : World) (a0 : z ≠ 65280) (a1 : z ≠ 65284) (a2 : z ≠ 65285) (a3 : z ≠ 65286) :
    Calls Tryz.prog 143 #[.pointer (some ⟨b, 0, none⟩), .int .u16 z, .int .u8 (bt x)] w fun e w' => e = .returned (.tuple #[]) /\ w' = w := by
  have f0 : (z == 65280) = false := by simpa using a0
  have f1 : (z == 65284) = false := by simpa using a1
  have f2 : (z == 65285) = false := by simpa using a2
  have f3 : (z == 65286) = false := by simpa using a3
  go_enter Tryz.func143, Tryz.ntmps143
  go_wp2
  go_end0
  exact ⟨rfl, rfl⟩
theorem Wf.regs {m m' : MS} (h : Wf m) (e1 : m'.ram = m.ram) (e2 : m'.scr = m.scr) (e3 : m'.banks = m.banks) (a0 : 0 <= m'.ch) (a1 : m'.ch < 16) (b0 : 0 <= m'.pad) (b1 : m'.pad < 256) (c0 : 0 <= m'.pitch) (c1 : m'.pitch < 65536) (d0 : 0 <= m'.vol) (d1 : m'.vol < 256) (f0 : 0 <= m'.time) (f1 : m'.time < 65536) : Wf m' :=
  ⟨by rw [e1]; exact h.ram, by rw [e2]; exact h.scr, a0, a1, b0, b1, c0, c1, d0, d1, f0, f1, by rw [e3]; exact h.bk⟩
theorem setPort_ch (b : Nat) (x : UInt8) (w : World) {F : Nat -> Prop} {m : MS} (hm : HasM w F b m) :
    Calls Tryz.prog 143 #[.pointer (some ⟨b, 0, none⟩), .int .u16 65280, .int .u8 (bt x)] w fun e w' => e = .returned (.tuple #[]) /\ Done w w' F b (stp m 65280 x) := by
  obtain ⟨mb, L, tv, hm⟩ := hm
  have c2 := cell_of w b (19457 + 0) _ 122 _ hm.blk ((mcells_reg mb m tv hm.wf 0).trans rfl)
  have z2 := frozen_of w b (19457 + 0) _ 122 hm.blk
  simp only [Nat.add_zero] at c2 z2
  have hb := bt_bound x
  go_enter Tryz.func143, Tryz.ntmps143
  go_wp2
  go_end0
  refine ⟨rfl, ?_⟩
  have hw := hm.wf
  have e : stp m 65280 x = { m with ch := bt x % 16 } := by simp [stp]
  rw [e]
  refine Done.set 0 b (19457 + 0) (.int .u8 (bt x % 16)) hm.fb ((hm.drew 0).reg 0 _ _ (hw.regs rfl rfl rfl ?_ ?_ hw.pad0 hw.pad1 hw.pitch0 hw.pitch1 hw.vol0 hw.vol1 hw.time0 hw.time1) rfl rfl rfl rfl rfl) <;> simp only <;> omega
theorem setPort_lo (b : Nat) (x : UInt8) (w : World) {F : Nat -> Prop} {m : MS} (hm : HasM w F b m) :
    Calls Tryz.prog 143 #[.pointer (some ⟨b, 0, none⟩), .int .u16 65284, .int .u8 (bt x)] w fun e w' => e = .returned (.tuple #[]) /\ Done w w' F b (stp m 65284 x) := by
  obtain ⟨mb, L, tv, hm⟩ := hm
  have c2 := cell_of w b (19457 + 2) _ 122 _ hm.blk ((mcells_reg mb m tv hm.wf 2).trans rfl)
  have z2 := frozen_of w b (19457 + 2) _ 122 hm.blk
  simp only [Nat.reduceAdd] at c2 z2
  have hb := bt_bound x
  have hp0 := hm.wf.pitch0
  have hp1 := hm.wf.pitch1
  have e1 : IntKind.u16.wrap (bt x) = bt x := by rw [u16_wrap]; omega
  have e2 := set_lo m.pitch (bt x) hp0 hp1 hb.1 hb.2
  go_enter Tryz.func143, Tryz.ntmps143
  go_wp2
  go_end0
  refine ⟨rfl, ?_⟩
  have hw := hm.wf
  have e : stp m 65284 x = { m with pitch := m.pitch / 256 * 256 + bt x } := by simp [stp]
  rw [e]
  refine Done.set 0 b (19457 + 2) (.int .u16 (m.pitch / 256 * 256 + bt x)) hm.fb ((hm.drew 0).reg 2 _ _ (hw.regs rfl rfl rfl hw.ch0 hw.ch1 hw.pad0 hw.pad1 ?_ ?_ hw.vol0 hw.vol1 hw.time0 hw.time1) rfl rfl rfl rfl rfl) <;> simp only <;> omega
theorem setPort_hi (b : Nat) (x : UInt8) (w : World) {F : Nat -> Prop} {m : MS} (hm : HasM w F b m) :
    Calls Tryz.prog 143 #[.pointer (some ⟨b, 0, none⟩), .int .u16 65285, .int .u8 (bt x)] w fun e w' => e = .returned (.tuple #[]) /\ Done w w' F b (stp m 65285 x) := by
  obtain ⟨mb, L, tv, hm⟩ := hm
  have c2 := cell_of w b (19457 + 2) _ 122 _ hm.blk ((mcells_reg mb m tv hm.wf 2).trans rfl)
  have z2 := frozen_of w b (19457 + 2) _ 122 hm.blk
  simp only [Nat.reduceAdd] at c2 z2
  have hb := bt_bound x
  have hp0 := hm.wf.pitch0
  have hp1 := hm.wf.pitch1
  have e1 : IntKind.u16.wrap (bt x) = bt x := by rw [u16_wrap]; omega
  have e2 := set_hi m.pitch (bt x) hp0 hp1 hb.1 hb.2
  go_enter Tryz.func143, Tryz.ntmps143
  go_wp2
  go_end0
  refine ⟨rfl, ?_⟩
  have hw := hm.wf
  have e : stp m 65285 x = { m with pitch := m.pitch % 256 + 256 * bt x } := by simp [stp]
  rw [e]
  refine Done.set 0 b (19457 + 2) (.int .u16 (m.pitch % 256 + 256 * bt x)) hm.fb ((hm.drew 0).reg 2 _ _ (hw.regs rfl rfl rfl hw.ch0 hw.ch1 hw.pad0 hw.pad1 ?_ ?_ hw.vol0 hw.vol1 hw.time0 hw.time1) rfl rfl rfl rfl rfl) <;> simp only <;> omega
theorem MemP.tone {W W1 W2 : World} {F : Nat -> Prop} {b : Nat} {m : MS} {mb : Nat} {L : List (Nat × Nat)} {tv tv' : Value} (h : MemP W F b m mb L tv) (hb : Below W.heap.size W W1) (hg : Grew W1 W2 tv tv') (t : Int × Int × Int)
    (ho : W2.ownsRow 0 117 3 tv' (m.tones.length + 1) (tc m.tones ++ tcell t)) :
    MemP (W2.setCell ⟨b, 19463, none⟩ tv') (gr F W W2) b { m with tones := m.tones ++ [t] } mb L tv' /\ Tc F W (W2.setCell ⟨b, 19463, none⟩ tv') := by
  have k2 : ∀ k, k < W.heap.size -> some k ≠ tv.ownBlock -> W2.heap[k]? = W.heap[k]? := fun k hk hn => (hg.block k (Nat.lt_of_lt_of_le hk hb.size) hn).trans (hb.block k hk)
  have nt : ∀ k, k < W.heap.size -> (∀ g, tv.ownBlock = some g -> k ≠ g) -> some k ≠ tv.ownBlock := fun k _ hn e => hn k e.symm rfl
  have hwf : Wf { m with tones := m.tones ++ [t] } := ⟨h.wf.ram, h.wf.scr, h.wf.ch0, h.wf.ch1, h.wf.pad0, h.wf.pad1, h.wf.pitch0, h.wf.pitch1, h.wf.vol0, h.wf.vol1, h.wf.time0, h.wf.time1, h.wf.bk⟩
  have blk2 : W2.heap[b]? = some (.cells (mcells mb m tv).toArray 122 (0, 0)) := (k2 b (lt_of h.blk) (nt b (lt_of h.blk) fun g e c => h.ne_t g e c.symm)).trans h.blk
  have hne : ∀ g, tv'.ownBlock = some g -> g ≠ b := by
    intro g e c; subst c
    obtain ⟨cur, e2⟩ := own_block ho g e
    rw [blk2] at e2; simp at e2
  refine ⟨⟨hwf, ?_, ?_, h.keys, h.lt16, h.blks, ?_, h.all, ?_, .inl h.fb, .inl h.fmb, fun p hp => .inl (h.fbk p hp), ?_⟩, ?_⟩
  · rw [setCell_heap W2 b 19463 _ 122 tv' blk2]
    have := mcells_set_reg mb m tv h.wf 6 tv'
    rw [show (19463 : Nat) = 19457 + 6 from rfl, this]
    rfl
  · exact (setCell_other _ _ _ _ _ h.ne_map).trans ((k2 mb (lt_of h.map) (nt mb (lt_of h.map) fun g e c => h.ne_t_map g e c)).trans h.map)
  · intro p hp
    obtain ⟨l, e1, e2⟩ := h.bks p hp
    exact ⟨l, e1, (setCell_other _ _ _ _ _ (h.ne_bk p hp)).trans ((k2 p.2 (lt_of e2) (nt p.2 (lt_of e2) fun g e c => h.ne_t_bk g e p hp c)).trans e2)⟩
  · refine own_kept ?_ fun g e _ => setCell_other _ _ _ _ _ (hne g e)
    rw [tc_append]
    simpa [tc] using ho
  · intro g e
    rcases hg.own with c | c
    · exact .inl (h.ft g (c ▸ e))
    · refine .inr ⟨Nat.le_trans hb.size (c g e), ?_⟩
      exact (ho.lt g e).2
  · refine ⟨hg.os.trans hb.os, hg.tape.trans hb.tape, hg.output.trans hb.output, by rw [setCell_size]; exact Nat.le_trans hb.size hg.size, fun k hk hn => ?_⟩
    refine (setCell_other _ _ _ _ _ (by rintro rfl; exact hn h.fb)).trans (k2 k hk ?_)
    intro e; exact hn (h.ft k e.symm)
set_option maxHeartbeats 1000000
set_option maxRecDepth 100000
theorem setPort_play (b : Nat) (x : UInt8) (w : World) {F : Nat -> Prop} {m : MS} (hm : HasM w F b m) (ht : m.tones.length <= 1000000) :
    Calls Tryz.prog 143 #[.pointer (some ⟨b, 0, none⟩), .int .u16 65286, .int .u8 (bt x)] w fun e w' => e = .returned (.tuple #[]) /\ Done w w' F b (stp m 65286 x) := by
  obtain ⟨mb, L, tv, hm⟩ := hm
  have c2 := cell_of w b (19457 + 3) _ 122 _ hm.blk ((mcells_reg mb m tv hm.wf 3).trans rfl)
  have z2 := frozen_of w b (19457 + 3) _ 122 hm.blk
  simp only [Nat.reduceAdd] at c2 z2
  have hb := bt_bound x
  have hw := hm.wf
  have h1 : MemP (w.setCell ⟨b, 19457 + 3, none⟩ (.int .u8 (bt x))) F b { m with vol := bt x } mb L tv := hm.reg 3 _ _ (hw.regs rfl rfl rfl hw.ch0 hw.ch1 hw.pad0 hw.pad1 hw.pitch0 hw.pitch1 hb.1 hb.2 hw.time0 hw.time1) rfl rfl rfl rfl rfl
  obtain ⟨w1, hw1⟩ : ∃ w1, w1 = w.setCell ⟨b, 19460, none⟩ (.int .u8 (bt x)) := ⟨_, rfl⟩
  have t1 : Tc F w w1 := by rw [hw1]; exact (Tc.refl F w).setCell b _ hm.fb _
  simp only [Nat.reduceAdd, <- hw1] at h1
  have d2 := cell_of w1 b (19457 + 2) _ 122 _ h1.blk ((mcells_reg mb _ tv h1.wf 2).trans rfl)
  have d5 := cell_of w1 b (19457 + 5) _ 122 _ h1.blk ((mcells_reg mb _ tv h1.wf 5).trans rfl)
  have d6 := cell_of w1 b (19457 + 6) _ 122 _ h1.blk ((mcells_reg mb _ tv h1.wf 6).trans rfl)
  have z6 := frozen_of w1 b (19457 + 6) _ 122 h1.blk
  simp only [Nat.reduceAdd] at d2 d5 d6 z6
  go_enter Tryz.func143, Tryz.ntmps143
  go_wp2_with fail
  rw [<- hw1]
  clear c2 z2
  obtain ⟨W1, hW1⟩ : ∃ W1, W1 = w1.drew.alloc (.cells #[.int .i64 m.cyc, .int .u16 m.pitch, .int .u8 (bt x)] 117) := ⟨_, rfl⟩
  have hbl : Below w1.heap.size w1 W1 := by rw [hW1]; exact ((Below.refl w1.heap.size w1).drew).alloc (Nat.le_refl _) _
  have hown : (w1.drew.alloc (.cells #[.int .i64 m.cyc, .int .u16 m.pitch, .int .u8 (bt x)] 117)).ownsRow 0 117 3 tv m.tones.length (tc m.tones) := by
    rw [<- hW1]; exact own_kept h1.tones fun g _ hg => hbl.block g hg
  have hcs : Cs (w1.drew.alloc (.cells #[.int .i64 m.cyc, .int .u16 m.pitch, .int .u8 (bt x)] 117)) (.slice (some ⟨w1.heap.size, 0, none⟩) 1 1) 3 1 (tcell (m.cyc, m.pitch, bt x)) := by
    refine .inr ⟨⟨w1.heap.size, 0, none⟩, 1, rfl, rfl, ?_, tc_one [(m.cyc, m.pitch, bt x)]⟩
    intro j v hj
    have hn : (w1.drew.alloc (.cells #[.int .i64 m.cyc, .int .u16 m.pitch, .int .u8 (bt x)] 117)).heap[w1.heap.size]? = some (.cells (tcell (m.cyc, m.pitch, bt x)).toArray 117 (0, 0)) := heap_alloc_new w1.drew _
    have e : (⟨w1.heap.size, 0, none⟩ : Addr).add j = ⟨w1.heap.size, j, none⟩ := by unfold Addr.add; split <;> simp_all
    rw [e]
    exact cell_of _ _ _ _ 117 v hn hj
  have b1 : (m.tones.length + 1) * 16 <= room := by unfold room; omega
  have b2 : m.tones.length + 1 <= maxLen := by unfold maxLen; omega
  have hne : ∀ g, tv.ownBlock = some g -> g ≠ b := fun g e => h1.ne_t g e
  have hend : ∀ v' w2, w2.ownsRow 0 117 3 v' (m.tones.length + 1) (tc m.tones ++ tcell (m.cyc, m.pitch, bt x)) -> Grew (w1.drew.alloc (.cells #[.int .i64 m.cyc, .int .u16 m.pitch, .int .u8 (bt x)] 117)) w2 tv v' ->
      w2.cell? ⟨b, 19463, none⟩ = some tv /\ w2.frozen? ⟨b, 19463, none⟩ = false /\ Done w (w2.setCell ⟨b, 19463, none⟩ v') F b (stp m 65286 x) := by
    intro v' w2 ho hg
    rw [<- hW1] at hg
    have hk : w2.heap[b]? = w1.heap[b]? := (hg.block b (Nat.lt_of_lt_of_le (lt_of h1.blk) hbl.size) (fun e => hne b e.symm rfl)).trans (hbl.block b (lt_of h1.blk))
    refine ⟨(World.cell?_of_block (w := w1) hk).trans d6, (World.frozen?_of_block (w := w1) hk).trans z6, ?_⟩
    obtain ⟨hM, hT⟩ := h1.tone hbl hg (m.cyc, m.pitch, bt x) ho
    have e : stp m 65286 x = { m with vol := bt x, tones := m.tones ++ [(m.cyc, m.pitch, bt x)] } := by simp [stp]
    rw [e]
    refine ⟨⟨_, _, _, hM.mono ?_⟩, t1.trans hT (fun _ f => f) (fun _ _ f => f)⟩
    intro i hi g
    rcases g with g | ⟨g1, g2⟩
    · exact .inl g
    · refine .inr ⟨Nat.le_trans t1.size g1, hi⟩
  have d6a : (w1.alloc (.cells #[.int .i64 m.cyc, .int .u16 m.pitch, .int .u8 (bt x)] 117)).cell? ⟨b, 19463, none⟩ = some tv := (World.cell?_of_block (w := w1) (Below.heap_alloc w1 _ b (lt_of h1.blk))).trans d6
  clear hW1 hw1 hbl hne h1 t1 hw hm
  go_region_law
    (refine step_append_row rfl (.tmp 51) (.tmp 62) 26 117 (.agg #[.int .i64 0, .int .u16 0, .int .u8 0]) 3 16 Tryz.underlying26 info90 rfl (by decide) rfl 0 tv m.tones.length (tc m.tones) (by simp [Act.eval]) hown (.slice (some ⟨w1.heap.size, 0, none⟩) 1 1) 1 (tcell (m.cyc, m.pitch, bt x)) (by simp [Act.eval]) hcs b1 b2 (Nat.zero_le _) ?_; intro v' w2 ho hg; obtain ⟨g9, cap9, rfl⟩ := own_pos ho (Nat.succ_pos m.tones.length); obtain ⟨f6, g6, hD⟩ := hend (.slice (some ⟨g9, 0, none⟩) (m.tones.length + 1) cap9) w2 ho hg; clear hend)
  all_goals
    go_wp2
    go_end0
    exact ⟨rfl, hD⟩
end Go.Proofs.YtoemoiehjdmheaaGreat.M
