import Derived.Test.YteldjmecomngeaaGreatVRxK
import Derived.Test.YteldjmecomngeaaGreatVROp
import Derived.Deep.RegionHeld
import Derived.Deep.QuietTactic
namespace Go.Proofs.YteldjmecomngeaaGreat.V
open Go.RowKit
open Go.Proofs
set_option linter.unusedVariables false
set_option linter.unusedSimpArgs false
set_option maxHeartbeats 1000000
set_option maxRecDepth 100000
theorem RX.drewN {W : World} {g b : Nat} {kv dv rv : Value} {F : Nat -> Prop} {v : VS} (h : RX W g b kv dv rv F v) (q : Nat) : RX (W.drewN q) g b kv dv rv F v := h.below ⟨rfl, rfl, rfl, Nat.le_refl _, fun _ _ => rfl⟩
theorem rcel_any (g b : Nat) (kv dv rv : Value) (F : Nat -> Prop) (v : VS) (a : Int) (ha : C.C a) (W : World) (h : RX W g b kv dv rv F v) :
  Calls Tryz.prog 100 #[.pointer (some ⟨g, 0, none⟩), .int .u16 a] W fun e W' => e = .returned (.tuple #[.int .u16 ((cel v.code a).getD 0), .bool (cel v.code a).isSome]) /\ ∃ q, W' = W.drewN q := by
 obtain ⟨a0, a1⟩ := ha
 have hl := h.clen
 have hcd := h.code
 have c0 := h.c0
 have ht : a.tmod 2 = a % 2 := Int.tmod_eq_emod_of_nonneg a0
 have ew : IntKind.i64.wrap (a + 1) = a + 1 := S.i64_id _ (by omega) (by omega)
 have ew2 : IntKind.i64.wrap (a + 2) = a + 2 := S.i64_id _ (by omega) (by omega)
 have w1 : wrap64 a = a := by simp [wrap64]; omega
 have w2 : wrap64 (a + 1) = a + 1 := by simp [wrap64]; omega
 have w3 : wrap64 (a + 2) = a + 2 := by simp [wrap64]; omega
 have eu : IntKind.u16.wrap (a.tmod 2) = a.tmod 2 := by rw [M.u16_wrap, ht]; omega
 by_cases h1 : a % 2 = 0
 case neg =>
  have hN : cel v.code a = none := by unfold cel; rw [if_neg (by omega)]
  have e1 : (a.tmod 2 == 1) = true := by rw [ht]; simp; omega
  have e2 : (a % 2 == 1) = true := by simp; omega
  have e3 : a % 2 = 1 := by omega
  rw [hN]; clear ew h hcd c0 hN hl a0 a1 h1
  go_enter Tryz.func100, Tryz.ntmps100; go_wp2
  go_ret2
  exact ⟨rfl, 0, rfl⟩
 have e1 : (a.tmod 2 == 1) = false := by rw [ht, h1]; rfl
 have e3 : (a % 2 == 1) = false := by rw [h1]; rfl
 obtain ⟨p, c, rfl, hb⟩ := hcd.ex
 by_cases h2 : a + 1 < (v.code.length : Int)
 case neg =>
  have hN : cel v.code a = none := by unfold cel; rw [if_neg (by omega)]
  have e2 : decide ((v.code.length : Int) < a + 2) = true := decide_eq_true (by omega); rw [hN]; clear h hcd hb hN hl h2; clear a0 a1; generalize (v.code.length : Nat) = L at *
  go_enter Tryz.func100, Tryz.ntmps100; go_wp2
  go_ret2
  exact ⟨rfl, 0, rfl⟩
 have e2 : decide ((v.code.length : Int) < a + 2) = false := decide_eq_false (by omega)
 obtain ⟨b0, g0, k0⟩ := by8_get v.code a.toNat (by omega)
 obtain ⟨b1, g1, k1⟩ := by8_get v.code (a + 1).toNat (by omega)
 have hN : cel v.code a = some ((b0.toNat : Int) + 256 * (b1.toNat : Int)) := by
  unfold cel; rw [if_pos ⟨h1, h2⟩]; rw [show ((a.toNat : Nat) : Int) = a by omega] at k0; rw [show (((a + 1).toNat : Nat) : Int) = a + 1 by omega] at k1; rw [k0, k1]
 obtain ⟨x, rfl, f0⟩ := hb.at a.toNat b0 g0
 obtain ⟨x', ex, f1⟩ := hb.at (a + 1).toNat b1 g1
 cases ex
 have d0 := fun q => (show (W.drewN q).cell? (x.add a.toNat) = some (.int .u8 (b0.toNat : Int)) from f0)
 have d1 := fun q => (show (W.drewN q).cell? (x.add (a + 1).toNat) = some (.int .u8 (b1.toNat : Int)) from f1)
 have d5 := fun q => (show (W.drewN q).cell? ⟨g, 0, none⟩ = some (.slice (some x) v.code.length c) from c0)
 have i0 : a < (v.code.length : Int) := by omega
 have i2 : 0 <= a + 1 := by omega
 have j0 : a.toNat < v.code.length := by omega
 have j1 : (a + 1).toNat < v.code.length := by omega
 have t0 := b0.toNat_lt
 have t1 := b1.toNat_lt
 have u2 : IntKind.u16.wrap (b0.toNat : Int) = (b0.toNat : Int) := by rw [M.u16_wrap]; omega
 have u3 : IntKind.u16.wrap (b1.toNat : Int) = (b1.toNat : Int) := by rw [M.u16_wrap]; omega
 have u4 : IntKind.u16.wrap (256 * (b1.toNat : Int)) = 256 * (b1.toNat : Int) := by rw [M.u16_wrap]; omega
 have u5 : IntKind.u16.wrap ((b0.toNat : Int) + 256 * (b1.toNat : Int)) = (b0.toNat : Int) + 256 * (b1.toNat : Int) := by rw [M.u16_wrap]; omega
 rw [hN]
 clear h hcd hb hN g0 g1 k0 k1 hl a1
 clear t0 t1
 generalize (b0.toNat : Int) = y0 at *
 generalize (b1.toNat : Int) = y1 at *
 generalize (v.code.length : Nat) = L at *
 go_enter Tryz.func100, Tryz.ntmps100
 go_wp2
 go_quiet (fail)
 go_wp2
 go_ret2
 exact ⟨rfl, _, rfl⟩
theorem opB_eq (op : Nat) (h1 : 1 <= op) (h2 : op <= 63) : opB op = P.rb op := by
 have : ∀ k : Fin 64, opB k.val = P.rb k.val := by decide
 exact this ⟨op, by omega⟩
theorem rlook_any (g b : Nat) (kv dv rv : Value) (F : Nat -> Prop) (v : VS) (W : World) (h : RX W g b kv dv rv F v) :
  Calls Tryz.prog 65 #[.pointer (some ⟨g, 0, none⟩)] W fun e W' => e = .returned (.tuple #[.int .i64 ((look v).op : Int), .int .u16 (look v).x, .int .i64 (look v).f]) /\ Below W.heap.size W W' := by
 have c2 := h.c2
 have c1 := h.c1
 have HX0 : Hid _ := h
 have HQ0 : Hid (Below W.heap.size W W) := Below.refl _ _
 have hpc : C.C v.pc := ⟨h.wf.pc0, h.wf.pc1⟩
 clear h
 by_cases q1 : v.st = 1
 case neg =>
  have e : look v = ⟨0, 0, 0⟩ := by unfold look; rw [if_neg q1]
  have e1 : (v.st != 1) = true := by simpa using q1
  rw [e]
  go_enter Tryz.func65, Tryz.ntmps65; go_wp2
  go_ret3
  exact ⟨rfl, Below.refl _ _⟩
 have e : look v = look0 v.code v.pc := by unfold look; rw [if_pos q1]
 rw [e]
 rw [q1] at c2
 clear e
 unfold look0
 cases hc1 : cel v.code v.pc with
 | none =>
  have k1 := rcel_any g b kv dv rv F v v.pc hpc W HX0.out; rw [hc1] at k1
  go_enter Tryz.func65, Tryz.ntmps65; go_wp2_with fail
  refine k1.mono ?_; rintro e w1 ⟨rfl, q1, hq1⟩; have hx1 : RX w1 g b kv dv rv F v := by rw [hq1]; exact HX0.out.drewN q1
  have HX1 : Hid _ := hx1; have HQ1 : Hid (Below W.heap.size W w1) := (by rw [hq1]; exact dnB HQ0.out q1)
  have c1 := hx1.c1; clear hq1 hx1; go_wp2
  go_ret3
  exact ⟨rfl, HQ1.out⟩
 | some w =>
  have k1 := rcel_any g b kv dv rv F v v.pc hpc W HX0.out; rw [hc1] at k1; have hw := cel_r hc1; have hwC := hw; unfold C.C at hw; simp only; unfold look1
  cases hc2 : cel v.code w with
  | none =>
   go_enter Tryz.func65, Tryz.ntmps65; go_wp2_with fail
   refine k1.mono ?_; rintro e w1 ⟨rfl, q1, hq1⟩; have hx1 : RX w1 g b kv dv rv F v := by rw [hq1]; exact HX0.out.drewN q1
   have HX1 : Hid _ := hx1; have HQ1 : Hid (Below W.heap.size W w1) := (by rw [hq1]; exact dnB HQ0.out q1)
   have c1 := hx1.c1; clear hq1 hx1; have k2 := rcel_any g b kv dv rv F v w hwC w1 HX1.out; rw [hc2] at k2; go_wp2_with fail
   refine k2.mono ?_; rintro e w2 ⟨rfl, q2, hq2⟩; have hx2 : RX w2 g b kv dv rv F v := by rw [hq2]; exact HX1.out.drewN q2
   have HX2 : Hid _ := hx2; have HQ2 : Hid (Below W.heap.size W w2) := (by rw [hq2]; exact dnB HQ1.out q2)
   have c1 := hx2.c1; clear hq2 hx2; go_wp2
   go_ret3
   exact ⟨rfl, HQ2.out⟩
  | some op =>
   have ho := cel_r hc2; unfold C.C at ho; simp only; unfold look2
   by_cases q2 : op < 1 \/ 64 <= op
   ·rw [if_pos q2]
    by_cases q3 : op < 1
    ·have d1 : decide (op < 1) = true := decide_eq_true q3
     go_enter Tryz.func65, Tryz.ntmps65; go_wp2_with fail
     refine k1.mono ?_; rintro e w1 ⟨rfl, q1, hq1⟩; have hx1 : RX w1 g b kv dv rv F v := by rw [hq1]; exact HX0.out.drewN q1
     have HX1 : Hid _ := hx1; have HQ1 : Hid (Below W.heap.size W w1) := (by rw [hq1]; exact dnB HQ0.out q1)
     have c1 := hx1.c1; clear hq1 hx1; have k2 := rcel_any g b kv dv rv F v w hwC w1 HX1.out; rw [hc2] at k2; go_wp2_with fail
     refine k2.mono ?_; rintro e w2 ⟨rfl, q2, hq2⟩; have hx2 : RX w2 g b kv dv rv F v := by rw [hq2]; exact HX1.out.drewN q2
     have HX2 : Hid _ := hx2; have HQ2 : Hid (Below W.heap.size W w2) := (by rw [hq2]; exact dnB HQ1.out q2)
     have c1 := hx2.c1; clear hq2 hx2; go_wp2
     go_ret3
     exact ⟨rfl, HQ2.out⟩
    ·have d1 : decide (op < 1) = false := decide_eq_false q3
     have d2 : decide (63 < op) = true := decide_eq_true (by omega)
     go_enter Tryz.func65, Tryz.ntmps65; go_wp2_with fail
     refine k1.mono ?_; rintro e w1 ⟨rfl, q1, hq1⟩; have hx1 : RX w1 g b kv dv rv F v := by rw [hq1]; exact HX0.out.drewN q1
     have HX1 : Hid _ := hx1; have HQ1 : Hid (Below W.heap.size W w1) := (by rw [hq1]; exact dnB HQ0.out q1)
     have c1 := hx1.c1; clear hq1 hx1; have k2 := rcel_any g b kv dv rv F v w hwC w1 HX1.out; rw [hc2] at k2; go_wp2_with fail
     refine k2.mono ?_; rintro e w2 ⟨rfl, q2, hq2⟩; have hx2 : RX w2 g b kv dv rv F v := by rw [hq2]; exact HX1.out.drewN q2
     have HX2 : Hid _ := hx2; have HQ2 : Hid (Below W.heap.size W w2) := (by rw [hq2]; exact dnB HQ1.out q2)
     have c1 := hx2.c1; clear hq2 hx2; go_wp2
     go_ret3
     exact ⟨rfl, HQ2.out⟩
   rw [if_neg q2]; have d1 : decide (op < 1) = false := decide_eq_false (by omega); have d2 : decide (63 < op) = false := decide_eq_false (by omega); obtain ⟨n, rfl⟩ : ∃ n : Nat, op = (n : Int) := ⟨op.toNat, by omega⟩
   have n1 : 1 <= n := by omega
   have n2 : n <= 63 := by omega
   have kO := fun w => opd_any n n1 n2 w
   rw [opB_eq n n1 n2] at kO; have i1 : IntKind.i64.wrap (n : Int) = (n : Int) := S.i64_id _ (by omega) (by omega); have u1 := u16_2 v.pc; have u2 := u16_2 w; simp only [Int.toNat_natCast]; unfold opd
   by_cases p1 : P.rb n = true
   ·rw [if_pos p1]
    rw [p1] at kO
    cases hc3 : cel v.code ((v.pc + 2) % 65536) with
    | none =>
     go_enter Tryz.func65, Tryz.ntmps65; go_wp2_with fail
     refine k1.mono ?_; rintro e w1 ⟨rfl, q1, hq1⟩; have hx1 : RX w1 g b kv dv rv F v := by rw [hq1]; exact HX0.out.drewN q1
     have HX1 : Hid _ := hx1; have HQ1 : Hid (Below W.heap.size W w1) := (by rw [hq1]; exact dnB HQ0.out q1)
     have c1 := hx1.c1; clear hq1 hx1; have k2 := rcel_any g b kv dv rv F v w hwC w1 HX1.out; rw [hc2] at k2; go_wp2_with fail
     refine k2.mono ?_; rintro e w2 ⟨rfl, q2, hq2⟩; have hx2 : RX w2 g b kv dv rv F v := by rw [hq2]; exact HX1.out.drewN q2
     have HX2 : Hid _ := hx2; have HQ2 : Hid (Below W.heap.size W w2) := (by rw [hq2]; exact dnB HQ1.out q2)
     have c1 := hx2.c1; clear hq2 hx2; go_wp2_with fail
     refine (kO _).mono ?_; rintro e w3 ⟨rfl, hw3⟩; rw [hw3]; clear hw3 w3 kO; have k4 := rcel_any g b kv dv rv F v ((v.pc + 2) % 65536) (rng _) w2 HX2.out; rw [hc3] at k4; go_wp2_with fail
     refine k4.mono ?_; rintro e w3 ⟨rfl, q3, hq3⟩; have hx3 : RX w3 g b kv dv rv F v := by rw [hq3]; exact HX2.out.drewN q3
     have HX3 : Hid _ := hx3; have HQ3 : Hid (Below W.heap.size W w3) := (by rw [hq3]; exact dnB HQ2.out q3)
     have c1 := hx3.c1; clear hq3 hx3; go_wp2
     go_ret3
     exact ⟨rfl, HQ3.out⟩
    | some x =>
     go_enter Tryz.func65, Tryz.ntmps65; go_wp2_with fail
     refine k1.mono ?_; rintro e w1 ⟨rfl, q1, hq1⟩; have hx1 : RX w1 g b kv dv rv F v := by rw [hq1]; exact HX0.out.drewN q1
     have HX1 : Hid _ := hx1; have HQ1 : Hid (Below W.heap.size W w1) := (by rw [hq1]; exact dnB HQ0.out q1)
     have c1 := hx1.c1; clear hq1 hx1; have k2 := rcel_any g b kv dv rv F v w hwC w1 HX1.out; rw [hc2] at k2; go_wp2_with fail
     refine k2.mono ?_; rintro e w2 ⟨rfl, q2, hq2⟩; have hx2 : RX w2 g b kv dv rv F v := by rw [hq2]; exact HX1.out.drewN q2
     have HX2 : Hid _ := hx2; have HQ2 : Hid (Below W.heap.size W w2) := (by rw [hq2]; exact dnB HQ1.out q2)
     have c1 := hx2.c1; clear hq2 hx2; go_wp2_with fail
     refine (kO _).mono ?_; rintro e w3 ⟨rfl, hw3⟩; rw [hw3]; clear hw3 w3 kO; have k4 := rcel_any g b kv dv rv F v ((v.pc + 2) % 65536) (rng _) w2 HX2.out; rw [hc3] at k4; go_wp2_with fail
     refine k4.mono ?_; rintro e w3 ⟨rfl, q3, hq3⟩; have hx3 : RX w3 g b kv dv rv F v := by rw [hq3]; exact HX2.out.drewN q3
     have HX3 : Hid _ := hx3; have HQ3 : Hid (Below W.heap.size W w3) := (by rw [hq3]; exact dnB HQ2.out q3)
     have c1 := hx3.c1; clear hq3 hx3; go_wp2
     go_ret3
     exact ⟨rfl, HQ3.out⟩
   rw [if_neg p1]; have p1' : P.rb n = false := by simpa using p1
   rw [p1'] at kO
   by_cases p2 : n = 2
   ·subst p2
    rw [if_pos rfl]
    cases hc3 : cel v.code ((w + 2) % 65536) with
    | none =>
     go_enter Tryz.func65, Tryz.ntmps65; go_wp2_with fail
     refine k1.mono ?_; rintro e w1 ⟨rfl, q1, hq1⟩; have hx1 : RX w1 g b kv dv rv F v := by rw [hq1]; exact HX0.out.drewN q1
     have HX1 : Hid _ := hx1; have HQ1 : Hid (Below W.heap.size W w1) := (by rw [hq1]; exact dnB HQ0.out q1)
     have c1 := hx1.c1; clear hq1 hx1; have k2 := rcel_any g b kv dv rv F v w hwC w1 HX1.out; rw [hc2] at k2; go_wp2_with fail
     refine k2.mono ?_; rintro e w2 ⟨rfl, q2, hq2⟩; have hx2 : RX w2 g b kv dv rv F v := by rw [hq2]; exact HX1.out.drewN q2
     have HX2 : Hid _ := hx2; have HQ2 : Hid (Below W.heap.size W w2) := (by rw [hq2]; exact dnB HQ1.out q2)
     have c1 := hx2.c1; clear hq2 hx2; go_wp2_with fail
     refine (kO _).mono ?_; rintro e w3 ⟨rfl, hw3⟩; rw [hw3]; clear hw3 w3 kO; have k4 := rcel_any g b kv dv rv F v ((w + 2) % 65536) (rng _) w2 HX2.out; rw [hc3] at k4; go_wp2_with fail
     refine k4.mono ?_; rintro e w3 ⟨rfl, q3, hq3⟩; have hx3 : RX w3 g b kv dv rv F v := by rw [hq3]; exact HX2.out.drewN q3
     have HX3 : Hid _ := hx3; have HQ3 : Hid (Below W.heap.size W w3) := (by rw [hq3]; exact dnB HQ2.out q3)
     have c1 := hx3.c1; clear hq3 hx3; go_wp2
     go_ret3
     exact ⟨rfl, HQ3.out⟩
    | some x =>
     go_enter Tryz.func65, Tryz.ntmps65; go_wp2_with fail
     refine k1.mono ?_; rintro e w1 ⟨rfl, q1, hq1⟩; have hx1 : RX w1 g b kv dv rv F v := by rw [hq1]; exact HX0.out.drewN q1
     have HX1 : Hid _ := hx1; have HQ1 : Hid (Below W.heap.size W w1) := (by rw [hq1]; exact dnB HQ0.out q1)
     have c1 := hx1.c1; clear hq1 hx1; have k2 := rcel_any g b kv dv rv F v w hwC w1 HX1.out; rw [hc2] at k2; go_wp2_with fail
     refine k2.mono ?_; rintro e w2 ⟨rfl, q2, hq2⟩; have hx2 : RX w2 g b kv dv rv F v := by rw [hq2]; exact HX1.out.drewN q2
     have HX2 : Hid _ := hx2; have HQ2 : Hid (Below W.heap.size W w2) := (by rw [hq2]; exact dnB HQ1.out q2)
     have c1 := hx2.c1; clear hq2 hx2; go_wp2_with fail
     refine (kO _).mono ?_; rintro e w3 ⟨rfl, hw3⟩; rw [hw3]; clear hw3 w3 kO; have k4 := rcel_any g b kv dv rv F v ((w + 2) % 65536) (rng _) w2 HX2.out; rw [hc3] at k4; go_wp2_with fail
     refine k4.mono ?_; rintro e w3 ⟨rfl, q3, hq3⟩; have hx3 : RX w3 g b kv dv rv F v := by rw [hq3]; exact HX2.out.drewN q3
     have HX3 : Hid _ := hx3; have HQ3 : Hid (Below W.heap.size W w3) := (by rw [hq3]; exact dnB HQ2.out q3)
     have c1 := hx3.c1; clear hq3 hx3; go_wp2
     go_ret3
     exact ⟨rfl, HQ3.out⟩
   rw [if_neg p2]; have p2' : ((n : Int) == 2) = false := by simp; omega
   by_cases p3 : n = 1
   ·subst p3
    rw [if_pos rfl]
    go_enter Tryz.func65, Tryz.ntmps65; go_wp2_with fail
    refine k1.mono ?_; rintro e w1 ⟨rfl, q1, hq1⟩; have hx1 : RX w1 g b kv dv rv F v := by rw [hq1]; exact HX0.out.drewN q1
    have HX1 : Hid _ := hx1; have HQ1 : Hid (Below W.heap.size W w1) := (by rw [hq1]; exact dnB HQ0.out q1)
    have c1 := hx1.c1; clear hq1 hx1; have k2 := rcel_any g b kv dv rv F v w hwC w1 HX1.out; rw [hc2] at k2; go_wp2_with fail
    refine k2.mono ?_; rintro e w2 ⟨rfl, q2, hq2⟩; have hx2 : RX w2 g b kv dv rv F v := by rw [hq2]; exact HX1.out.drewN q2
    have HX2 : Hid _ := hx2; have HQ2 : Hid (Below W.heap.size W w2) := (by rw [hq2]; exact dnB HQ1.out q2)
    have c1 := hx2.c1; clear hq2 hx2; go_wp2_with fail
    refine (kO _).mono ?_; rintro e w3 ⟨rfl, hw3⟩; rw [hw3]; clear hw3 w3 kO; go_wp2
    go_ret3
    exact ⟨rfl, HQ2.out⟩
   rw [if_neg p3]; have p3' : ((n : Int) == 1) = false := by simp; omega
   go_enter Tryz.func65, Tryz.ntmps65; go_wp2_with fail
   refine k1.mono ?_; rintro e w1 ⟨rfl, q1, hq1⟩; have hx1 : RX w1 g b kv dv rv F v := by rw [hq1]; exact HX0.out.drewN q1
   have HX1 : Hid _ := hx1; have HQ1 : Hid (Below W.heap.size W w1) := (by rw [hq1]; exact dnB HQ0.out q1)
   have c1 := hx1.c1; clear hq1 hx1; have k2 := rcel_any g b kv dv rv F v w hwC w1 HX1.out; rw [hc2] at k2; go_wp2_with fail
   refine k2.mono ?_; rintro e w2 ⟨rfl, q2, hq2⟩; have hx2 : RX w2 g b kv dv rv F v := by rw [hq2]; exact HX1.out.drewN q2
   have HX2 : Hid _ := hx2; have HQ2 : Hid (Below W.heap.size W w2) := (by rw [hq2]; exact dnB HQ1.out q2)
   have c1 := hx2.c1; clear hq2 hx2; go_wp2_with fail
   refine (kO _).mono ?_; rintro e w3 ⟨rfl, hw3⟩; rw [hw3]; clear hw3 w3 kO; go_wp2
   go_ret3
   exact ⟨rfl, HQ2.out⟩
end Go.Proofs.YteldjmecomngeaaGreat.V
