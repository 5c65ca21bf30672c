import Derived.Test.YteldjmecomngeaaGreatVKit
import Derived.Deep.RegionHeld
import Derived.Deep.QuietTactic
namespace Go.Proofs.YteldjmecomngeaaGreat.V
open Go.RowKit
open Go.Proofs
set_option linter.unusedVariables false
set_option linter.unusedSimpArgs false
set_option maxHeartbeats 1000000
set_option maxRecDepth 100000
theorem dnB {B : Nat} {W W' : World} (h : Below B W W') (q : Nat) : Below B W (W'.drewN q) := ⟨h.os, h.tape, h.output, h.size, h.block⟩
theorem by8_get (c : List UInt8) (n : Nat) (h : n < c.length) : ∃ b, c[n]? = some b /\ by8 c (n : Int) = (b.toNat : Int) := by
 refine ⟨c[n], List.getElem?_eq_getElem h, ?_⟩
 unfold by8; rw [Int.toNat_natCast, List.getElem?_eq_getElem h]; rfl
theorem cell_any (g bd br bm : Nat) (kv : Value) (F : Nat -> Prop) (v : VS) (a : Int) (ha : C.C a) (W : World) (h : MV W g bd br bm kv F v) :
  Calls Tryz.prog 46 #[.pointer (some ⟨g, 0, none⟩), .int .u16 a] W fun e W' => e = .returned (.tuple #[.int .u16 ((cel v.code a).getD 0), .bool (cel v.code a).isSome]) /\ ∃ q, W' = W.drewN q := by
 obtain ⟨a0, a1⟩ := ha
 have hl := h.clen
 have hcd := h.code
 have c5 := h.c5
 have ht : a.tmod 2 = a % 2 := Int.tmod_eq_emod_of_nonneg a0
 have ew : IntKind.i64.wrap (a + 1) = a + 1 := S.i64_id _ (by omega) (by omega)
 have w1 : wrap64 a = a := by simp [wrap64]; omega
 have w2 : wrap64 (a + 1) = a + 1 := by simp [wrap64]; omega
 have eu : IntKind.u16.wrap (a.tmod 2) = a.tmod 2 := by rw [M.u16_wrap, ht]; omega
 by_cases h1 : a % 2 = 0
 case neg =>
  have hN : cel v.code a = none := by unfold cel; rw [if_neg (by omega)]
  have e1 : (a.tmod 2 != 0) = true := by rw [ht]; simpa using h1
  rw [hN]; clear ht ew h hcd c5 hN hl a0 a1 h1
  go_enter Tryz.func46, Tryz.ntmps46; go_wp2
  go_ret2
  exact ⟨rfl, 0, rfl⟩
 have e1 : (a.tmod 2 != 0) = false := by rw [ht, h1]; rfl
 have e3 : (a % 2 != 0) = false := by rw [h1]; rfl
 clear ht
 obtain ⟨p, c, rfl, hb⟩ := hcd.ex
 by_cases h2 : a + 1 < (v.code.length : Int)
 case neg =>
  have hN : cel v.code a = none := by unfold cel; rw [if_neg (by omega)]
  have e2 : decide ((v.code.length : Int) <= a + 1) = true := decide_eq_true (by omega); rw [hN]; clear h hcd hb hN hl h1 h2; clear a0 a1; generalize (v.code.length : Nat) = L at *
  go_enter Tryz.func46, Tryz.ntmps46; go_wp2
  go_ret2
  exact ⟨rfl, 0, rfl⟩
 have e2 : decide ((v.code.length : Int) <= a + 1) = false := decide_eq_false (by omega)
 obtain ⟨b0, g0, k0⟩ := by8_get v.code a.toNat (by omega)
 obtain ⟨b1, g1, k1⟩ := by8_get v.code (a + 1).toNat (by omega)
 have hN : cel v.code a = some ((b0.toNat : Int) + 256 * (b1.toNat : Int)) := by
  unfold cel; rw [if_pos ⟨h1, h2⟩]; rw [show ((a.toNat : Nat) : Int) = a by omega] at k0; rw [show (((a + 1).toNat : Nat) : Int) = a + 1 by omega] at k1; rw [k0, k1]
 obtain ⟨x, rfl, f0⟩ := hb.at a.toNat b0 g0
 obtain ⟨x', ex, f1⟩ := hb.at (a + 1).toNat b1 g1
 cases ex
 have d0 := fun q => (show (W.drewN q).cell? (x.add a.toNat) = some (.int .u8 (b0.toNat : Int)) from f0)
 have d1 := fun q => (show (W.drewN q).cell? (x.add (a + 1).toNat) = some (.int .u8 (b1.toNat : Int)) from f1)
 have d5 := fun q => (show (W.drewN q).cell? ⟨g, 5, none⟩ = some (.slice (some x) v.code.length c) from c5)
 have u1 : IntKind.u16.wrap (a + 1) = a + 1 := by rw [M.u16_wrap]; omega
 have i0 : a < (v.code.length : Int) := by omega
 have i2 : 0 <= a + 1 := by omega
 have j0 : a.toNat < v.code.length := by omega
 have j1 : (a + 1).toNat < v.code.length := by omega
 have t0 := b0.toNat_lt
 have t1 := b1.toNat_lt
 have u2 : IntKind.u16.wrap (b0.toNat : Int) = (b0.toNat : Int) := by rw [M.u16_wrap]; omega
 have u3 : IntKind.u16.wrap (b1.toNat : Int) = (b1.toNat : Int) := by rw [M.u16_wrap]; omega
 have u4 : IntKind.u16.wrap ((b1.toNat : Int) * 256) = 256 * (b1.toNat : Int) := by rw [M.u16_wrap]; omega
 have u5 : IntKind.u16.wrap ((b0.toNat : Int) + 256 * (b1.toNat : Int)) = (b0.toNat : Int) + 256 * (b1.toNat : Int) := by rw [M.u16_wrap]; omega
 rw [hN]
 clear h hcd hb hN g0 g1 k0 k1 hl h1 a1
 clear t0 t1
 generalize (b0.toNat : Int) = y0 at *
 generalize (b1.toNat : Int) = y1 at *
 generalize (v.code.length : Nat) = L at *
 go_enter Tryz.func46, Tryz.ntmps46
 go_wp2
 go_quiet (fail)
 go_wp2
 go_ret2
 exact ⟨rfl, _, rfl⟩
theorem u16_2 (a : Int) : IntKind.u16.wrap (a + 2) = (a + 2) % 65536 := M.u16_wrap _
theorem rng (a : Int) : C.C (a % 65536) := ⟨by omega, by omega⟩
theorem operand_any (g bd br bm : Nat) (kv : Value) (F : Nat -> Prop) (v : VS) (op : Nat) (h1 : 1 <= op) (h2 : op < 64) (a : Int) (W : World) (h : MV W g bd br bm kv F v) :
  Calls Tryz.prog 48 #[.pointer (some ⟨g, 0, none⟩), P.rowN op, .int .u16 a] W fun e W' => e = .returned (.tuple #[.int .u16 ((opd v.code v.pc a op).getD 0), .bool (opd v.code v.pc a op).isSome]) /\ Below W.heap.size W W' := by
 obtain ⟨W1, hW1⟩ : ∃ W1, W1 = W.alloc (.cells #[.int .i64 (op : Int), .string (P.nm op), .int .i64 (P.ri op), .int .i64 (P.ro op), .int .i64 (P.rc op), .bool (P.rb op)] 49) := ⟨_, rfl⟩
 have hB : Below W.heap.size W W1 := by rw [hW1]; exact P.bel_alloc W _
 have hz := heap_alloc_new W (.cells #[.int .i64 (op : Int), .string (P.nm op), .int .i64 (P.ri op), .int .i64 (P.ro op), .int .i64 (P.rc op), .bool (P.rb op)] 49)
 rw [<- hW1] at hz
 have z0 : W1.cell? ⟨W.heap.size, 0, none⟩ = some (.int .i64 (op : Int)) := S.cell_of W1 _ 0 [.int .i64 (op : Int), .string (P.nm op), .int .i64 (P.ri op), .int .i64 (P.ro op), .int .i64 (P.rc op), .bool (P.rb op)] _ _ hz rfl
 have z5 : W1.cell? ⟨W.heap.size, 5, none⟩ = some (.bool (P.rb op)) := S.cell_of W1 _ 5 [.int .i64 (op : Int), .string (P.nm op), .int .i64 (P.ri op), .int .i64 (P.ro op), .int .i64 (P.rc op), .bool (P.rb op)] _ _ hz rfl
 have hM := h.below hB
 have c0 := hM.c0
 have k1 := cell_any g bd br bm kv F v ((v.pc + 2) % 65536) (rng _) W1 hM
 have k2 := cell_any g bd br bm kv F v ((a + 2) % 65536) (rng _) W1 hM
 have e1 := u16_2 v.pc
 have e2 := u16_2 a
 unfold P.rowN P.rowV
 unfold opd
 clear h hM hz
 by_cases q1 : P.rb op = true
 ·rw [if_pos q1]
  rw [q1] at z5 hW1 ⊢; subst hW1
  go_enter Tryz.func48, Tryz.ntmps48; go_wp2_with fail
  refine k1.mono ?_; rintro e w1 ⟨rfl, q, rfl⟩; go_wp2
  go_ret2
  exact ⟨rfl, dnB hB q⟩
 ·have q1' : P.rb op = false := by simpa using q1
  rw [if_neg q1]; rw [q1'] at z5 hW1 ⊢
  by_cases q2 : op = 2
  ·subst q2
   rw [if_pos rfl]; subst hW1
   go_enter Tryz.func48, Tryz.ntmps48; go_wp2_with fail
   refine k2.mono ?_; rintro e w1 ⟨rfl, q, rfl⟩; go_wp2
   go_ret2
   exact ⟨rfl, dnB hB q⟩
  ·rw [if_neg q2]
   have f2 : ((op : Int) == 2) = false := by simp; omega
   by_cases q3 : op = 1
   ·subst q3
    rw [if_pos rfl]; subst hW1
    go_enter Tryz.func48, Tryz.ntmps48; go_wp2
    go_ret2
    exact ⟨rfl, hB⟩
   ·rw [if_neg q3]
    have f1 : ((op : Int) == 1) = false := by simp; omega
    subst hW1
    go_enter Tryz.func48, Tryz.ntmps48; go_wp2
    go_ret2
    exact ⟨rfl, hB⟩
theorem results_cell_tmp2 {fn : Func} {p u t : Tmp} {ty : TypeId} (h : fn.results = #[.cell p ty, .tmp u, .tmp t]) (tmps : Array Value) (P : Program) (w : World) :
  (results fn tmps).run P w =
   ((asAddr (tmps.getD p undef)).run P w).andThen fun a w₁ => ((loadVar ty a).run P w₁).andThen fun v w₂ => .ok (.tuple #[v, tmps.getD u undef, tmps.getD t undef]) w₂ := by
 simp only [results, h]
 simp [Sem.run_bind, Result.andThen]
theorem look_fin {w w1 : World} (hz : w1.heap[w.heap.size]? = some (.cells P.zR 49 (0, 0))) (hb : Below w.heap.size w w1) {a : Act} {op : Int} {name : ByteArray} {i o c : Int} {b : Bool} {x3 x4 : Value}
  (hp : a.tmps.getD 2 undef = .pointer (some ⟨w.heap.size, 0, none⟩)) (h3 : a.tmps.getD 3 undef = x3) (h4 : a.tmps.getD 4 undef = x4) (hd : a.defers = []) :
  bodyPost Tryz.prog Tryz.f15 (fun e w' => e = .returned (.tuple #[P.rowV op name i o c b, x3, x4]) /\ Below w.heap.size w w') .ret a (w1.setRow w.heap.size #[.int .i64 op, .string name, .int .i64 i, .int .i64 o, .int .i64 c, .bool b]) := by
 have hfin := setRow_heap w1 w.heap.size _ #[.int .i64 op, .string name, .int .i64 i, .int .i64 o, .int .i64 c, .bool b] _ _ hz
 have hbf := P.Below.setRow hb w.heap.size (Nat.le_refl _) #[.int .i64 op, .string name, .int .i64 i, .int .i64 o, .int .i64 c, .bool b]
 refine bodyPost_ret (v := .tuple #[P.rowV op name i o c b, x3, x4]) ?_ hd ⟨rfl, hbf⟩
 rw [results_cell_tmp2 rfl, hp, h3, h4]
 simp [asAddr, run_loadVar_row _ w.heap.size _ 49 _ _ _ hfin Tryz.underlying49 rfl P.sizeR, P.rowV]
theorem trB {B : Nat} {w w1 w2 : World} (h : Below B w w1) (k : Below w1.heap.size w1 w2) (hs : B <= w1.heap.size) : Below B w w2 :=
 h.trans ⟨k.os, k.tape, k.output, k.size, fun i hi => k.block i (Nat.lt_of_lt_of_le hi hs)⟩
theorem made2 (w w1 : World) (hz : w1.heap[w.heap.size]? = some (.cells P.zR 49 (0, 0))) (hb : Below w.heap.size w w1) (c : Array Value) :
  (w1.alloc (.cells #[.int .i64 0, .string { data := #[] }, .int .i64 0, .int .i64 0, .int .i64 0, .bool false] 49)).heap[w1.heap.size]? = some (.cells P.zR 49 (0, 0)) /\
  Below w.heap.size w ((w1.alloc (.cells #[.int .i64 0, .string { data := #[] }, .int .i64 0, .int .i64 0, .int .i64 0, .bool false] 49)).setRow w1.heap.size c) /\
  ((w1.alloc (.cells #[.int .i64 0, .string { data := #[] }, .int .i64 0, .int .i64 0, .int .i64 0, .bool false] 49)).setRow w1.heap.size c).heap[w.heap.size]? = some (.cells P.zR 49 (0, 0)) /\
  ((w1.alloc (.cells #[.int .i64 0, .string { data := #[] }, .int .i64 0, .int .i64 0, .int .i64 0, .bool false] 49)).setRow w1.heap.size c).heap[w1.heap.size]? = some (.cells c 49 (0, 0)) /\
  Below w1.heap.size w1 ((w1.alloc (.cells #[.int .i64 0, .string { data := #[] }, .int .i64 0, .int .i64 0, .int .i64 0, .bool false] 49)).setRow w1.heap.size c) := by
 have hlt := S.lt_of hz
 have a1 := heap_alloc_new w1 (.cells #[.int .i64 0, .string { data := #[] }, .int .i64 0, .int .i64 0, .int .i64 0, .bool false] 49)
 have a2 := P.bel_alloc w1 (.cells #[.int .i64 0, .string { data := #[] }, .int .i64 0, .int .i64 0, .int .i64 0, .bool false] 49)
 have a3 := P.Below.setRow a2 w1.heap.size (Nat.le_refl _) c
 exact ⟨a1, trB hb a3 (Nat.le_of_lt hlt), (a3.block _ hlt).trans hz, setRow_heap _ _ _ _ _ _ a1, a3⟩
theorem look_any (g bd br bm : Nat) (kv : Value) (F : Nat -> Prop) (v : VS) (w : World) (h : MV w g bd br bm kv F v) :
  Calls Tryz.prog 15 #[.pointer (some ⟨g, 0, none⟩)] w fun e w' => e = .returned (.tuple #[prV (look v).op, .int .u16 (look v).x, .int .i64 (look v).f]) /\ Below w.heap.size w w' := by
 have hz := heap_alloc_new w (.cells #[.int .i64 0, .string { data := #[] }, .int .i64 0, .int .i64 0, .int .i64 0, .bool false] 49)
 have hb := P.bel_alloc w (.cells #[.int .i64 0, .string { data := #[] }, .int .i64 0, .int .i64 0, .int .i64 0, .bool false] 49)
 have hM := h.below hb
 have hlt := h.lt
 have hwf := h.wf
 have c0 := hM.c0
 have c1 := hM.c1
 generalize hW : w.alloc (.cells #[.int .i64 0, .string { data := #[] }, .int .i64 0, .int .i64 0, .int .i64 0, .bool false] 49) = W at *
 have hs : w.heap.size <= W.heap.size := hb.size
 unfold look
 have zz : (P.zR : Array Value) = #[.int .i64 0, .string { data := #[] }, .int .i64 0, .int .i64 0, .int .i64 0, .bool false] := rfl
 by_cases q1 : v.st = 1
 case neg =>
  rw [if_neg q1]; have e1 : (v.st != 1) = true := by simpa using q1
  clear h hM hwf
  go_enter Tryz.func15, Tryz.ntmps15; go_wp2_with (refine wpList_store_row rfl 49 _ _ rfl w.heap.size _ rfl rfl 49 P.zR hz (by exact P.sizeR) (by rfl) (by simp [Value.oneCell']) ?_)
  exact look_fin hz hb rfl rfl rfl rfl
 rw [if_pos q1]
 have e1 : (v.st != 1) = false := by simpa using q1
 have k1 := cell_any g bd br bm kv F v v.pc ⟨hwf.pc0, hwf.pc1⟩ W hM
 have dz : ∀ q, (W.drewN q).heap[w.heap.size]? = some (.cells P.zR 49 (0, 0)) := fun q => hz
 have db : ∀ q, Below w.heap.size w (W.drewN q) := fun q => dnB hb q
 have HM := S.hid hM
 obtain ⟨L, hL⟩ : ∃ L, L = look0 v.code v.pc := ⟨_, rfl⟩
 rw [<- hL]
 have HL := S.hid hL
 clear h hM hwf hL
 go_enter Tryz.func15, Tryz.ntmps15
 go_wp2_with fail
 refine k1.mono ?_
 rintro e w1 ⟨rfl, r1, rfl⟩
 have dz1 := dz r1
 have db1 := db r1
 have HM1 := S.hid (HM.out.drew r1)
 have s1 : w.heap.size <= (W.drewN r1).heap.size := hs
 generalize W.drewN r1 = W1 at *
 cases hc1 : cel v.code v.pc with
 | none =>
  have e : L = ⟨0, 0, 7⟩ := by rw [HL.out, look0, hc1]
  subst e; simp only [Option.getD_none, Option.isSome_none]; clear k1; go_wp2_with (refine wpList_store_row rfl 49 _ _ rfl w.heap.size _ rfl rfl 49 P.zR dz1 (by exact P.sizeR) (by rfl) (by simp [Value.oneCell']) ?_)
  exact look_fin dz1 db1 rfl rfl rfl rfl
 | some t =>
 simp only [Option.getD_some, Option.isSome_some]
 have k2 := cell_any g bd br bm kv F v t (cel_r hc1) W1 HM1.out
 have HL1 : Hid (L = look1 v.code v.pc t) := by rw [HL.out, look0, hc1]; exact S.hid rfl
 have HC := S.hid (cel_r hc1)
 clear k1 dz db HM HL hc1
 go_wp2_with fail
 refine k2.mono ?_
 rintro e w1 ⟨rfl, r2, rfl⟩
 have dz2 : (W1.drewN r2).heap[w.heap.size]? = some (.cells P.zR 49 (0, 0)) := dz1
 have db2 := dnB db1 r2
 have HM2 := S.hid (HM1.out.drew r2)
 have s2 : w.heap.size <= (W1.drewN r2).heap.size := s1
 generalize W1.drewN r2 = W2 at *
 cases hc2 : cel v.code t with
 | none =>
  have e : L = ⟨0, 0, 7⟩ := by rw [HL1.out, look1, hc2]
  subst e; simp only [Option.getD_none, Option.isSome_none]; clear k2; go_wp2_with (refine wpList_store_row rfl 49 _ _ rfl w.heap.size _ rfl rfl 49 P.zR dz2 (by exact P.sizeR) (by rfl) (by simp [Value.oneCell']) ?_)
  exact look_fin dz2 db2 rfl rfl rfl rfl
 | some op =>
 simp only [Option.getD_some, Option.isSome_some]
 obtain ⟨o0, o1⟩ := cel_r hc2
 have HL2 : Hid (L = look2 v.code v.pc t op) := by rw [HL1.out, look1, hc2]; exact S.hid rfl
 have w0 : wrap64 op = op := by simp [wrap64]; omega
 clear k2 HL1 hc2 HM1 dz1 db1 s1
 by_cases q2 : op < 1 \/ 64 <= op
 ·have e : L = ⟨0, 0, 6⟩ := by rw [HL2.out, look2, if_pos q2]
  subst e; have k3 := P.of_no op q2 W2; clear HL2 HM2 q2 o0 o1; go_wp2_with fail
  refine k3.mono ?_; rintro e w1 ⟨rfl, h3⟩; have dz3 : w1.heap[w.heap.size]? = some (.cells P.zR 49 (0, 0)) := (h3.block _ (S.lt_of dz2)).trans dz2; have db3 := trB db2 h3 s2; have s3 := Nat.le_trans s2 h3.size; clear k3 h3 dz2 db2; unfold P.rowV; obtain ⟨az, ab, ad, _, _⟩ := made2 w w1 dz3 db3 #[.int .i64 0, .string { data := #[] }, .int .i64 0, .int .i64 0, .int .i64 0, .bool false]
  go_wp2_with (first
   | (refine wpList_store_row rfl 49 _ _ rfl w1.heap.size _ rfl rfl 49 P.zR az (by exact P.sizeR) (by rfl) (by simp [Value.oneCell']) ?_)
   | (refine wpList_store_row rfl 49 _ _ rfl w.heap.size _ rfl rfl 49 P.zR ad (by exact P.sizeR) (by rfl) (by simp [Value.oneCell']) ?_))
  exact look_fin ad ab rfl rfl rfl rfl
 obtain ⟨n, rfl⟩ := Int.eq_ofNat_of_zero_le o0
 have n1 : 1 <= n := by omega
 have n2 : n < 64 := by omega
 have hL3 : L = (match opd v.code v.pc t n with | none => ⟨0, 0, 7⟩ | some x => ⟨n, x, 0⟩) := by rw [HL2.out, look2, if_neg q2]; rfl
 have k3 := P.of_at n n1 n2 W2
 have HL3 := S.hid hL3
 have HN := S.hid (show 1 <= n /\ n < 64 from ⟨n1, n2⟩)
 clear HL2 hL3 o0 o1 q2 n1 n2
 go_wp2_with fail
 refine k3.mono ?_
 rintro e w1 ⟨rfl, h3⟩
 have dz3 : w1.heap[w.heap.size]? = some (.cells P.zR 49 (0, 0)) := (h3.block _ (S.lt_of dz2)).trans dz2
 have db3 := trB db2 h3 s2
 have s3 := Nat.le_trans s2 h3.size
 have HM3 := S.hid (HM2.out.below h3)
 clear k3 h3 dz2 db2 HM2
 unfold P.rowN P.rowV
 obtain ⟨az, ab, ad, ar⟩ := made2 w w1 dz3 db3 #[.int .i64 (n : Int), .string (P.nm n), .int .i64 (P.ri n), .int .i64 (P.ro n), .int .i64 (P.rc n), .bool (P.rb n)]
 have aB := ar.2
 have ar := ar.1
 have HM4 := S.hid (HM3.out.below aB)
 have k4 := operand_any g bd br bm kv F v n HN.out.1 HN.out.2 t _ HM4.out
 clear HM3 HM4
 unfold P.rowN P.rowV at k4
 go_wp2_with (first
  | (refine wpList_store_row rfl 49 _ _ rfl w1.heap.size _ rfl rfl 49 P.zR az (by exact P.sizeR) (by rfl) (by simp [Value.oneCell']) ?_)
  | (refine wpList_load_row rfl 49 _ rfl w1.heap.size rfl 49 _ (0, 0) _ ar Tryz.underlying49 rfl (by exact P.sizeR) ?_))
 refine k4.mono ?_
 rintro e w5 ⟨rfl, h5⟩
 have ad5 := (h5.block _ (S.lt_of ad)).trans ad
 have ar5 := (h5.block _ (S.lt_of ar)).trans ar
 have ab5 := trB ab h5 (Nat.le_of_lt (S.lt_of ad))
 clear k4 h5 az ab ad ar aB dz3 db3
 cases hc5 : opd v.code v.pc t n with
 | none =>
  have e : L = ⟨0, 0, 7⟩ := by rw [HL3.out, hc5]
  subst e; simp only [Option.getD_none, Option.isSome_none]; go_wp2_with (refine wpList_store_row rfl 49 _ _ rfl w.heap.size _ rfl rfl 49 P.zR ad5 (by exact P.sizeR) (by rfl) (by simp [Value.oneCell']) ?_)
  exact look_fin ad5 ab5 rfl rfl rfl rfl
 | some x =>
  have e : L = ⟨n, x, 0⟩ := by rw [HL3.out, hc5]
  subst e; have en : prV n = P.rowV (n : Int) (P.nm n) (P.ri n) (P.ro n) (P.rc n) (P.rb n) := by rw [prV, if_neg (by have := HN.out.1; omega)]; rfl
  simp only [Option.getD_some, Option.isSome_some]
  go_wp2_with (first
   | (refine wpList_store_row rfl 49 _ _ rfl w.heap.size _ rfl rfl 49 P.zR ad5 (by exact P.sizeR) (by rfl) (by simp [Value.oneCell']) ?_)
   | (refine wpList_load_row rfl 49 _ rfl w1.heap.size rfl 49 _ (0, 0) _ ar5 Tryz.underlying49 rfl (by exact P.sizeR) ?_))
  exact look_fin ad5 ab5 rfl rfl rfl rfl
set_option maxHeartbeats 1000000
set_option maxRecDepth 100000
theorem fz {W : World} {g bd br bm : Nat} {kv : Value} {F : Nat -> Prop} {v : VS} (h : MV W g bd br bm kv F v) (i : Nat) : W.frozen? ⟨g, i, none⟩ = false := S.frozen_of W g i _ _ h.blk
theorem fail_any (g bd br bm : Nat) (kv : Value) (F : Nat -> Prop) (v : VS) (f : Int) (W : World) (h : MV W g bd br bm kv F v) :
  Calls Tryz.prog 50 #[.pointer (some ⟨g, 0, none⟩), .int .i64 f] W fun e W' => e = .returned (.tuple #[]) /\ VD W W' g bd br bm kv F (fail f v) := by
 have c1 := h.c1
 have c2 := h.c2
 have z1 := fz h 1
 have z2 := fz h 2
 have hfin : VD W ((W.setCell ⟨g, 1, none⟩ (.int .i64 3)).setCell ⟨g, 2, none⟩ (.int .i64 f)) g bd br bm kv F (fail f v) := by
  have k0 := h.same (Below.refl _ W); have k1 : VD W (W.setCell ⟨g, 1, none⟩ (.int .i64 3)) g bd br bm kv F { v with st := 3 } := k0.set h 1 _ (k0.s.set 1 _ rfl rfl rfl rfl rfl ⟨h.wf.pc0, h.wf.pc1, h.wf.d, h.wf.r⟩); have k2 := k1.s.set (v' := fail f v) 2 (.int .i64 f) rfl rfl rfl rfl rfl ⟨h.wf.pc0, h.wf.pc1, h.wf.d, h.wf.r⟩; refine ⟨?_, k1.t.setCell g 2 (.inl rfl) _⟩; have e : M.gr F W ((W.setCell ⟨g, 1, none⟩ (.int .i64 3)).setCell ⟨g, 2, none⟩ (.int .i64 f)) = M.gr F W (W.setCell ⟨g, 1, none⟩ (.int .i64 3)) := by unfold M.gr; rw [S.setCell_size]
  rw [e]; exact k2
 clear h
 go_enter Tryz.func50, Tryz.ntmps50
 go_wp2
 go_end0
 exact ⟨rfl, hfin⟩
theorem last2 (R : List (Int × Int)) : R = [] \/ (∃ q, R = [q]) \/ ∃ l p q, R = l ++ [p] ++ [q] := by
 rcases List.eq_nil_or_concat R with h | ⟨l, q, rfl⟩
 ·exact .inl h
 ·rcases List.eq_nil_or_concat l with rfl | ⟨l, p, rfl⟩
  ·exact .inr (.inl ⟨q, by simp⟩)
  ·exact .inr (.inr ⟨l, p, q, by simp⟩)
theorem At.kv {W W' : World} {g bd br bm : Nat} {kv : Value} {F : Nat -> Prop} {v : VS} (h : MV W g bd br bm kv F v) {R' : List (Int × Int)} (t : S.At br W W') (k : S.HasR W' br R') (hr : ∀ q ∈ R', C.C q.2) : VD W W' g bd br bm kv F { v with R := R' } :=
 h.goes (h.ps.save k t) h.wf.d hr
theorem At.kd {W W' : World} {g bd br bm : Nat} {kv : Value} {F : Nat -> Prop} {v : VS} (h : MV W g bd br bm kv F v) {D' : List Int} (t : S.At bd W W') (k : S.HasD W' bd D') (hd : ∀ x ∈ D', C.C x) : VD W W' g bd br bm kv F { v with D := D' } :=
 h.goes (h.ps.put k t) hd h.wf.r
theorem eR (v : VS) : { v with R := v.R } = v := rfl
theorem turns_any (g bd br bm : Nat) (kv : Value) (F : Nat -> Prop) (v : VS) (W : World) (h : MV W g bd br bm kv F v) :
  Calls Tryz.prog 163 #[.pointer (some ⟨g, 0, none⟩)] W fun e W' => e = .returned (.tuple #[.bool (turn v).b, .int .i64 (turn v).f]) /\ VD W W' g bd br bm kv F (turn v).v := by
 have c4 := h.c4
 have hR := h.ps.r
 have hsame : ∀ q, VD W (W.drewN q) g bd br bm kv F v := fun q => h.same ⟨rfl, rfl, rfl, Nat.le_refl _, fun _ _ => rfl⟩
 have hwr := h.wf.r
 rcases last2 v.R with hr | ⟨⟨k, i⟩, hr⟩ | ⟨l, ⟨k2, b⟩, ⟨k, i⟩, hr⟩
 ·have ht : turn v = ⟨false, 3, v⟩ := by unfold turn; rw [hr]; rfl
  rw [ht]; have k1 := S.rat_under br v.R 0 3 (.inr (by rw [hr]; simp)) W hR; have hs := hsame 0; clear hR hsame hwr hr ht h
  go_enter Tryz.func163, Tryz.ntmps163; go_wp2_with fail
  refine k1.mono ?_; rintro e w1 ⟨rfl, rfl⟩; go_wp2
  go_ret2
  exact ⟨rfl, hs⟩
 ·by_cases q1 : k = 3
  ·subst q1
   have ht : turn v = ⟨false, 3, v⟩ := by unfold turn; rw [hr]; rfl
   rw [ht]; have k1 := S.rat_ok br v.R 0 0 (by rw [hr]; rfl) 3 i (by rw [hr]; rfl) W hR; have k2 := fun q => S.rat_under br v.R 1 2 (.inr (by rw [hr]; simp)) (W.drewN q) hR
   have c4' := fun q => (show (W.drewN q).cell? ⟨g, 4, none⟩ = _ from c4)
   clear hR hwr hr ht h
   go_enter Tryz.func163, Tryz.ntmps163; go_wp2_with fail
   refine k1.mono ?_; rintro e w1 ⟨rfl, q, rfl⟩; have d4 := c4' q; go_wp2_with fail
   refine (k2 q).mono ?_; rintro e w2 ⟨rfl, rfl⟩; go_wp2
   go_ret2
   exact ⟨rfl, hsame q⟩
  ·have ht : turn v = ⟨false, 5, v⟩ := by unfold turn; rw [hr]; simp [q1]
   rw [ht]; have k1 := S.rat_kind br v.R 0 0 (by rw [hr]; rfl) k i (by rw [hr]; rfl) 3 q1 W hR; clear hR hwr hr ht h
   go_enter Tryz.func163, Tryz.ntmps163; go_wp2_with fail
   refine k1.mono ?_; rintro e w1 ⟨rfl, q, rfl⟩; go_wp2
   go_ret2
   exact ⟨rfl, hsame q⟩
 have gl : v.R.length = l.length + 2 := by rw [hr]; simp
 have gi : v.R[l.length + 1]? = some (k, i) := by rw [hr, List.getElem?_append_right (by simp)]; simp
 have gb : v.R[l.length]? = some (k2, b) := by rw [hr, List.append_assoc, List.getElem?_append_right (by simp)]; simp
 by_cases q1 : k = 3
 case neg =>
  have ht : turn v = ⟨false, 5, v⟩ := by unfold turn; rw [hr]; simp [q1]
  rw [ht]; have k1 := S.rat_kind br v.R (l.length + 1) 0 (by omega) k i gi 3 q1 W hR; clear hR hwr hr ht h gl gi gb
  go_enter Tryz.func163, Tryz.ntmps163; go_wp2_with fail
  refine k1.mono ?_; rintro e w1 ⟨rfl, q, rfl⟩; go_wp2
  go_ret2
  exact ⟨rfl, hsame q⟩
 subst q1
 have k1 := S.rat_ok br v.R (l.length + 1) 0 (by omega) 3 i gi W hR
 have c4' := fun q => (show (W.drewN q).cell? ⟨g, 4, none⟩ = _ from c4)
 by_cases q2 : k2 = 2
 case neg =>
  have ht : turn v = ⟨false, 5, v⟩ := by unfold turn; rw [hr]; simp [q2]
  rw [ht]; have k2 := fun q => S.rat_kind br v.R l.length 1 (by omega) k2 b gb 2 q2 (W.drewN q) hR
  clear hR hwr hr ht h gl gi gb
  go_enter Tryz.func163, Tryz.ntmps163; go_wp2_with fail
  refine k1.mono ?_; rintro e w1 ⟨rfl, q, rfl⟩; have d4 := c4' q; go_wp2_with fail
  refine (k2 q).mono ?_; rintro e w2 ⟨rfl, q', rfl⟩; go_wp2
  go_ret2
  exact ⟨rfl, hsame _⟩
 subst q2
 have k2 := fun q => S.rat_ok br v.R l.length 1 (by omega) 2 b gb (W.drewN q) hR
 have e1 : IntKind.u16.wrap (i + 1) = (i + 1) % 65536 := M.u16_wrap _
 by_cases q3 : (i + 1) % 65536 = b
 case neg =>
  have ht : turn v = ⟨true, 0, { v with R := l ++ [(2, b)] ++ [(3, (i + 1) % 65536)] }⟩ := by unfold turn; rw [hr]; simp [q3]
  rw [ht]; have e2 : ((i + 1) % 65536 != b) = true := by simpa using q3
  have k3 := fun q => S.rset br (l ++ [(2, b)]) 3 i ((i + 1) % 65536) (W.drewN q) (by rw [hr] at hR; exact hR)
  have hfin : ∀ q w', S.HasR w' br (l ++ [(2, b)] ++ [(3, (i + 1) % 65536)]) -> S.At br (W.drewN q) w' -> VD W w' g bd br bm kv F { v with R := l ++ [(2, b)] ++ [(3, (i + 1) % 65536)] } := by
   intro q w' a1 a2; refine At.kv h ⟨a2.os, a2.tape, a2.output, a2.size, a2.block⟩ a1 fun p hp => ?_
   rw [hr] at hwr
   rcases List.mem_append.1 hp with hp | hp
   ·exact hwr p (List.mem_append_left _ hp)
   ·simp at hp; subst hp; exact rng _
  clear hR hwr hr ht h gl gi gb hsame
  go_enter Tryz.func163, Tryz.ntmps163; go_wp2_with fail
  refine k1.mono ?_; rintro e w1 ⟨rfl, q, rfl⟩; have d4 := c4' q; go_wp2_with fail
  refine (k2 q).mono ?_; rintro e w2 ⟨rfl, q', rfl⟩; obtain ⟨r, e⟩ := M.drewN_drewN W q q'; rw [e]; have d5 := c4' r; have k3 := k3 r; clear k1 k2 d4; go_wp2_with fail
  refine k3.mono ?_; rintro e w3 ⟨rfl, a1, a2⟩; have hf := hfin r w3 a1 a2; clear a1 a2 k3 d5 c4' hfin; go_wp2
  go_ret2
  exact ⟨rfl, hf⟩
 have ht : turn v = ⟨false, 0, { v with R := l }⟩ := by unfold turn; rw [hr]; simp [q3]
 rw [ht]
 have e2 : ((i + 1) % 65536 != b) = false := by simpa using q3
 have k3 := fun q => S.rpop_ok br (l ++ [(2, b)]) 3 i (W.drewN q) (by rw [hr] at hR; exact hR)
 have hfin : ∀ q w' w'', S.At br (W.drewN q) w' -> S.HasR w'' br l -> S.At br w' w'' -> VD W w'' g bd br bm kv F { v with R := l } := by
  intro q w' w'' a1 a2 a3; have a4 : S.At br W w' := ⟨a1.os, a1.tape, a1.output, a1.size, a1.block⟩
  refine At.kv h (S.Tc.trans a4 a3 (fun _ e => e) (fun _ _ e => e)) a2 fun p hp => ?_
  rw [hr] at hwr; exact hwr p (List.mem_append_left _ (List.mem_append_left _ hp))
 have hg4 : ∀ q w', S.At br (W.drewN q) w' -> w'.cell? ⟨g, 4, none⟩ = some (.pointer (some ⟨br, 0, none⟩)) := by
  intro q w' a1; rw [World.cell?_of_block (w := W) (w' := w') (a := ⟨g, 4, none⟩) (a1.block g h.lt h.vr)]; exact c4
 clear hR hwr hr ht h gl gi gb hsame
 go_enter Tryz.func163, Tryz.ntmps163
 go_wp2_with fail
 refine k1.mono ?_
 rintro e w1 ⟨rfl, q, rfl⟩
 have d4 := c4' q
 go_wp2_with fail
 refine (k2 q).mono ?_
 rintro e w2 ⟨rfl, q', rfl⟩
 obtain ⟨r, e⟩ := M.drewN_drewN W q q'
 rw [e]
 have d5 := c4' r
 have k3 := k3 r
 clear k1 k2 d4
 go_wp2_with fail
 refine k3.mono ?_
 rintro e w3 ⟨rfl, a1, a2⟩
 have d6 := hg4 r w3 a2
 have k4 := S.rpop_ok br l 2 b w3 a1
 clear k3 d5 c4' hg4
 go_wp2_with fail
 refine k4.mono ?_
 rintro e w4 ⟨rfl, a3, a4⟩
 have hf := hfin r w3 w4 a2 a3 a4
 clear a1 a2 a3 a4 k4 d6 hfin
 go_wp2
 go_ret2
 exact ⟨rfl, hf⟩
set_option maxHeartbeats 1000000
set_option maxRecDepth 100000
theorem rest_C {D : List Int} (hD : ∀ x ∈ D, C.C x) (i : Nat) : ∀ x ∈ P.rest D i, C.C x := fun x hx => hD x (List.mem_of_mem_take hx)
theorem lk_C {R : List (Int × Int)} (hR : ∀ q ∈ R, C.C q.2) (k : Int) (bl : Nat) : C.C (P.lk k bl R).1 := by
 have z : C.C 0 := ⟨by omega, by omega⟩
 unfold P.lk
 split
 ·exact z
 ·split
  ·exact z
  ·split
   ·cases e : R[R.length - 1 - bl]? with
    | none => exact z
    | some q => exact hR q (List.mem_of_getElem? e)
   ·exact z
theorem put_C (op x y z s : Int) (m : M.MS) (hx : C.C x) (hy : C.C y) (hz : C.C z) (hs : C.C s) (hm : M.Wf m) : ∀ u ∈ P.putN op x y z s m, C.C u := by
 have h1 := M.ld_bound m hm x
 have h2 := M.ld_bound m hm ((x + 1) % 65536)
 have c1 : C.C (M.ld m x) := ⟨h1.1, by omega⟩
 have c2 : C.C (M.cl m x) := by unfold M.cl; exact ⟨by omega, by omega⟩
 have c3 : C.C m.pad := ⟨hm.pad0, by have := hm.pad1; omega⟩
 intro u hu
 unfold P.putN at hu
 split at hu
 all_goals first
  | (simp only [List.mem_cons, List.not_mem_nil, or_false] at hu; rcases hu with rfl | rfl | rfl | rfl <;> assumption)
  | (simp only [List.mem_cons, List.not_mem_nil, or_false] at hu; rcases hu with rfl | rfl | rfl <;> assumption)
  | (simp only [List.mem_cons, List.not_mem_nil, or_false] at hu; rcases hu with rfl | rfl <;> assumption)
  | (simp only [List.mem_cons, List.not_mem_nil, or_false] at hu; subst hu; assumption)
  | skip
 split at hu
 ·simp at hu; subst hu; exact C.C_un _ _
 ·split at hu
  ·simp at hu; subst hu; exact C.C_bi _ _ _
  ·simp at hu
theorem nD_C (op : Int) {D : List Int} {R : List (Int × Int)} {m : M.MS} (hD : ∀ x ∈ D, C.C x) (hR : ∀ q ∈ R, C.C q.2) (hm : M.Wf m) : ∀ x ∈ P.nD op D R m, C.C x := by
 intro x hx
 unfold P.nD at hx
 rcases List.mem_append.1 hx with hx | hx
 ·exact rest_C hD _ x hx
 ·exact put_C _ _ _ _ _ m (P.C_xAt D hD _ _) (P.C_xAt D hD _ _) (P.C_xAt D hD _ _) (lk_C hR _ _) hm x hx
theorem nR_C (op : Int) {D : List Int} {R : List (Int × Int)} (hD : ∀ x ∈ D, C.C x) (hR : ∀ q ∈ R, C.C q.2) : ∀ q ∈ P.nR op D R, C.C q.2 := by
 intro q hq
 unfold P.nR P.retN at hq
 split at hq
 ·rcases List.mem_append.1 hq with hq | hq
  ·exact hR q hq
  ·simp only [List.mem_cons, List.not_mem_nil, or_false] at hq
   rcases hq with rfl | rfl <;> exact P.C_xAt D hD _ _
 ·rcases List.mem_append.1 hq with hq | hq
  ·exact hR q hq
  ·simp only [List.mem_cons, List.not_mem_nil, or_false] at hq
   subst hq; exact P.C_xAt D hD _ _
 ·exact hR q (List.mem_of_mem_take hq)
 ·exact hR q hq
def lead (op be : Int) (v : VS) : TN := match op with
 | 1 => if 128 < v.R.length + 1 then ⟨false, 4, v⟩ else ⟨true, 0, { v with R := v.R ++ [(1, be)] }⟩
 | 5 => match v.D.reverse with
  | [] => ⟨false, 1, v⟩
  | a :: t => ⟨a == 0, 0, { v with D := t.reverse }⟩
 | _ => turn v
theorem drewB (W : World) (q : Nat) : Below W.heap.size W (W.drewN q) := ⟨rfl, rfl, rfl, Nat.le_refl _, fun _ _ => rfl⟩
theorem at_below {b : Nat} {W W1 W' : World} (hb : Below W.heap.size W W1) (h : S.At b W1 W') : S.At b W W' :=
 ⟨h.os.trans hb.os, h.tape.trans hb.tape, h.output.trans hb.output, Nat.le_trans hb.size h.size, fun k hk hn => (h.block k (Nat.lt_of_lt_of_le hk hb.size) hn).trans (hb.block k hk)⟩
theorem leads1 (g bd br bm : Nat) (kv : Value) (F : Nat -> Prop) (v : VS) (be : Int) (hbe : C.C be) (W : World) (h : MV W g bd br bm kv F v) :
  Calls Tryz.prog 120 #[.pointer (some ⟨g, 0, none⟩), .int .i64 1, .int .u16 be] W fun e W' => e = .returned (.tuple #[.bool (lead 1 be v).b, .int .i64 (lead 1 be v).f]) /\ VD W W' g bd br bm kv F (lead 1 be v).v := by
 have hb := P.bel_alloc W (.cells #[.int .i64 1, .int .u16 be] 101)
 have hs : S.Sl S.eK 2 (W.alloc (.cells #[.int .i64 1, .int .u16 be] 101)) (some ⟨W.heap.size, 0, none⟩) [(1, be)] :=
  P.sl_block S.hK _ _ _ [(1, be)] (heap_alloc_new W (.cells #[.int .i64 1, .int .u16 be] 101))
 have c4 := h.c4
 by_cases q1 : 128 < v.R.length + 1
 ·have ht : lead 1 be v = ⟨false, 4, v⟩ := by unfold lead; simp only; rw [if_pos q1]
  rw [ht]; have hp := S.rpush_no br v.R [(1, be)] (some ⟨W.heap.size, 0, none⟩) 1 _ (h.ps.r.below hb) (by simpa using q1) (by unfold S.room; simp); simp only [List.length_cons, List.length_nil, Nat.reduceAdd] at hp; have hv := h.same hb; clear h hb hs ht q1
  go_enter Tryz.func120, Tryz.ntmps120; go_wp2_with fail
  refine hp.mono ?_; rintro e w1 ⟨rfl, rfl⟩; go_wp2
  go_ret2
  exact ⟨rfl, hv⟩
 ·have ht : lead 1 be v = ⟨true, 0, { v with R := v.R ++ [(1, be)] }⟩ := by unfold lead; simp only; rw [if_neg q1]
  rw [ht]; have hp := S.rpush_yes br v.R [(1, be)] (some ⟨W.heap.size, 0, none⟩) 1 _ (h.ps.r.below hb) hs (by simp; omega); simp only [List.length_cons, List.length_nil, Nat.reduceAdd] at hp
  have hv : ∀ w', S.HasR w' br (v.R ++ [(1, be)]) -> S.At br (W.alloc (.cells #[.int .i64 1, .int .u16 be] 101)) w' -> VD W w' g bd br bm kv F { v with R := v.R ++ [(1, be)] } := fun w' a1 a2 =>
   At.kv h (at_below hb a2) a1 fun q hq => by
    rcases List.mem_append.1 hq with hq | hq
    ·exact h.wf.r q hq
    ·simp at hq; subst hq; exact hbe
  clear h hb hs ht q1
  go_enter Tryz.func120, Tryz.ntmps120; go_wp2_with fail
  refine hp.mono ?_; rintro e w1 ⟨rfl, a1, a2⟩; have hf := hv _ a1 a2; clear a1 a2 hv hp; go_wp2
  go_ret2
  exact ⟨rfl, hf⟩
theorem leads5 (g bd br bm : Nat) (kv : Value) (F : Nat -> Prop) (v : VS) (be : Int) (W : World) (h : MV W g bd br bm kv F v) :
  Calls Tryz.prog 120 #[.pointer (some ⟨g, 0, none⟩), .int .i64 5, .int .u16 be] W fun e W' => e = .returned (.tuple #[.bool (lead 5 be v).b, .int .i64 (lead 5 be v).f]) /\ VD W W' g bd br bm kv F (lead 5 be v).v := by
 have c3 := h.c3
 have hn := S.dneed bd v.D 1 0 W h.ps.d
 have hd := h.ps.d
 rcases List.eq_nil_or_concat v.D with hr | ⟨l, a, hr⟩
 ·have ht : lead 5 be v = ⟨false, 1, v⟩ := by unfold lead; simp only; rw [hr]; rfl
  rw [ht]; have e : S.need v.D.length 1 0 = 1 := by rw [hr]; rfl
  rw [e] at hn; have hv := h.same (Below.refl _ W); clear h hd ht hr e
  go_enter Tryz.func120, Tryz.ntmps120; go_wp2_with fail
  refine hn.mono ?_; rintro e w1 ⟨rfl, rfl⟩; go_wp2
  go_ret2
  exact ⟨rfl, hv⟩
 ·have hl := hd.2
  rw [hr] at hl; have ht : lead 5 be v = ⟨a == 0, 0, { v with D := l }⟩ := by unfold lead; simp only; rw [hr]; simp
  rw [ht]
  have e : S.need v.D.length 1 0 = 0 := by
   rw [hr]; unfold S.need; simp at hl ⊢; rw [if_neg (by omega)]; rw [if_neg (by omega)]
  rw [e] at hn; have hp := S.dpop bd l a W (by rw [hr] at hd; simpa using hd)
  have hv : ∀ w', S.HasD w' bd l -> S.At bd W w' -> VD W w' g bd br bm kv F { v with D := l } := fun w' a1 a2 =>
   At.kd h a2 a1 fun x hx => h.wf.d x (by rw [hr]; simp [hx])
  clear h hd ht hr e hl
  go_enter Tryz.func120, Tryz.ntmps120; go_wp2_with fail
  refine hn.mono ?_; rintro e w1 ⟨rfl, rfl⟩; go_wp2_with fail
  refine hp.mono ?_; rintro e w2 ⟨rfl, a1, a2⟩; have hf := hv _ a1 a2; clear a1 a2 hv hp hn; go_wp2
  go_ret2
  exact ⟨rfl, hf⟩
theorem leads7 (g bd br bm : Nat) (kv : Value) (F : Nat -> Prop) (v : VS) (be : Int) (W : World) (h : MV W g bd br bm kv F v) :
  Calls Tryz.prog 120 #[.pointer (some ⟨g, 0, none⟩), .int .i64 7, .int .u16 be] W fun e W' => e = .returned (.tuple #[.bool (lead 7 be v).b, .int .i64 (lead 7 be v).f]) /\ VD W W' g bd br bm kv F (lead 7 be v).v := by
 have ht : lead 7 be v = turn v := rfl
 rw [ht]
 have hn := turns_any g bd br bm kv F v W h
 clear h ht
 go_enter Tryz.func120, Tryz.ntmps120
 go_wp2_with fail
 refine hn.mono ?_
 rintro e w1 ⟨rfl, hf⟩
 clear hn
 go_wp2
 go_ret2
 exact ⟨rfl, hf⟩
set_option maxHeartbeats 2000000
set_option maxRecDepth 100000
theorem pd_drew {W w' : World} {bd br bm : Nat} {F : Nat -> Prop} {D : List Int} {R : List (Int × Int)} {m : M.MS} (h : P.PD W.drew w' bd br bm F D R m) : P.PD W w' bd br bm F D R m :=
 ⟨h.s, ⟨h.t.os, h.t.tape, h.t.output, h.t.size, h.t.block⟩⟩
theorem bel_drew {W w' : World} (h : Below W.drew.heap.size W.drew w') : Below W.heap.size W w' := ⟨h.os, h.tape, h.output, h.size, h.block⟩
def DnO (op x be : Int) (v : VS) (g bd br bm : Nat) (kv : Value) (F : Nat -> Prop) (W : World) : Prop :=
 Calls Tryz.prog 89 #[.pointer (some ⟨g, 0, none⟩), .int .i64 op, .int .u16 x, .int .u16 be] W fun e W' => e = .returned (.tuple #[.int .u16 (dn op x be v).on, .int .i64 (dn op x be v).f]) /\ VD W W' g bd br bm kv F (dn op x be v).v
theorem dn_pl (op x be : Int) (v : VS) (h : P.plain op = true) : dn op x be v = pl op be v := by
 rcases P.plain_cases op h with rfl | rfl | rfl | rfl | rfl | rfl | rfl | rfl | rfl | rfl | rfl | rfl | rfl | rfl | rfl | rfl | rfl | rfl | rfl | rfl | rfl | rfl | rfl | rfl | rfl | rfl | rfl | rfl | rfl | rfl | rfl | rfl | rfl | rfl | rfl | rfl | rfl | rfl | rfl | rfl | rfl | rfl | rfl | rfl | rfl | rfl | rfl | rfl | rfl | rfl | rfl | rfl | rfl | rfl <;> rfl
section
variable (x be : Int) (v : VS) (g bd br bm : Nat) (kv : Value) (F : Nat -> Prop) (W : World)
theorem done_10 (h : MV W g bd br bm kv F v) : DnO 10 x be v g bd br bm kv F W := by
 unfold DnO
 have ht : dn 10 x be v = ⟨be, 0, v⟩ := rfl
 rw [ht]
 have hv := h.same (Below.refl _ W)
 clear h
 go_enter Tryz.func89, Tryz.ntmps89
 go_wp2
 go_ret2
 exact ⟨rfl, hv⟩
theorem done_4 (h : MV W g bd br bm kv F v) : DnO 4 x be v g bd br bm kv F W := by
 unfold DnO
 have ht : dn 4 x be v = ⟨x, 0, v⟩ := rfl
 rw [ht]
 have hv := h.same (Below.refl _ W)
 clear h
 go_enter Tryz.func89, Tryz.ntmps89
 go_wp2
 go_ret2
 exact ⟨rfl, hv⟩
theorem halts (h : MV W g bd br bm kv F v) : VD W (W.setCell ⟨g, 1, none⟩ (.int .i64 2)) g bd br bm kv F { v with st := 2 } :=
 (h.same (Below.refl _ W)).set h 1 _ ((h.same (Below.refl _ W)).s.set 1 _ rfl rfl rfl rfl rfl ⟨h.wf.pc0, h.wf.pc1, h.wf.d, h.wf.r⟩)
theorem done_11 (h : MV W g bd br bm kv F v) : DnO 11 x be v g bd br bm kv F W := by
 unfold DnO
 have ht : dn 11 x be v = ⟨be, 0, { v with st := 2 }⟩ := rfl
 rw [ht]
 have hv := halts v g bd br bm kv F W h
 have c1 := h.c1
 have z1 := fz h 1
 clear h
 go_enter Tryz.func89, Tryz.ntmps89
 go_wp2
 go_ret2
 exact ⟨rfl, hv⟩
theorem done_8 (h : MV W g bd br bm kv F v) : DnO 8 x be v g bd br bm kv F W := by
 unfold DnO
 have c4 := h.c4
 have kl := S.rlen br v.R W h.ps.r
 rcases List.eq_nil_or_concat v.R with hr | ⟨l, ⟨k, a⟩, hr⟩
 ·have ht : dn 8 x be v = ⟨be, 0, { v with st := 2 }⟩ := by unfold dn; simp only; rw [hr]; rfl
  rw [ht]; have hv := halts v g bd br bm kv F W h; have c1 := h.c1; have z1 := fz h 1; rw [hr] at kl; simp only [List.length_nil] at kl; clear h ht hr
  go_enter Tryz.func89, Tryz.ntmps89; go_wp2_with fail
  refine kl.mono ?_; rintro e w1 ⟨rfl, rfl⟩; go_wp2
  go_ret2
  exact ⟨rfl, hv⟩
 ·have hR := h.ps.r
  rw [hr] at hR kl; simp only [List.concat_eq_append] at hR kl; have hpos : decide (0 < (((l ++ [(k, a)]).length : Nat) : Int)) = true := decide_eq_true (by rw [List.length_append]; simp only [List.length_cons, List.length_nil]; omega); generalize (((l ++ [(k, a)]).length : Nat) : Int) = K at *
  by_cases q1 : k = 1
  ·subst q1
   have ht : dn 8 x be v = ⟨a, 0, { v with R := l }⟩ := by unfold dn; simp only; rw [hr]; simp
   rw [ht]; have hp := S.rpop_ok br l 1 a W hR
   have hv : ∀ w', S.HasR w' br l -> S.At br W w' -> VD W w' g bd br bm kv F { v with R := l } := fun w' a1 a2 =>
    At.kv h a2 a1 fun q hq => h.wf.r q (by rw [hr]; simp [hq])
   clear h ht hr hR
   go_enter Tryz.func89, Tryz.ntmps89; go_wp2_with fail
   refine kl.mono ?_; rintro e w1 ⟨rfl, rfl⟩; go_wp2_with fail
   refine hp.mono ?_; rintro e w2 ⟨rfl, a1, a2⟩; have hf := hv _ a1 a2; clear a1 a2 hv hp kl; go_wp2
   go_ret2
   exact ⟨rfl, hf⟩
  ·have ht : dn 8 x be v = ⟨0, 5, v⟩ := by unfold dn; simp only; rw [hr]; simp [q1]
   rw [ht]; have hp := S.rpop_kind br l k a 1 q1 W hR; have hv : ∀ q, VD W (W.drewN q) g bd br bm kv F v := fun q => h.same (drewB W q)
   clear h ht hr hR q1
   go_enter Tryz.func89, Tryz.ntmps89; go_wp2_with fail
   refine kl.mono ?_; rintro e w1 ⟨rfl, rfl⟩; go_wp2_with fail
   refine hp.mono ?_; rintro e w2 ⟨rfl, q, rfl⟩; clear hp kl; go_wp2
   go_ret2
   exact ⟨rfl, hv q⟩
end
theorem done_push (op : Int) (ho : op = 2 \/ op = 3) (x be : Int) (hx : C.C x) (v : VS) (g bd br bm : Nat) (kv : Value) (F : Nat -> Prop) (W : World) (h : MV W g bd br bm kv F v) : DnO op x be v g bd br bm kv F W := by
 unfold DnO
 have hb := P.bel_alloc W (.cells #[.int .u16 x] 23)
 have hs : S.Sl S.eU 1 (W.alloc (.cells #[.int .u16 x] 23)) (some ⟨W.heap.size, 0, none⟩) [x] :=
  P.sl_block S.hU _ _ _ [x] (heap_alloc_new W (.cells #[.int .u16 x] 23))
 have c3 := h.c3
 have o1 : (op == 10) = false := by rcases ho with rfl | rfl <;> rfl
 by_cases q1 : 256 < v.D.length + 1
 ·have ht : dn op x be v = ⟨be, 2, v⟩ := by rcases ho with rfl | rfl <;> (unfold dn; simp only; rw [if_pos q1])
  rw [ht]; have hp := S.dpush_no bd v.D [x] (some ⟨W.heap.size, 0, none⟩) 1 _ (h.ps.d.below hb) (by simpa using q1) (by unfold S.room; simp); simp only [List.length_cons, List.length_nil, Nat.reduceAdd] at hp; have hv := h.same hb; clear h hb hs ht q1 o1
  rcases ho with rfl | rfl
  all_goals
   go_enter Tryz.func89, Tryz.ntmps89; go_wp2_with fail
   refine hp.mono ?_; rintro e w1 ⟨rfl, rfl⟩; go_wp2
   go_ret2
   exact ⟨rfl, hv⟩
 ·have ht : dn op x be v = ⟨be, 0, { v with D := v.D ++ [x] }⟩ := by rcases ho with rfl | rfl <;> (unfold dn; simp only; rw [if_neg q1])
  rw [ht]; have hp := S.dpush_yes bd v.D [x] (some ⟨W.heap.size, 0, none⟩) 1 _ (h.ps.d.below hb) hs (by simp; omega); simp only [List.length_cons, List.length_nil, Nat.reduceAdd] at hp
  have hv : ∀ w', S.HasD w' bd (v.D ++ [x]) -> S.At bd (W.alloc (.cells #[.int .u16 x] 23)) w' -> VD W w' g bd br bm kv F { v with D := v.D ++ [x] } := fun w' a1 a2 =>
   At.kd h (at_below hb a2) a1 fun q hq => by
    rcases List.mem_append.1 hq with hq | hq
    ·exact h.wf.d q hq
    ·simp at hq; subst hq; exact hx
  clear h hb hs ht q1 o1
  rcases ho with rfl | rfl
  all_goals
   go_enter Tryz.func89, Tryz.ntmps89; go_wp2_with fail
   refine hp.mono ?_; rintro e w1 ⟨rfl, a1, a2⟩; have hf := hv _ a1 a2; clear a1 a2 hv hp; go_wp2
   go_ret2
   exact ⟨rfl, hf⟩
theorem dn_lead (op : Int) (ho : op = 1 \/ op = 5 \/ op = 7) (x be : Int) (v : VS) : dn op x be v = if (lead op be v).b then ⟨x, 0, (lead op be v).v⟩ else ⟨be, (lead op be v).f, (lead op be v).v⟩ := by
 rcases ho with rfl | rfl | rfl
 ·unfold dn lead; simp only
  split <;> rfl
 ·unfold dn lead; simp only
  cases v.D.reverse with
  | nil => rfl
  | cons a t =>
   by_cases q : a = 0
   ·simp [q]
   ·simp [q]
 ·rfl
theorem lead_f (op : Int) (ho : op = 1 \/ op = 5 \/ op = 7) (be : Int) (v : VS) (W : World) (g bd br bm : Nat) (kv : Value) (F : Nat -> Prop) (hbe : C.C be) (h : MV W g bd br bm kv F v) :
  Calls Tryz.prog 120 #[.pointer (some ⟨g, 0, none⟩), .int .i64 op, .int .u16 be] W fun e W' => e = .returned (.tuple #[.bool (lead op be v).b, .int .i64 (lead op be v).f]) /\ VD W W' g bd br bm kv F (lead op be v).v := by
 rcases ho with rfl | rfl | rfl
 ·exact leads1 g bd br bm kv F v be hbe W h
 ·exact leads5 g bd br bm kv F v be W h
 ·exact leads7 g bd br bm kv F v be W h
theorem done_lead (op : Int) (ho : op = 1 \/ op = 5 \/ op = 7) (x be : Int) (hbe : C.C be) (v : VS) (g bd br bm : Nat) (kv : Value) (F : Nat -> Prop) (W : World) (h : MV W g bd br bm kv F v) : DnO op x be v g bd br bm kv F W := by
 unfold DnO
 have hn := lead_f op ho be v W g bd br bm kv F hbe h
 have hd := dn_lead op ho x be v
 generalize dn op x be v = d at *
 generalize lead op be v = t at *
 obtain ⟨b, f, v'⟩ := t
 simp only at hn hd
 clear h
 cases b with
 | true =>
  rw [if_pos rfl] at hd; subst hd
  rcases ho with rfl | rfl | rfl
  all_goals
   go_enter Tryz.func89, Tryz.ntmps89; go_wp2_with fail
   refine hn.mono ?_; rintro e w1 ⟨rfl, hf⟩; clear hn; go_wp2
   go_ret2
   exact ⟨rfl, hf⟩
 | false =>
  rw [if_neg (by simp)] at hd; subst hd
  rcases ho with rfl | rfl | rfl
  all_goals
   go_enter Tryz.func89, Tryz.ntmps89; go_wp2_with fail
   refine hn.mono ?_; rintro e w1 ⟨rfl, hf⟩; clear hn; go_wp2
   go_ret2
   exact ⟨rfl, hf⟩
theorem done_plain (op : Int) (hp : P.plain op = true) (x be : Int) (v : VS) (ht : v.m.tones.length <= 999000) (g bd br bm : Nat) (kv : Value) (F : Nat -> Prop) (W : World) (h : MV W g bd br bm kv F v) : DnO op x be v g bd br bm kv F W := by
 unfold DnO
 rw [dn_pl op x be v hp]
 have hk : h = h := rfl
 have hw : Below W.heap.size W W.drew := ⟨rfl, rfl, rfl, Nat.le_refl _, fun _ _ => rfl⟩
 have hM := h.below hw
 have hdo := P.do_any op hp bd br bm F v.D v.R v.m h.wf.d ht W.drew hM.ps
 have hv : ∀ w', (P.fl op v.D v.R ≠ 0 -> Below W.drew.heap.size W.drew w') /\ (P.fl op v.D v.R = 0 -> P.PD W.drew w' bd br bm F (P.nD op v.D v.R v.m) (P.nR op v.D v.R) (P.nM op v.D v.m)) -> VD W w' g bd br bm kv F (pl op be v).v := by
  intro w' ⟨k1, k2⟩; unfold pl
  by_cases q : P.fl op v.D v.R = 0
  ·simp only [q, if_true]
   have := h.goes (W' := w') (pd_drew (k2 q)) (nD_C op h.wf.d h.wf.r h.ps.m.wf) (nR_C op h.wf.d h.wf.r); exact this
  ·simp only [q, if_false]
   exact h.same (bel_drew (k1 q))
 have ef : (pl op be v).f = P.fl op v.D v.R := rfl
 have eo : (pl op be v).on = be := rfl
 rw [ef, eo]
 have o : ∀ k : Int, k = 10 \/ k = 8 \/ k = 11 \/ k = 2 \/ k = 3 \/ k = 1 \/ k = 5 \/ k = 7 \/ k = 4 -> (op == k) = false := by
  intro k hk; unfold P.plain at hp; simp only [Bool.or_eq_true, Bool.and_eq_true, beq_iff_eq, decide_eq_true_eq] at hp; rw [beq_eq_false_iff_ne]; omega
 have o10 := o 10 (by decide)
 have o8 := o 8 (by decide)
 have o11 := o 11 (by decide)
 have o2 := o 2 (by decide)
 have o3 := o 3 (by decide)
 have o1 := o 1 (by decide)
 have o5 := o 5 (by decide)
 have o7 := o 7 (by decide)
 have o4 := o 4 (by decide)
 have s0 := And.intro hM.c3 (And.intro hM.c4 hM.c6)
 generalize P.fl op v.D v.R = fl at *
 have HV := S.hid hv
 clear h hk hM hw hv ef eo o ht hp
 go_enter Tryz.func89, Tryz.ntmps89
 go_wp2_with fail
 go_region_held (fun w' => w'.cell? ⟨g, 3, none⟩ = some (.pointer (some ⟨bd, 0, none⟩)) /\ w'.cell? ⟨g, 4, none⟩ = some (.pointer (some ⟨br, 0, none⟩)) /\ w'.cell? ⟨g, 6, none⟩ = some (.pointer (some ⟨bm, 0, none⟩)))
  (first | (with_reducible exact s0) | (with_reducible exact s1))
  (first | (go_at_call 121; refine hdo.mono ?_; rintro e q1 ⟨rfl, hE⟩; have hF := HV.out q1 hE; have s1 := And.intro hF.s.c3 (And.intro hF.s.c4 hF.s.c6)))
 have HF := S.hid hF
 clear hE hF s0 s1 HV hdo
 go_wp2
 go_ret2
 exact ⟨rfl, HF.out⟩
theorem done_any (op : Nat) (h1 : 1 <= op) (h2 : op < 64) (x be : Int) (hx : C.C x) (hbe : C.C be) (v : VS) (ht : v.m.tones.length <= 999000) (g bd br bm : Nat) (kv : Value) (F : Nat -> Prop) (W : World) (h : MV W g bd br bm kv F v) : DnO (op : Int) x be v g bd br bm kv F W := by
 by_cases a1 : op = 1 \/ op = 5 \/ op = 7
 ·exact done_lead op (by omega) x be hbe v g bd br bm kv F W h
 by_cases a2 : op = 2 \/ op = 3
 ·exact done_push op (by omega) x be hx v g bd br bm kv F W h
 by_cases a3 : op = 4
 ·subst a3; exact done_4 x be v g bd br bm kv F W h
 by_cases a4 : op = 8
 ·subst a4; exact done_8 x be v g bd br bm kv F W h
 by_cases a5 : op = 10
 ·subst a5; exact done_10 x be v g bd br bm kv F W h
 by_cases a6 : op = 11
 ·subst a6; exact done_11 x be v g bd br bm kv F W h
 refine done_plain op ?_ x be v ht g bd br bm kv F W h
 unfold P.plain
 simp only [Bool.or_eq_true, Bool.and_eq_true, beq_iff_eq, decide_eq_true_eq]
 omega
theorem dn_pc (op x be : Int) (v : VS) : (dn op x be v).v.pc = v.pc := by
 unfold dn
 split
 ·split <;> rfl
 ·split <;> rfl
 ·split <;> rfl
 ·rfl
 ·split <;> rfl
 ·have : (turn v).v.pc = v.pc := by
   unfold turn
   split
   ·rfl
   ·split
    ·rfl
    ·split
     ·rfl
     ·split
      ·rfl
      ·split <;> rfl
  split <;> exact this
 ·split
  ·rfl
  ·split <;> rfl
 ·rfl
 ·rfl
 ·unfold pl; simp only; split <;> rfl
theorem VD.set0 {W W1 : World} {g bd br bm : Nat} {kv : Value} {F : Nat -> Prop} {v v1 : VS} (h : VD W W1 g bd br bm kv F v1) (h0 : MV W g bd br bm kv F v) (on : Int) (hon : C.C on) :
  VD W (W1.setCell ⟨g, 0, none⟩ (.int .u16 on)) g bd br bm kv F { v1 with pc := on } := by
 have k := h.s.set (v' := { v1 with pc := on }) 0 (.int .u16 on) rfl rfl rfl rfl rfl ⟨hon.1, hon.2, h.s.wf.d, h.s.wf.r⟩
 refine ⟨?_, h.t.setCell g 0 (.inl rfl) _⟩
 have e : M.gr F W (W1.setCell ⟨g, 0, none⟩ (.int .u16 on)) = M.gr F W W1 := by unfold M.gr; rw [S.setCell_size]
 rw [e]; exact k
theorem turn_same (v : VS) : (turn v).f ≠ 0 -> (turn v).v = v := by
 unfold turn
 split
 ·intro _; rfl
 ·split
  ·intro _; rfl
  ·split
   ·intro _; rfl
   ·split
    ·intro _; rfl
    ·split
     ·intro h; exact absurd rfl h
     ·intro h; exact absurd rfl h
theorem dn_same (op x be : Int) (v : VS) : (dn op x be v).f ≠ 0 -> (dn op x be v).v = v := by
 unfold dn
 split
 ·split
  ·intro _; rfl
  ·intro h; exact absurd rfl h
 ·split
  ·intro _; rfl
  ·intro h; exact absurd rfl h
 ·split
  ·intro _; rfl
  ·intro h; exact absurd rfl h
 ·intro h; exact absurd rfl h
 ·split
  ·intro _; rfl
  ·intro h; exact absurd rfl h
 ·split
  ·intro h; exact absurd rfl h
  ·intro h; exact turn_same v h
 ·split
  ·intro h; exact absurd rfl h
  ·split
   ·intro h; exact absurd rfl h
   ·intro _; rfl
 ·intro h; exact absurd rfl h
 ·intro h; exact absurd rfl h
 ·intro h
  unfold pl at h ⊢; simp only at h ⊢; rw [if_neg h]
theorem dn_on_C (op x be : Int) (v : VS) (hx : C.C x) (hbe : C.C be) (hr : ∀ q ∈ v.R, C.C q.2) : C.C (dn op x be v).on := by
 have z : C.C 0 := ⟨by omega, by omega⟩
 unfold dn
 split
 ·split <;> assumption
 ·split <;> assumption
 ·split <;> assumption
 ·assumption
 ·split
  ·assumption
  ·simp only; split <;> assumption
 ·split <;> assumption
 ·split
  ·assumption
  ·rename_i k a t e
   split
   ·simp only; exact hr (k, a) (by have := congrArg List.reverse e; rw [List.reverse_reverse] at this; rw [this]; simp)
   ·assumption
 ·assumption
 ·assumption
 ·unfold pl; assumption
theorem do_any (op : Nat) (h1 : 1 <= op) (h2 : op < 64) (x : Int) (hx : C.C x) (v : VS) (ht : v.m.tones.length <= 999000) (g bd br bm : Nat) (kv : Value) (F : Nat -> Prop) (W : World) (h : MV W g bd br bm kv F v) :
  Calls Tryz.prog 49 #[.pointer (some ⟨g, 0, none⟩), P.rowN op, .int .u16 x] W fun e W' => e = .returned (.int .i64 (doo op x v).1) /\ VD W W' g bd br bm kv F (doo op x v).2 := by
 obtain ⟨W1, hW1⟩ : ∃ W1, W1 = W.alloc (.cells #[.int .i64 (op : Int), .string (P.nm op), .int .i64 (P.ri op), .int .i64 (P.ro op), .int .i64 (P.rc op), .bool (P.rb op)] 49) := ⟨_, rfl⟩
 have hB : Below W.heap.size W W1 := by rw [hW1]; exact P.bel_alloc W _
 have hz := heap_alloc_new W (.cells #[.int .i64 (op : Int), .string (P.nm op), .int .i64 (P.ri op), .int .i64 (P.ro op), .int .i64 (P.rc op), .bool (P.rb op)] 49)
 rw [<- hW1] at hz
 have z0 : W1.cell? ⟨W.heap.size, 0, none⟩ = some (.int .i64 (op : Int)) := S.cell_of W1 _ 0 [.int .i64 (op : Int), .string (P.nm op), .int .i64 (P.ri op), .int .i64 (P.ro op), .int .i64 (P.rc op), .bool (P.rb op)] _ _ hz rfl
 have z5 : W1.cell? ⟨W.heap.size, 5, none⟩ = some (.bool (P.rb op)) := S.cell_of W1 _ 5 [.int .i64 (op : Int), .string (P.nm op), .int .i64 (P.ri op), .int .i64 (P.ro op), .int .i64 (P.rc op), .bool (P.rb op)] _ _ hz rfl
 have hM := h.below hB
 have c0 := hM.c0
 have hbe : C.C (beh v.pc op) := by unfold beh; split <;> exact rng _
 have kd := done_any op h1 h2 x (beh v.pc op) hx hbe v ht g bd br bm kv F W1 hM
 unfold DnO at kd
 have hsame := dn_same op x (beh v.pc op) v
 have hon := dn_on_C op x (beh v.pc op) v hx hbe h.wf.r
 have e1 := u16_2 v.pc
 have e2 : IntKind.u16.wrap ((v.pc + 2) % 65536 + 2) = (v.pc + 4) % 65536 := by rw [M.u16_wrap]; omega
 have hV : ∀ w', VD W1 w' g bd br bm kv F (dn op x (beh v.pc op) v).v -> VD W w' g bd br bm kv F (dn op x (beh v.pc op) v).v := fun w' k =>
  VD.pre h hB k
 have hD : doo op x v = ((dn op x (beh v.pc op) v).f, if (dn op x (beh v.pc op) v).f = 0 then { (dn op x (beh v.pc op) v).v with pc := (dn op x (beh v.pc op) v).on } else v) := rfl
 rw [hD]
 generalize hdd : dn op x (beh v.pc op) v = d at *
 have hpc : d.v.pc = v.pc /\ True := ⟨by rw [<- hdd]; exact dn_pc op x (beh v.pc op) v, trivial⟩
 obtain ⟨on, f, v'⟩ := d
 simp only at *
 obtain ⟨vv, hvv⟩ : ∃ vv, vv = (if f = 0 then { v' with pc := on } else v) := ⟨_, rfl⟩
 rw [<- hvv]
 have HVV := S.hid hvv
 clear hvv
 unfold P.rowN P.rowV
 have hbeh : beh v.pc op = if P.rb op then (v.pc + 4) % 65536 else (v.pc + 2) % 65536 := rfl
 rw [hbeh] at kd
 have HV := S.hid hV
 have HS := S.hid hsame
 have HO := S.hid hon
 have H0 := S.hid h
 clear hV hsame hon h hM hbe hD hdd hz hbeh
 by_cases q1 : P.rb op = true
 ·rw [if_pos q1] at kd
  rw [q1] at z5 hW1 ⊢; subst hW1
  go_enter Tryz.func49, Tryz.ntmps49; go_wp2_with fail
  refine kd.mono ?_; rintro e w1 ⟨rfl, hf⟩; have hF := HV.out w1 hf
  by_cases q2 : f = 0
  ·subst q2
   have e : vv = { v' with pc := on } := by rw [HVV.out, if_pos rfl]
   subst e; have c0' := hF.s.c0; have zf := fz hF.s 0; have hfin := hF.set0 H0.out on HO.out; have HF := S.hid hfin; clear hF hf kd hfin; go_wp2; go_ret; exact ⟨rfl, HF.out⟩
  ·have e : vv = v := by rw [HVV.out, if_neg q2]
   subst e; have q2' : (f == 0) = false := by simpa using q2
   rw [HS.out q2] at hF; have HF := S.hid hF; clear hF hf kd; go_wp2; go_ret; exact ⟨rfl, HF.out⟩
 ·have q1' : P.rb op = false := by simpa using q1
  rw [if_neg q1] at kd; rw [q1'] at z5 hW1 ⊢; subst hW1
  go_enter Tryz.func49, Tryz.ntmps49; go_wp2_with fail
  refine kd.mono ?_; rintro e w1 ⟨rfl, hf⟩; have hF := HV.out w1 hf
  by_cases q2 : f = 0
  ·subst q2
   have e : vv = { v' with pc := on } := by rw [HVV.out, if_pos rfl]
   subst e; have c0' := hF.s.c0; have zf := fz hF.s 0; have hfin := hF.set0 H0.out on HO.out; have HF := S.hid hfin; clear hF hf kd hfin; go_wp2; go_ret; exact ⟨rfl, HF.out⟩
  ·have e : vv = v := by rw [HVV.out, if_neg q2]
   subst e; have q2' : (f == 0) = false := by simpa using q2
   rw [HS.out q2] at hF; have HF := S.hid hF; clear hF hf kd; go_wp2; go_ret; exact ⟨rfl, HF.out⟩
set_option maxHeartbeats 2000000
set_option maxRecDepth 100000
theorem st_tones (m : M.MS) (z : Int) (x : UInt8) : (M.st m z x).tones.length <= m.tones.length + 1 := by
 unfold M.st
 split
 ·omega
 ·split
  ·split <;> simp
  ·split
   ·simp
   ·split
    ·simp
    ·unfold M.stp
     split
     ·simp
     ·split
      ·simp
      ·split
       ·simp
       ·split <;> simp
theorem mem_tones (op x y z : Int) (m : M.MS) : (P.memN op x y z m).tones.length <= m.tones.length + 3 := by
 have sc : ∀ (m : M.MS) (a b : Int), (M.sc m a b).tones.length <= m.tones.length + 2 := fun m a b => by
  have h1 := st_tones (M.st m a (M.b8 b)) ((a + 1) % 65536) (M.b8 (b / 256)); have h2 := st_tones m a (M.b8 b); unfold M.sc; omega
 unfold P.memN
 split
 ·have := sc m y x; omega
 ·have := st_tones m y (M.b8 x); omega
 ·have := sc m y ((M.cl m y + x) % 65536); omega
 ·unfold M.plt
  split
  ·have := st_tones m (49152 + 64 * y + x) (M.b8 z); omega
  ·omega
 ·have h1 := st_tones (M.sc m 65284 x) 65286 (M.b8 y)
  have h2 := sc m 65284 x
  omega
 ·have := st_tones m 65280 (M.b8 x); omega
 ·omega
theorem turn_m (v : VS) : (turn v).v.m = v.m := by
 unfold turn
 split
 ·rfl
 ·split
  ·rfl
  ·split
   ·rfl
   ·split
    ·rfl
    ·split <;> rfl
theorem dn_tones (op x be : Int) (v : VS) : (dn op x be v).v.m.tones.length <= v.m.tones.length + 3 := by
 unfold dn
 split
 ·split <;> simp
 ·split <;> simp
 ·split <;> simp
 ·simp
 ·split <;> simp
 ·split <;> simp [turn_m]
 ·split
  ·simp
  ·split <;> simp
 ·simp
 ·simp
 ·unfold pl; simp only
  split
  ·exact mem_tones _ _ _ _ _
  ·omega
theorem doo_tones (op : Nat) (x : Int) (v : VS) : (doo op x v).2.m.tones.length <= v.m.tones.length + 3 := by
 unfold doo; simp only
 split
 ·exact dn_tones _ _ _ _
 ·omega
theorem opd_C {c : List UInt8} {pc w : Int} {op : Nat} {x : Int} (h : opd c pc w op = some x) : C.C x := by
 unfold opd at h
 split at h
 ·exact cel_r h
 ·split at h
  ·exact cel_r h
  ·split at h
   ·cases h; exact rng _
   ·cases h; exact ⟨by omega, by omega⟩
theorem look_ok (v : VS) (hs : v.st = 1) : (look v).f = 0 -> 1 <= (look v).op /\ (look v).op < 64 /\ C.C (look v).x := by
 unfold look look0 look1 look2
 rw [if_pos hs]
 split
 ·intro h; exact absurd h (by decide)
 ·split
  ·intro h; exact absurd h (by decide)
  ·rename_i op _
   by_cases q : op < 1 \/ 64 <= op
   ·rw [if_pos q]; intro h; exact absurd h (by decide)
   ·rw [if_neg q]
    split
    ·intro h; exact absurd h (by decide)
    ·rename_i ho
     intro _; exact ⟨by simp only; omega, by simp only; omega, opd_C ho⟩
theorem look_no (v : VS) : (look v).f ≠ 0 -> (look v).op = 0 := by
 unfold look look0 look1 look2
 split
 ·split
  ·intro _; rfl
  ·split
   ·intro _; rfl
   ·split
    ·intro _; rfl
    ·split
     ·intro _; rfl
     ·intro h; exact absurd rfl h
 ·intro h; exact absurd rfl h
theorem made1 (w1 : World) (c : Array Value) :
  (w1.alloc (.cells #[.int .i64 0, .string { data := #[] }, .int .i64 0, .int .i64 0, .int .i64 0, .bool false] 49)).heap[w1.heap.size]? = some (.cells P.zR 49 (0, 0)) /\
  ((w1.alloc (.cells #[.int .i64 0, .string { data := #[] }, .int .i64 0, .int .i64 0, .int .i64 0, .bool false] 49)).setRow w1.heap.size c).heap[w1.heap.size]? = some (.cells c 49 (0, 0)) /\
  Below w1.heap.size w1 ((w1.alloc (.cells #[.int .i64 0, .string { data := #[] }, .int .i64 0, .int .i64 0, .int .i64 0, .bool false] 49)).setRow w1.heap.size c) := by
 have a1 := heap_alloc_new w1 (.cells #[.int .i64 0, .string { data := #[] }, .int .i64 0, .int .i64 0, .int .i64 0, .bool false] 49)
 have a2 := P.bel_alloc w1 (.cells #[.int .i64 0, .string { data := #[] }, .int .i64 0, .int .i64 0, .int .i64 0, .bool false] 49)
 exact ⟨a1, setRow_heap _ _ _ _ _ _ a1, P.Below.setRow a2 w1.heap.size (Nat.le_refl _) c⟩
theorem step_any (v : VS) (ht : v.m.tones.length <= 999000) (g bd br bm : Nat) (kv : Value) (F : Nat -> Prop) (W : World) (h : MV W g bd br bm kv F v) :
  Calls Tryz.prog 16 #[.pointer (some ⟨g, 0, none⟩)] W fun e W' => e = .returned (.bool (step v).1) /\ VD W W' g bd br bm kv F (step v).2 := by
 have c1 := h.c1
 have hL := look_any g bd br bm kv F v W h
 by_cases q1 : v.st = 1
 case neg =>
  have e : step v = (false, v) := by unfold step; rw [if_neg q1]
  rw [e]; have e1 : (v.st != 1) = true := by simpa using q1
  have hv := h.same (Below.refl _ W); clear h hL
  go_enter Tryz.func16, Tryz.ntmps16; go_wp2; go_ret; exact ⟨rfl, hv⟩
 have e1 : (v.st != 1) = false := by simpa using q1
 obtain ⟨R, hR⟩ : ∃ R, R = step v := ⟨_, rfl⟩
 rw [<- hR]
 have HR := S.hid hR
 have H0 := S.hid h
 by_cases q2 : (look v).f = 0
 case neg =>
  have e : R = (false, fail (look v).f v) := by rw [HR.out]; unfold step; rw [if_pos q1, if_neg q2]
  subst e; have ep : prV (look v).op = P.rowV 0 ⟨#[]⟩ 0 0 0 false := by rw [look_no v q2]; rfl
  rw [ep] at hL; unfold P.rowV at hL; have f1 : ((look v).f == 0) = false := by simpa using q2
  have f2 : ((look v).f != 0) = true := by simpa using q2
  generalize (look v).f = f at *
  generalize (look v).x = x at *
  clear h hR HR ep
  go_enter Tryz.func16, Tryz.ntmps16; go_wp2_with fail
  refine hL.mono ?_; rintro e w1 ⟨rfl, h1⟩; obtain ⟨az, ar, aB⟩ := made1 w1 #[.int .i64 0, .string { data := #[] }, .int .i64 0, .int .i64 0, .int .i64 0, .bool false]; have hB := trB h1 aB h1.size; have hM := H0.out.below hB; have kf := fail_any g bd br bm kv F v f _ hM; clear hL h1 aB hM c1; go_wp2_with (refine wpList_store_row rfl 49 _ _ rfl w1.heap.size _ rfl rfl 49 P.zR az (by exact P.sizeR) (by rfl) (by simp [Value.oneCell']) ?_)
  refine kf.mono ?_; rintro e w2 ⟨rfl, hf⟩; have hF := S.hid (VD.pre H0.out hB hf); clear kf hf hB az ar; go_wp2; go_ret; exact ⟨rfl, hF.out⟩
 obtain ⟨o1, o2, hx⟩ := look_ok v q1 q2
 have ep : prV (look v).op = P.rowN (look v).op := by rw [prV, if_neg (by omega)]
 have hRR : R = if (doo (look v).op (look v).x v).1 = 0 then ((look v).op == 10, (doo (look v).op (look v).x v).2) else (false, fail (doo (look v).op (look v).x v).1 v) := by rw [HR.out]; unfold step; rw [if_pos q1, if_pos q2]
 have HRR := S.hid hRR
 rw [ep, q2] at hL
 unfold P.rowN P.rowV at hL
 generalize (look v).op = op at *
 generalize (look v).x = x at *
 have hsm : (doo op x v).1 ≠ 0 -> (doo op x v).2 = v := fun hne => by unfold doo at hne ⊢; simp only at hne ⊢; rw [if_neg hne]
 have HSM := S.hid hsm
 have HX := S.hid (show 1 <= op /\ op < 64 /\ C.C x from ⟨o1, o2, hx⟩)
 clear h hR HR ep hRR hsm o1 o2 hx
 go_enter Tryz.func16, Tryz.ntmps16
 go_wp2_with fail
 refine hL.mono ?_
 rintro e w1 ⟨rfl, h1⟩
 obtain ⟨az, ar, aB⟩ := made1 w1 #[.int .i64 (op : Int), .string (P.nm op), .int .i64 (P.ri op), .int .i64 (P.ro op), .int .i64 (P.rc op), .bool (P.rb op)]
 have hB := trB h1 aB h1.size
 have hM := H0.out.below hB
 have kd := do_any op HX.out.1 HX.out.2.1 x HX.out.2.2 v ht g bd br bm kv F _ hM
 unfold P.rowN P.rowV at kd
 have HM := S.hid hM
 have HB := S.hid hB
 have h1s := h1.size
 clear hL h1 aB hM c1 hB
 go_wp2_with (first
  | (refine wpList_store_row rfl 49 _ _ rfl w1.heap.size _ rfl rfl 49 P.zR az (by exact P.sizeR) (by rfl) (by simp [Value.oneCell']) ?_)
  | (refine wpList_load_row rfl 49 _ rfl w1.heap.size rfl 49 _ (0, 0) _ ar Tryz.underlying49 rfl (by exact P.sizeR) ?_))
 refine kd.mono ?_
 rintro e w2 ⟨rfl, hf⟩
 have hF := VD.pre H0.out HB.out hf
 have r0 : w2.cell? ⟨w1.heap.size, 0, none⟩ = some (.int .i64 (op : Int)) := S.cell_of w2 _ 0 [.int .i64 (op : Int), .string (P.nm op), .int .i64 (P.ri op), .int .i64 (P.ro op), .int .i64 (P.rc op), .bool (P.rb op)] _ _ ((hf.other H0.out HB.out.size w1.heap.size h1s (S.lt_of ar)).trans ar) rfl
 clear kd az ar hf
 by_cases q3 : (doo op x v).1 = 0
 ·have e : R = ((op == 10), (doo op x v).2) := by rw [HRR.out, if_pos q3]
  subst e; rw [q3]
  have eo : ((op : Int) == 10) = (op == 10) := by
   by_cases q : op = 10
   ·subst q; rfl
   ·rw [beq_eq_false_iff_ne.2 q, beq_eq_false_iff_ne.2 (by omega)]
  have HF := S.hid hF; clear hF q3 HRR HSM; go_wp2; go_ret
  first | exact ⟨rfl, HF.out⟩ | exact ⟨by rw [eo], HF.out⟩
 ·have e : R = (false, fail (doo op x v).1 v) := by rw [HRR.out, if_neg q3]
  subst e; rw [HSM.out q3] at hF; have f2 : ((doo op x v).1 != 0) = true := by simpa using q3
  have kf := fail_any g bd br bm kv _ v (doo op x v).1 w2 hF.s; have HF := S.hid hF; clear hF HRR HSM r0; go_wp2_with fail
  refine kf.mono ?_; rintro e w3 ⟨rfl, hf⟩; have HG := S.hid (VD.trans H0.out HF.out hf); clear kf hf HF; go_wp2; go_ret; exact ⟨rfl, HG.out⟩
set_option maxHeartbeats 2000000
set_option maxRecDepth 100000
theorem rc_r (op : Nat) : 1 <= P.rc op /\ P.rc op <= 4 := by
 unfold P.rc
 split <;> decide
theorem wk_end (k : Nat) (B : Int) (v : VS) (n s : Int) (h : ¬ (v.st = 1 /\ s < B)) : wk k B v n s = ⟨v, n, s⟩ := by
 cases k with
 | zero => rfl
 | succ k => unfold wk; rw [if_neg h]
structure WI (W wr : World) (g bd br bm : Nat) (kv : Value) (F : Nat -> Prop) (B : Int) (v : VS) (k : Nat) (u : VS) (n s : Int) : Prop where
 n0 : 0 <= n
 ns : n <= s
 sB : s <= B
 kk : B - s <= (k : Int)
 eq : wk B.toNat B v 0 0 = wk k B u n s
 d : VD W wr g bd br bm kv F u
 t : (u.m.tones.length : Int) <= 100000 + 3 * n
theorem work_any (v : VS) (B : Int) (hB0 : 4 <= B) (hB1 : B <= 16384) (ht : v.m.tones.length <= 100000) (g bd br bm : Nat) (kv : Value) (F : Nat -> Prop) (W : World) (h : MV W g bd br bm kv F v) :
  Calls Tryz.prog 43 #[.pointer (some ⟨g, 0, none⟩), .int .i64 B] W fun e W' => e = .returned (.tuple #[.int .i64 (wk B.toNat B v 0 0).steps, .int .i64 (wk B.toNat B v 0 0).spent]) /\ VD W W' g bd br bm kv F (wk B.toNat B v 0 0).v := by
 have I0 : WI W W g bd br bm kv F B v B.toNat v 0 0 := ⟨by omega, by omega, by omega, by omega, rfl, h.same (Below.refl _ W), by omega⟩
 obtain ⟨R, hR⟩ : ∃ R, R = wk B.toNat B v 0 0 := ⟨_, rfl⟩
 rw [<- hR]
 have HI := S.hid I0
 have HR := S.hid hR
 have H0 := S.hid h
 clear h I0 hR ht
 go_enter Tryz.func43, Tryz.ntmps43
 go_wp2
 go_loopw [4, 5] (fun a b wr => ∃ (k : Nat) (u : VS) (n s : Int), a = .int .i64 n /\ b = .int .i64 s /\ WI W wr g bd br bm kv F B v k u n s) (fun _ b _ => (B - intOf b).toNat)
 case atStart => exact ⟨B.toNat, v, 0, 0, rfl, rfl, HI.out⟩
 case round =>
  obtain ⟨k, u, n, s, rfl, rfl, I⟩ := hrel; clear HI; have c1 := I.d.s.c1; have HI := S.hid I
  by_cases q : u.st = 1 /\ s < B
  case neg =>
   have e : R = ⟨u, n, s⟩ := by rw [HR.out, HI.out.eq, wk_end k B u n s q]
   subst e; clear I
   by_cases q1 : u.st = 1
   ·have e1 : (u.st == 1) = true := by simpa using q1
    have e2 : decide (s < B) = false := decide_eq_false (fun c => q ⟨q1, c⟩); go_wp2
    go_ret2
    exact ⟨rfl, HI.out.d⟩
   ·have e1 : (u.st == 1) = false := by simpa using q1
    go_wp2
    go_ret2
    exact ⟨rfl, HI.out.d⟩
  obtain ⟨q1, q2⟩ := q; have e1 : (u.st == 1) = true := by simpa using q1
  have e2 : decide (s < B) = true := decide_eq_true q2; have hL := look_any g bd br bm kv _ u wr I.d.s; have hk : ∃ k', k = k' + 1 := ⟨k - 1, by have := I.kk; omega⟩
  obtain ⟨k', rfl⟩ := hk; have hwk : R = wk (k' + 1) B u n s := by rw [HR.out, I.eq]
  unfold wk at hwk; rw [if_pos ⟨q1, q2⟩] at hwk; have HW := S.hid hwk
  by_cases q3 : (look u).f = 0
  case neg =>
   have e : R = ⟨fail (look u).f u, n, s⟩ := by rw [HW.out, if_neg q3]
   subst e; have ep : prV (look u).op = P.rowV 0 ⟨#[]⟩ 0 0 0 false := by rw [look_no u q3]; rfl
   rw [ep] at hL; unfold P.rowV at hL; have f1 : ((look u).f == 0) = false := by simpa using q3
   have f2 : ((look u).f != 0) = true := by simpa using q3
   clear I hwk HW HR ep; go_wp2_with fail
   refine hL.mono ?_; rintro e w1 ⟨rfl, h1⟩; obtain ⟨az, ar, aB⟩ := made1 w1 #[.int .i64 0, .string { data := #[] }, .int .i64 0, .int .i64 0, .int .i64 0, .bool false]; have hB := trB h1 aB h1.size; have hM := HI.out.d.s.below hB; have kf := fail_any g bd br bm kv _ u (look u).f _ hM; have HB := S.hid hB; clear hL h1 aB hM c1 hB; go_wp2_with (refine wpList_store_row rfl 49 _ _ rfl w1.heap.size _ rfl rfl 49 P.zR az (by exact P.sizeR) (by rfl) (by simp [Value.oneCell']) ?_)
   refine kf.mono ?_; rintro e w2 ⟨rfl, hf⟩; have HG := S.hid (VD.trans H0.out HI.out.d (VD.pre HI.out.d.s HB.out hf)); clear kf hf az ar HB; go_wp2
   go_ret2
   exact ⟨rfl, HG.out⟩
  rw [if_pos q3] at hwk; obtain ⟨o1, o2, hx⟩ := look_ok u q1 q3; have ep : prV (look u).op = P.rowN (look u).op := by rw [prV, if_neg (by omega)]
  rw [ep, q3] at hL; unfold P.rowN P.rowV at hL; generalize (look u).op = op at *
  generalize (look u).x = x at *
  have hrc := rc_r op; have HW := S.hid hwk; have HX := S.hid (show 1 <= op /\ op < 64 /\ C.C x from ⟨o1, o2, hx⟩); have HI := S.hid I; have w1' : wrap64 (B - s) = B - s := by have := I.n0; have := I.ns; simp [wrap64]; omega
  clear I hwk ep o1 o2 hx
  by_cases q4 : B - s < P.rc op
  ·have e : R = ⟨u, n, s⟩ := by rw [HW.out, if_pos q4]
   subst e; have e3 : decide (B - s < P.rc op) = true := decide_eq_true q4; clear HW HR; go_wp2_with fail
   refine hL.mono ?_; rintro e w1 ⟨rfl, h1⟩; obtain ⟨az, ar, aB⟩ := made1 w1 #[.int .i64 (op : Int), .string (P.nm op), .int .i64 (P.ri op), .int .i64 (P.ro op), .int .i64 (P.rc op), .bool (P.rb op)]; have hB := trB h1 aB h1.size; have r4 := S.cell_of _ _ 4 [.int .i64 (op : Int), .string (P.nm op), .int .i64 (P.ri op), .int .i64 (P.ro op), .int .i64 (P.rc op), .bool (P.rb op)] _ _ ar rfl; have HG := S.hid (VD.trans H0.out HI.out.d (HI.out.d.s.same hB)); clear hL h1 aB c1 hB hrc; go_wp2_with (refine wpList_store_row rfl 49 _ _ rfl w1.heap.size _ rfl rfl 49 P.zR az (by exact P.sizeR) (by rfl) (by simp [Value.oneCell']) ?_)
   go_ret2
   exact ⟨rfl, HG.out⟩
  have e3 : decide (B - s < P.rc op) = false := decide_eq_false q4; have hwk := HW.out; rw [if_neg q4] at hwk; clear HW; have HW := S.hid hwk; clear hwk; have htn := fun m => doo_tones op x m
  go_wp2_with fail
  refine hL.mono ?_; rintro e w1 ⟨rfl, h1⟩; obtain ⟨az, ar, aB⟩ := made1 w1 #[.int .i64 (op : Int), .string (P.nm op), .int .i64 (P.ri op), .int .i64 (P.ro op), .int .i64 (P.rc op), .bool (P.rb op)]; have hB := trB h1 aB h1.size; have h1s := h1.size; have r4 := S.cell_of _ _ 4 [.int .i64 (op : Int), .string (P.nm op), .int .i64 (P.ri op), .int .i64 (P.ro op), .int .i64 (P.rc op), .bool (P.rb op)] _ _ ar rfl; have hM := HI.out.d.s.below hB; have c6 := hM.c6; have ka := M.at_any bm s _ hM.ps.m; have HM := S.hid hM; have HB := S.hid hB; have HA := S.hid ar; have HTN := S.hid htn; clear hL h1 aB c1 hB hM htn ar; go_wp2_with (refine wpList_store_row rfl 49 _ _ rfl w1.heap.size _ rfl rfl 49 P.zR az (by exact P.sizeR) (by rfl) (by simp [Value.oneCell']) ?_)
  refine ka.mono ?_; rintro e w2 ⟨rfl, ha⟩; have hV2 := HM.out.goes (HM.out.ps.mem ha) HM.out.wf.d HM.out.wf.r; have hV2 : VD _ w2 g bd br bm kv _ (cyc s u) := hV2; have ar := (hV2.other HI.out.d.s HB.out.size w1.heap.size h1s (S.lt_of HA.out)).trans HA.out; have kd := do_any op HX.out.1 HX.out.2.1 x HX.out.2.2 (cyc s u) (by have := HI.out.t; have := HI.out.ns; have := HI.out.sB; show u.m.tones.length <= 999000; omega) g bd br bm kv _ w2 hV2.s; unfold P.rowN P.rowV at kd; have hV3 : VD wr w2 g bd br bm kv _ (cyc s u) := VD.pre HI.out.d.s HB.out hV2; have HV3 := S.hid (VD.trans H0.out HI.out.d hV3); have HV2 := S.hid hV2; clear ka ha hV2 az r4 c6 hV3; go_wp2_with (refine wpList_load_row rfl 49 _ rfl w1.heap.size rfl 49 _ (0, 0) _ ar Tryz.underlying49 rfl (by exact P.sizeR) ?_)
  refine kd.mono ?_; rintro e w3 ⟨rfl, hd⟩
  have ar3 := (hd.t.block w1.heap.size (S.lt_of ar) (by
   have a1 := HI.out.d.s.lt; have a2 := HI.out.d.s.lt_d; have a3 := HI.out.d.s.lt_r; have a4 := HI.out.d.s.fb; have a5 := HB.out.size; have a6 := h1s; rintro (e | e | e | e)
   ·omega
   ·omega
   ·omega
   ·rcases e with e | ⟨e, _⟩
    ·have := a4 _ e; omega
    ·have := S.lt_of HA.out; omega)).trans ar
  have r0 := S.cell_of _ _ 0 [.int .i64 (op : Int), .string (P.nm op), .int .i64 (P.ri op), .int .i64 (P.ro op), .int .i64 (P.rc op), .bool (P.rb op)] _ _ ar3 rfl; have r4 := S.cell_of _ _ 4 [.int .i64 (op : Int), .string (P.nm op), .int .i64 (P.ri op), .int .i64 (P.ro op), .int .i64 (P.rc op), .bool (P.rb op)] _ _ ar3 rfl; have hV4 := VD.trans H0.out HI.out.d (VD.pre HI.out.d.s HB.out (VD.trans HM.out HV2.out hd)); have HTN' := HTN.out (cyc s u); clear kd ar ar3 hd HA HTN HM HB HV2
  by_cases q5 : (doo op x (cyc s u)).1 = 0
  case neg =>
   have e : R = ⟨fail (doo op x (cyc s u)).1 (cyc s u), n, s⟩ := by rw [HW.out, if_neg q5]
   subst e; have es : (doo op x (cyc s u)).2 = cyc s u := by unfold doo at q5 ⊢; simp only at q5 ⊢; rw [if_neg q5]
   rw [es] at hV4; have f2 : ((doo op x (cyc s u)).1 != 0) = true := by simpa using q5
   have kf := fail_any g bd br bm kv _ (cyc s u) (doo op x (cyc s u)).1 w3 hV4.s; have HV4 := S.hid hV4; clear hV4 HW HTN' r0 r4 es; go_wp2_with fail
   refine kf.mono ?_; rintro e w4 ⟨rfl, hf⟩; have HG := S.hid (VD.trans H0.out HV4.out hf); clear kf hf HV4; go_wp2
   go_ret2
   exact ⟨rfl, HG.out⟩
  have hwk := HW.out; rw [if_pos q5] at hwk; clear HW; have HW := S.hid hwk; have n1 := HI.out.n0; have n2 := HI.out.ns; have w2' : wrap64 (n + 1) = n + 1 := by simp [wrap64]; omega
  have w3' : wrap64 (s + P.rc op) = s + P.rc op := by simp [wrap64]; omega
  have HV4 := S.hid hV4; rw [q5]; clear hwk hV4
  by_cases q6 : op = 10
  ·have e : R = ⟨(doo op x (cyc s u)).2, n + 1, s + P.rc op⟩ := by rw [HW.out, if_pos q6]
   subst e; have e5 : ((op : Int) == 10) = true := by subst q6; rfl
   have e6 : (op == 10) = true := by subst q6; rfl
   clear HTN' HW n1 n2 hrc q6; go_wp2
   go_ret2
   exact ⟨rfl, HV4.out⟩
  ·have e5 : ((op : Int) == 10) = false := beq_eq_false_iff_ne.2 (by omega)
   have e6 : (op == 10) = false := beq_eq_false_iff_ne.2 q6; have HN : Hid (WI W w3 g bd br bm kv F B v k' (doo op x (cyc s u)).2 (n + 1) (s + P.rc op)) := S.hid ⟨by omega, by omega, by omega, by have := HI.out.kk; omega, by rw [<- HR.out, HW.out, if_neg q6], HV4.out, by have h1 := HI.out.t; have h2 : (cyc s u).m.tones = u.m.tones := rfl; rw [h2] at HTN'; omega⟩; have hm : (B - (s + P.rc op)).toNat < (B - s).toNat := by omega
   clear HTN' HW n1 n2 HI HV4 HR; go_wp2; go_roundw
   case rel =>
    exact ⟨k', _, n + 1, s + P.rc op, by rw [w2'], by rw [w3'], HN.out⟩
   case measure => simp only [intOf, w3']; exact hm
end Go.Proofs.YteldjmecomngeaaGreat.V
