import Derived.Test.YtlilefhmohkfkaaGreatDoorERfA
namespace Go.Proofs.YtlilefhmohkfkaaGreatDoor.E
open Go.RowKit
open Go.Proofs
open Go.Proofs.YtlilefhmohkfkaaGreatDoor.Y (Nd Df Ps ndc dfc hid)
set_option linter.unusedVariables false
set_option linter.unusedSimpArgs false
set_option maxHeartbeats 2000000
set_option maxRecDepth 100000
def RO (W : World) (g : Nat) (kv : Value) (y : RX) (e : Ending) (w' : World) : Prop := ∃ v', e = .returned (.agg (rsc v' y.2).toArray) /\ OV w' g v' y.2.own /\ RW w' g kv y.1 /\ Gw g W w'
def PB2 (W : World) (b : Nat) (p : Ps) : Prop := W.heap[b]? = some (.cells [Value.int .i64 p.1, .int .i64 p.2].toArray 25 (0, 0))
theorem PB2.cells {W : World} {b : Nat} {p : Ps} (h : PB2 W b p) : W.cell? ⟨b, 0, none⟩ = some (.int .i64 p.1) /\ W.cell? ⟨b, 1, none⟩ = some (.int .i64 p.2) := ⟨S.cell_of W b 0 _ 25 _ h rfl, S.cell_of W b 1 _ 25 _ h rfl⟩
structure Fq (W wz : World) (g : Nat) (kv : Value) (b c d : Nat) (s : Rs) (sv : Value) (p : Ps) (w : Rw) : Prop where
 sb : RB wz b sv s
 pb : PB2 wz c p
 rb : RB wz d (.slice none 0 0) z0
 rw : RW wz g kv w
 gw : Gw g W wz
structure FN (g b c d : Nat) (W : World) : Prop where
 n0 : g < W.heap.size
 n1 : W.heap.size <= b
 n2 : b < c
 n3 : c < d
theorem box_spr2 (s : Rs) (sv : Value) (p : Ps) (g : Nat) (kv : Value) (w : Rw) (W : World) (h : RW W g kv w) : ∃ W0 W1 W2, W.alloc (.cells #[.int .i64 s.h, sv, .bool s.dead] 99) = W0 /\ W0.alloc (.cells #[.int .i64 p.1, .int .i64 p.2] 25) = W1 /\ W1.alloc (.cells #[.int .i64 0, .slice none 0 0, .bool false] 99) = W2 /\ Below W.heap.size W W2 /\ FN g W.heap.size W0.heap.size W1.heap.size W /\ Fq W W2 g kv W.heap.size W0.heap.size W1.heap.size s sv p w := by
 refine ⟨_, _, _, rfl, rfl, rfl, (((Below.refl _ W).alloc (Nat.le_refl _) _).alloc (by simp) _).alloc (by simp; omega) _, ⟨h.lt, Nat.le_refl _, by simp, by simp⟩, ?_⟩
 have t : ∀ (X : World) (o : Obj) (i : Nat), i < X.heap.size -> (X.alloc o).heap[i]? = X.heap[i]? := fun X o i hi => ((Below.refl _ X).alloc (Nat.le_refl _) o).block i hi
 have hB : Below W.heap.size W (((W.alloc (.cells #[.int .i64 s.h, sv, .bool s.dead] 99)).alloc (.cells #[.int .i64 p.1, .int .i64 p.2] 25)).alloc (.cells #[.int .i64 0, .slice none 0 0, .bool false] 99)) := (((Below.refl _ W).alloc (Nat.le_refl _) _).alloc (by simp) _).alloc (by simp; omega) _
 exact ⟨(t _ _ _ (by simp; omega)).trans ((t _ _ _ (by simp)).trans (heap_alloc_new W _)), (t _ _ _ (by simp)).trans (heap_alloc_new _ _), heap_alloc_new _ _, h.below hB, Gw.of hB⟩
theorem Fq.setG {W wz : World} {g : Nat} {kv : Value} {b c d : Nat} {s : Rs} {sv : Value} {p : Ps} {w w' : Rw} (h : Fq W wz g kv b c d s sv p w) (n : FN g b c d W) (i : Nat) (v : Value) (hr : (rwc kv w).set i v = rwc kv w') : Fq W (wz.setCell ⟨g, i, none⟩ v) g kv b c d s sv p w' :=
 have k : ∀ j, j ≠ g -> (wz.setCell ⟨g, i, none⟩ v).heap[j]? = wz.heap[j]? := fun j hj => S.setCell_other _ _ _ _ _ hj
 ⟨(k b (by have := n.n0; have := n.n1; omega)).trans h.sb, (k c (by have := n.n0; have := n.n1; have := n.n2; omega)).trans h.pb, (k d (by have := n.n0; have := n.n1; have := n.n2; have := n.n3; omega)).trans h.rb, by have := S.setCell_heap wz g i _ 96 v h.rw; rw [hr] at this; exact this, h.gw.setG i v⟩
theorem Fq.setS {W wz : World} {g : Nat} {kv : Value} {b c d : Nat} {s s' : Rs} {sv sv' : Value} {p : Ps} {w : Rw} (h : Fq W wz g kv b c d s sv p w) (n : FN g b c d W) (i : Nat) (v : Value) (hr : (rsc sv s).set i v = rsc sv' s') : Fq W (wz.setCell ⟨b, i, none⟩ v) g kv b c d s' sv' p w :=
 have k : ∀ j, j ≠ b -> (wz.setCell ⟨b, i, none⟩ v).heap[j]? = wz.heap[j]? := fun j hj => S.setCell_other _ _ _ _ _ hj
 ⟨by have := S.setCell_heap wz b i _ 99 v h.sb; rw [hr] at this; exact this, (k c (by have := n.n2; omega)).trans h.pb, (k d (by have := n.n2; have := n.n3; omega)).trans h.rb, (k g (by have := n.n0; have := n.n1; omega)).trans h.rw, h.gw.setN b i v n.n1⟩
theorem Gw.setR2 {g : Nat} {A B : World} (h : Gw g A B) (b : Nat) (r : Array Value) (hb : A.heap.size <= b) : Gw g A (B.setRow b r) :=
 ⟨h.os, h.tape, h.output, by rw [size_setRow]; exact h.size, fun k hk hg => (setRow_other B b k r (by omega)).trans (h.block k hk hg)⟩
theorem Gw.dn {g : Nat} {A B : World} (h : Gw g A B) (q : Nat) : Gw g A (B.drewN q) := ⟨h.os, h.tape, h.output, h.size, h.block⟩
theorem Fq.dn {W wz : World} {g : Nat} {kv : Value} {b c d : Nat} {s : Rs} {sv : Value} {p : Ps} {w : Rw} (h : Fq W wz g kv b c d s sv p w) (q : Nat) : Fq W (wz.drewN q) g kv b c d s sv p w := ⟨h.sb, h.pb, h.rb, h.rw, h.gw.dn q⟩
theorem Fq.go {W wz wy : World} {g : Nat} {kv : Value} {b c d : Nat} {s : Rs} {sv : Value} {p : Ps} {w w' : Rw} (h : Fq W wz g kv b c d s sv p w) (n : FN g b c d W) (k : Gw g wz wy) (hr : RW wy g kv w') : Fq W wy g kv b c d s sv p w' :=
 ⟨k.keep h.sb (by have := n.n0; have := n.n1; omega), k.keep h.pb (by have := n.n0; have := n.n1; have := n.n2; omega), k.keep h.rb (by have := n.n0; have := n.n1; have := n.n2; have := n.n3; omega), hr, h.gw.trans k⟩
theorem Fq.done {W wz : World} {g : Nat} {kv : Value} {b c d : Nat} {s : Rs} {sv : Value} {p : Ps} {w : Rw} (h : Fq W wz g kv b c d s sv p w) (n : FN g b c d W) (ho : OV W g sv s.own) : RB (wz.setRow d (rsc sv s).toArray) d sv s /\ OV (wz.setRow d (rsc sv s).toArray) g sv s.own /\ RW (wz.setRow d (rsc sv s).toArray) g kv w /\ Gw g W (wz.setRow d (rsc sv s).toArray) := by
 have hG := h.gw.setR2 d (rsc sv s).toArray (by have := n.n1; have := n.n2; have := n.n3; omega)
 exact ⟨setRow_heap wz d _ _ _ _ h.rb, ho.gw hG, (setRow_other wz d g _ (by have := n.n0; have := n.n1; have := n.n2; have := n.n3; omega)).trans h.rw, hG⟩
theorem step_r (w : Rw) (s : Rs) (sv : Value) (a b : Int) (p : Ps) (g : Nat) (kv : Value) (W : World) (h : RW W g kv w) (ho : OV W g sv s.own) (hl : s.own.length <= 1000) :
  Calls Tryz.prog 71 #[.pointer (some ⟨g, 0, none⟩), .agg (rsc sv s).toArray, .int .i64 a, .int .i64 b, .agg #[.int .i64 p.1, .int .i64 p.2]] W (RO W g kv (rstep (w, s) a b p)) := by
 obtain ⟨q, cc, hsv, _, _⟩ := id ho.ex
 subst hsv
 obtain ⟨W0, W1, W2, hW0, hW1, hW2, hB, hN, hF⟩ := box_spr2 s (.slice q s.own.length cc) p g kv w W h
 have HN := hid hN
 have HO := hid ho
 have HF := hid hF
 obtain ⟨x0, x1, x2⟩ := hF.sb.cells
 obtain ⟨c0, c1, c2, c3, c4, c5, c6, c7, c8⟩ := hF.rw.cells
 clear hN ho hF hB h
 unfold rstep
 generalize hz1 : wrap64 (a - s.h) = z1 at *
 generalize hz2 : wrap64 (wrap64 (s.h - a) + b) = z2 at *
 unfold rsc
 go_enter Tryz.func71, Tryz.ntmps71
 go_wp2_with fail
 go_quiet (fail)
 go_upto_if 19 with fail
 go_cut [] (fun wc => Fq W wc g kv W.heap.size W0.heap.size W1.heap.size s (.slice q s.own.length cc) p { w with i := max w.i z1 })
 case first =>
  have hF := HF.out
  have hN := HN.out
  by_cases hc : w.i < z1
  ·have d1 : decide (w.i < z1) = true := decide_eq_true hc
   obtain ⟨x0, x1, x2⟩ := (hF.dn nq).sb.cells
   obtain ⟨c0, c1, c2, c3, c4, c5, c6, c7, c8⟩ := (hF.dn nq).rw.cells
   have f1 := (hF.dn nq).rw.fro 1
   have HT : Y.Hd (Fq W ((W2.drewN nq).setCell ⟨g, 1, none⟩ (.int .i64 z1)) g kv W.heap.size W0.heap.size W1.heap.size s (.slice q s.own.length cc) p { w with i := max w.i z1 }) := ⟨(hF.dn nq).setG hN 1 _ (by unfold rwc; simp; omega)⟩
   clear hF hN
   go_wp2
   go_meet
   case rel => exact HT.out
  ·have d1 : decide (w.i < z1) = false := decide_eq_false hc
   have HT : Y.Hd (Fq W (W2.drewN nq) g kv W.heap.size W0.heap.size W1.heap.size s (.slice q s.own.length cc) p { w with i := max w.i z1 }) := ⟨by have e : { w with i := max w.i z1 } = w := (by rw [show max w.i z1 = w.i by omega]); rw [e]; exact hF.dn nq⟩
   clear hF hN
   go_wp2
   go_meet
   case rel => exact HT.out
 case rest =>
  clear HF hW0 hW1 hW2 x0 x1 x2 c0 c1 c2 c3 c4 c5 c6 c7 c8
  have HF := hid hcut
  have hN := HN.out
  obtain ⟨x0, x1, x2⟩ := hcut.sb.cells
  have f0 := hcut.sb.fro 0
  obtain ⟨W3, hW3⟩ : ∃ W3, wc.setCell ⟨W.heap.size, 0, none⟩ (.int .i64 z2) = W3 := ⟨_, rfl⟩
  have hF3 : Fq W W3 g kv W.heap.size W0.heap.size W1.heap.size { s with h := z2 } (.slice q s.own.length cc) p { w with i := max w.i z1 } := by rw [<- hW3]; exact hcut.setS hN 0 _ rfl
  clear hcut HF
  have HF := hid hF3
  obtain ⟨y0, y1, y2⟩ := hF3.sb.cells
  obtain ⟨c0, c1, c2, c3, c4, c5, c6, c7, c8⟩ := hF3.rw.cells
  clear hF3 hN
  simp only at y0 y1 y2 c0 c1 c2 c3 c4 c5 c6 c7 c8
  go_wp2_with fail
  go_quiet (fail)
  go_upto_if 40 with fail
  go_cut [] (fun wc => Fq W wc g kv W.heap.size W0.heap.size W1.heap.size { s with h := z2 } (.slice q s.own.length cc) p { w with i := max w.i z1, d := max w.d z2 })
  case first =>
   have hF := HF.out
   have hN := HN.out
   by_cases hc : w.d < z2
   ·have d1 : decide (w.d < z2) = true := decide_eq_true hc
    obtain ⟨x0, x1, x2⟩ := (hF.dn nq).sb.cells
    obtain ⟨c0, c1, c2, c3, c4, c5, c6, c7, c8⟩ := (hF.dn nq).rw.cells
    simp only at x0 x1 x2 c0 c1 c2 c3 c4 c5 c6 c7 c8
    have f1 := (hF.dn nq).rw.fro 2
    have HT : Y.Hd (Fq W ((W3.drewN nq).setCell ⟨g, 2, none⟩ (.int .i64 z2)) g kv W.heap.size W0.heap.size W1.heap.size { s with h := z2 } (.slice q s.own.length cc) p { w with i := max w.i z1, d := max w.d z2 }) := ⟨(hF.dn nq).setG hN 2 _ (by unfold rwc; simp; omega)⟩
    clear hF hN
    go_wp2
    go_meet
    case rel => exact HT.out
   ·have d1 : decide (w.d < z2) = false := decide_eq_false hc
    have HT : Y.Hd (Fq W (W3.drewN nq) g kv W.heap.size W0.heap.size W1.heap.size { s with h := z2 } (.slice q s.own.length cc) p { w with i := max w.i z1, d := max w.d z2 }) := ⟨by have e : { w with i := max w.i z1, d := max w.d z2 } = { w with i := max w.i z1 } := (by rw [show max w.d z2 = w.d by omega]); rw [e]; exact hF.dn nq⟩
    clear hF hN
    go_wp2
    go_meet
    case rel => exact HT.out
  case rest =>
   clear HF hW3 x0 x1 x2 c0 c1 c2 c3 c4 c5 c6 c7 c8 y0 y1 y2 f0
   have HF := hid hcut
   obtain ⟨x0, x1, x2⟩ := hcut.sb.cells
   obtain ⟨c0, c1, c2, c3, c4, c5, c6, c7, c8⟩ := hcut.rw.cells
   simp only at x0 x1 x2 c0 c1 c2 c3 c4 c5 c6 c7 c8
   clear hcut
   obtain ⟨W4, hW4⟩ : ∃ W4, W4 = wc := ⟨_, rfl⟩
   rw [<- hW4] at HF x0 x1 x2 c0 c1 c2 c3 c4 c5 c6 c7 c8 ⊢
   clear hW4
   go_wp2_with fail
   go_quiet (fail)
   go_upto_if 53 with fail
   go_cut [] (fun wc => Fq W wc g kv W.heap.size W0.heap.size W1.heap.size { s with h := z2 } (.slice q s.own.length cc) p { w with i := max w.i z1, d := max w.d z2, r := max w.r (s.own.length : Int) })
   case first =>
    have hF := HF.out
    have hN := HN.out
    by_cases hc : w.r < (s.own.length : Int)
    ·have d1 : decide (w.r < (s.own.length : Int)) = true := decide_eq_true hc
     obtain ⟨x0, x1, x2⟩ := (hF.dn nq).sb.cells
     obtain ⟨c0, c1, c2, c3, c4, c5, c6, c7, c8⟩ := (hF.dn nq).rw.cells
     simp only at x0 x1 x2 c0 c1 c2 c3 c4 c5 c6 c7 c8
     have f1 := (hF.dn nq).rw.fro 3
     have HT : Y.Hd (Fq W ((W4.drewN nq).setCell ⟨g, 3, none⟩ (.int .i64 (s.own.length : Int))) g kv W.heap.size W0.heap.size W1.heap.size { s with h := z2 } (.slice q s.own.length cc) p { w with i := max w.i z1, d := max w.d z2, r := max w.r (s.own.length : Int) }) := ⟨(hF.dn nq).setG hN 3 _ (by unfold rwc; simp; omega)⟩
     clear hF hN
     go_wp2
     go_meet
     case rel => exact HT.out
    ·have d1 : decide (w.r < (s.own.length : Int)) = false := decide_eq_false hc
     have HT : Y.Hd (Fq W (W4.drewN nq) g kv W.heap.size W0.heap.size W1.heap.size { s with h := z2 } (.slice q s.own.length cc) p { w with i := max w.i z1, d := max w.d z2, r := max w.r (s.own.length : Int) }) := ⟨by have e : { w with i := max w.i z1, d := max w.d z2, r := max w.r (s.own.length : Int) } = { w with i := max w.i z1, d := max w.d z2 } := (by rw [show max w.r (s.own.length : Int) = w.r by omega]); rw [e]; exact hF.dn nq⟩
     clear hF hN
     go_wp2
     go_meet
     case rel => exact HT.out
   case rest =>
    clear HF x0 x1 x2 c0 c1 c2 c3 c4 c5 c6 c7 c8
    have HF := hid hcut
    obtain ⟨p0, p1⟩ := hcut.pb.cells
    have hcm := most_any { w with i := max w.i z1, d := max w.d z2, r := max w.r (s.own.length : Int) } p g kv wc hcut.rw
    clear hcut
    go_wp2_with fail
    refine hcm.mono ?_
    rintro e w6 ⟨rfl, hr6, hg6⟩
    clear hcm p0 p1
    have hF := HF.out.go HN.out hg6 hr6
    obtain ⟨x0, x1, x2⟩ := hF.sb.cells
    simp only at x0 x1 x2
    have HT := hid (hF.done HN.out HO.out)
    have hst := hF.rb
    unfold rsc at HT
    simp only at HT
    clear hF HF hr6 hg6
    go_wp2_with (refine wpList_store_row rfl 99 _ _ rfl W1.heap.size _ rfl rfl 99 _ hst (by exact sizeR) (by rfl) (by simp [Value.oneCell']) ?_)
    refine bodyPost_ret (rs_end 10 rfl rfl ⟨_, _, _, rfl⟩ HT.out.1) rfl ?_
    exact ⟨_, rfl, HT.out.2.1, HT.out.2.2.1, HT.out.2.2.2⟩
set_option maxHeartbeats 2000000
set_option maxRecDepth 100000
theorem must_r (w : Rw) (a b : Rs) (va vb : Value) (e : Int) (p : Ps) (g : Nat) (kv : Value) (W : World) (h : RW W g kv w) (ha : OV W g va a.own) (hb : OV W g vb b.own) (hl : a.own.length <= 1000) :
  Calls Tryz.prog 73 #[.pointer (some ⟨g, 0, none⟩), .agg (rsc va a).toArray, .agg (rsc vb b).toArray, .int .i64 e, .agg #[.int .i64 p.1, .int .i64 p.2]] W fun r w' => r = .returned (.tuple #[]) /\ RW w' g kv (rmust w a b e p) /\ Gw g W w' := by
 obtain ⟨qa, ca, hva, _, _⟩ := id ha.ex
 subst hva
 obtain ⟨qb, cb, hvb, _, _⟩ := id hb.ex
 subst hvb
 obtain ⟨W0, hW0, hB0, hs0, k0⟩ := box_r a (.slice qa a.own.length ca) W
 obtain ⟨W1, hW1, hB1, hs1, k1⟩ := box_r b (.slice qb b.own.length cb) W0
 obtain ⟨W2, hW2⟩ : ∃ W2, W1.alloc (.cells #[.int .i64 p.1, .int .i64 p.2] 25) = W2 := ⟨_, rfl⟩
 have hB2 : Below W1.heap.size W1 W2 := by rw [<- hW2]; exact (Below.refl _ _).alloc (Nat.le_refl _) _
 have hp : PB2 W2 W1.heap.size p := by rw [<- hW2]; exact heap_alloc_new W1 _
 have hB : Below W.heap.size W W2 := (hB0.trans (hB1.mono (by omega))).trans (hB2.mono (by omega))
 obtain ⟨x0, x1, x2⟩ := ((k0.below hB1).below hB2).cells
 obtain ⟨y0, y1, y2⟩ := (k1.below hB2).cells
 obtain ⟨p0, p1⟩ := hp.cells
 have HG := hid (Gw.of (g := g) hB)
 have HW := hid (h.below hB)
 have HP := hid hp
 have hca := alike_any a b _ _ g W2 (ha.below hB) (hb.below hB) hl
 clear hB0 hB1 hB2 hs0 hs1 k0 k1 hp hB h ha hb
 by_cases hd : a.dead = true
 ·rw [hd] at x2
  have HR : Y.Hd (rmust w a b e p = w) := ⟨by unfold rmust; rw [if_pos (.inl hd)]⟩
  clear hca hd
  unfold rsc
  go_enter Tryz.func73, Tryz.ntmps73
  go_wp2
  go_end0
  rw [HR.out]
  exact ⟨rfl, HW.out, HG.out⟩
 ·have hd' : a.dead = false := by simpa using hd
  unfold rsc at hca ⊢
  have HR : Y.Hd (rmust w a b e p = if ralike a b = true then w else rfail w e p) := ⟨by unfold rmust; rw [hd']; simp⟩
  rw [hd'] at x2 hca hW0 ⊢
  clear hd hd'
  generalize ralike a b = R at *
  go_enter Tryz.func73, Tryz.ntmps73
  go_wp2_with fail
  refine hca.mono ?_
  rintro e' w1 ⟨rfl, hb1⟩
  clear hca x0 x1 x2 y0 y1 y2 hW0 hW1 hW2
  have HG1 := hid (HG.out.trans (Gw.of hb1))
  have hr1 := HW.out.below hb1
  have hp1 : PB2 w1 W1.heap.size p := (hb1.block _ (S.lt_of HP.out)).trans HP.out
  obtain ⟨p0, p1⟩ := hp1.cells
  have HW1 := hid hr1
  have hcf := fails_any w e p g kv w1 hr1
  clear hb1 hr1 hp1
  cases R
  ·go_wp2_with fail
   refine hcf.mono ?_
   rintro e'' w2 ⟨rfl, hr2, hg2⟩
   have HE := hid (And.intro hr2 (HG1.out.trans hg2))
   clear hcf hr2 hg2 p0 p1
   go_wp2
   go_end0
   rw [HR.out]
   exact ⟨rfl, HE.out.1, HE.out.2⟩
  ·clear hcf
   go_wp2
   go_end0
   rw [HR.out]
   exact ⟨rfl, HW1.out, HG1.out⟩
theorem ends_r (w : Rw) (s : Rs) (sv : Value) (p : Ps) (g : Nat) (kv : Value) (W : World) (h : RW W g kv w) (ho : OV W g sv s.own) :
  Calls Tryz.prog 49 #[.pointer (some ⟨g, 0, none⟩), .agg (rsc sv s).toArray, .agg #[.int .i64 p.1, .int .i64 p.2]] W (RO W g kv (rends (w, s) p)) := by
 obtain ⟨q, cc, hsv, _, _⟩ := id ho.ex
 subst hsv
 obtain ⟨W0, W1, W2, hW0, hW1, hW2, hB, hN, hF⟩ := box_spr2 s (.slice q s.own.length cc) p g kv w W h
 have HN := hid hN
 have HO := hid ho
 have HF := hid hF
 obtain ⟨x0, x1, x2⟩ := hF.sb.cells
 obtain ⟨p0, p1⟩ := hF.pb.cells
 have hcf := fails_any w 152 p g kv W2 hF.rw
 clear hN ho hF hB h
 unfold rends rsc
 go_enter Tryz.func49, Tryz.ntmps49
 go_upto_if 10 with fail
 go_cut [] (fun wc => Fq W wc g kv W.heap.size W0.heap.size W1.heap.size s (.slice q s.own.length cc) p (rend1 w s p))
 case first =>
  by_cases hc : s.own = []
  ·have d1 : decide ((0 : Int) < (s.own.length : Int)) = false := by rw [hc]; rfl
   have d1b : decide (0 < s.own.length) = false := by rw [hc]; rfl
   have d1c : ¬ 0 < s.own.length := by rw [hc]; simp
   have HT : Y.Hd (Fq W W2 g kv W.heap.size W0.heap.size W1.heap.size s (.slice q s.own.length cc) p (rend1 w s p)) := ⟨by unfold rend1; rw [if_pos hc]; exact HF.out⟩
   clear hcf hc
   go_wp2
   go_meet
   case rel => exact HT.out
  ·have hpos : 0 < s.own.length := List.length_pos_iff.2 hc
   have d1 : decide ((0 : Int) < (s.own.length : Int)) = true := decide_eq_true (by omega)
   have HR : Y.Hd (rend1 w s p = rfail w 152 p) := ⟨by unfold rend1; rw [if_neg hc]⟩
   clear hc
   go_wp2_with fail
   refine hcf.mono ?_
   rintro e' w2 ⟨rfl, hr2, hg2⟩
   have HT : Y.Hd (Fq W w2 g kv W.heap.size W0.heap.size W1.heap.size s (.slice q s.own.length cc) p (rend1 w s p)) := ⟨by rw [HR.out]; exact HF.out.go HN.out hg2 hr2⟩
   clear hcf hr2 hg2
   go_wp2
   go_meet
   case rel => exact HT.out
 case rest =>
  clear HF hcf hW0 hW1 hW2 x0 x1 x2 p0 p1
  obtain ⟨W3, hW3⟩ : ∃ W3, W3 = wc := ⟨_, rfl⟩
  rw [<- hW3] at hcut ⊢
  clear hW3
  have HF := hid hcut
  generalize rend1 w s p = w1 at *
  obtain ⟨x0, x1, x2⟩ := hcut.sb.cells
  obtain ⟨c0, c1, c2, c3, c4, c5, c6, c7, c8⟩ := hcut.rw.cells
  clear hcut
  go_upto_region 3 with fail
  go_cut [26] (fun s26 wc => s26 = .bool (decide (w1.ex = true /\ w1.xh ≠ s.h)) /\ Fq W wc g kv W.heap.size W0.heap.size W1.heap.size s (.slice q s.own.length cc) p w1)
  case first =>
   cases hex : w1.ex
   ·rw [hex] at c4
    have HT := hid HF.out
    clear HF
    go_quiet (fail)
    go_wp2
    go_meet
    case rel => exact ⟨by rw [hex]; simp, HT.out.dn _⟩
   ·rw [hex] at c4
    have HT := hid HF.out
    clear HF
    by_cases hh : w1.xh = s.h
    ·have d2 : (w1.xh != s.h) = false := by simpa using hh
     have Hh := hid hh
     clear hh
     go_quiet (fail)
     go_wp2
     go_meet
     case rel => exact ⟨by rw [hex, decide_eq_false (fun c => c.2 Hh.out)], HT.out.dn _⟩
    ·have d2 : (w1.xh != s.h) = true := by simpa using hh
     go_quiet (fail)
     go_wp2
     go_meet
     case rel => exact ⟨by rw [hex, decide_eq_true ⟨rfl, hh⟩], HT.out.dn _⟩
  case rest =>
   obtain ⟨rfl, hcut⟩ := hcut
   clear HF x0 x1 x2 c0 c1 c2 c3 c4 c5 c6 c7 c8
   obtain ⟨W4, hW4⟩ : ∃ W4, W4 = wc := ⟨_, rfl⟩
   rw [<- hW4] at hcut ⊢
   clear hW4
   have HF := hid hcut
   obtain ⟨p0, p1⟩ := hcut.pb.cells
   have hcf := fails_any w1 150 p g kv W4 hcut.rw
   clear hcut
   go_upto_if 26 with fail
   go_cut [] (fun wc => Fq W wc g kv W.heap.size W0.heap.size W1.heap.size s (.slice q s.own.length cc) p (rend2 w1 s p))
   case first =>
    by_cases hc : w1.ex = true /\ w1.xh ≠ s.h
    ·have d1 : decide (w1.ex = true /\ w1.xh ≠ s.h) = true := decide_eq_true hc
     have HR : Y.Hd (rend2 w1 s p = rfail w1 150 p) := ⟨by unfold rend2; rw [if_pos hc]⟩
     rw [d1]
     clear hc d1
     go_wp2_with fail
     refine hcf.mono ?_
     rintro e' w2 ⟨rfl, hr2, hg2⟩
     have HT : Y.Hd (Fq W w2 g kv W.heap.size W0.heap.size W1.heap.size s (.slice q s.own.length cc) p (rend2 w1 s p)) := ⟨by rw [HR.out]; exact HF.out.go HN.out hg2 hr2⟩
     clear hcf hr2 hg2
     go_wp2
     go_meet
     case rel => exact HT.out
    ·have d1 : decide (w1.ex = true /\ w1.xh ≠ s.h) = false := decide_eq_false hc
     have HT : Y.Hd (Fq W W4 g kv W.heap.size W0.heap.size W1.heap.size s (.slice q s.own.length cc) p (rend2 w1 s p)) := ⟨by unfold rend2; rw [if_neg hc]; exact HF.out⟩
     rw [d1]
     clear hcf hc d1
     go_wp2
     go_meet
     case rel => exact HT.out
   case rest =>
    clear HF hcf p0 p1
    obtain ⟨W5, hW5⟩ : ∃ W5, W5 = wc := ⟨_, rfl⟩
    rw [<- hW5] at hcut ⊢
    clear hW5
    generalize rend2 w1 s p = w2 at *
    have HF := hid hcut
    have h5 := hcut
    clear hcut
    obtain ⟨x0, x1, x2⟩ := h5.sb.cells
    obtain ⟨c0, c1, c2, c3, c4, c5, c6, c7, c8⟩ := h5.rw.cells
    go_upto_if 34 with fail
    go_cut [] (fun wc => Fq W wc g kv W.heap.size W0.heap.size W1.heap.size s (.slice q s.own.length cc) p (rend3 w2 s))
    case first =>
     cases hex : w2.ex
     ·have hF1 := h5.setG HN.out 4 (.bool true) (w' := { w2 with ex := true }) (by unfold rwc; simp)
      have f4 := h5.rw.fro 4
      have hF2 := hF1.setG HN.out 5 (.int .i64 s.h) (w' := { w2 with ex := true, xh := s.h }) (by unfold rwc; simp)
      obtain ⟨y0, y1, y2⟩ := hF1.sb.cells
      have y5 := hF1.rw.cells.2.2.2.2.2.1
      have f5 := hF1.rw.fro 5
      have HT : Y.Hd (Fq W ((W5.setCell ⟨g, 4, none⟩ (.bool true)).setCell ⟨g, 5, none⟩ (.int .i64 s.h)) g kv W.heap.size W0.heap.size W1.heap.size s (.slice q s.own.length cc) p (rend3 w2 s)) := ⟨by unfold rend3; rw [hex, if_neg (by simp)]; exact hF2⟩
      rw [hex] at c4
      simp only at y5
      clear hF1 hF2 h5
      go_wp2
      go_meet
      case rel => exact HT.out
     ·have HT : Y.Hd (Fq W W5 g kv W.heap.size W0.heap.size W1.heap.size s (.slice q s.own.length cc) p (rend3 w2 s)) := ⟨by unfold rend3; rw [hex, if_pos rfl]; exact h5⟩
      rw [hex] at c4
      clear h5
      go_wp2
      go_meet
      case rel => exact HT.out
    case rest =>
     clear h5 HF x0 x1 x2 c0 c1 c2 c3 c4 c5 c6 c7 c8
     obtain ⟨W6, hW6⟩ : ∃ W6, W6 = wc := ⟨_, rfl⟩
     rw [<- hW6] at hcut ⊢
     clear hW6
     have f2 := hcut.sb.fro 2
     have x2 := hcut.sb.cells.2.2
     obtain ⟨W7, hW7⟩ : ∃ W7, W6.setCell ⟨W.heap.size, 2, none⟩ (.bool true) = W7 := ⟨_, rfl⟩
     have hF : Fq W W7 g kv W.heap.size W0.heap.size W1.heap.size { s with dead := true } (.slice q s.own.length cc) p (rend3 w2 s) := by rw [<- hW7]; exact hcut.setS HN.out 2 _ rfl
     obtain ⟨y0, y1, y2⟩ := hF.sb.cells
     simp only at y0 y1 y2
     have HT := hid (hF.done HN.out HO.out)
     have hst := hF.rb
     unfold rsc at HT
     simp only at HT
     clear hF hcut
     go_wp2_with (refine wpList_store_row rfl 99 _ _ rfl W1.heap.size _ rfl rfl 99 _ hst (by exact sizeR) (by rfl) (by simp [Value.oneCell']) ?_)
     refine bodyPost_ret (rs_end 6 rfl rfl ⟨_, _, _, rfl⟩ HT.out.1) rfl ?_
     exact ⟨_, rfl, HT.out.2.1, HT.out.2.2.1, HT.out.2.2.2⟩
set_option maxHeartbeats 2000000
set_option maxRecDepth 100000
abbrev KV := QV tyc 9 81
def t0 : Ty := ⟨⟨#[]⟩, 0, 0, 0, 0, false, 0, (0, 0)⟩
theorem sizeRT : (Tryz.prog.info? 81).map (·.size) = some 9 := by kernel_rfl
def TB (W : World) (b : Nat) (t : Ty) : Prop := W.heap[b]? = some (.cells (tyc t).toArray 81 (0, 0))
theorem TB.cells {W : World} {b : Nat} {t : Ty} (h : TB W b t) : W.cell? ⟨b, 0, none⟩ = some (.string t.nm) /\ W.cell? ⟨b, 1, none⟩ = some (.int .i64 t.i) /\ W.cell? ⟨b, 2, none⟩ = some (.int .i64 t.o) /\ W.cell? ⟨b, 3, none⟩ = some (.int .i64 t.d) /\ W.cell? ⟨b, 4, none⟩ = some (.int .i64 t.r) /\ W.cell? ⟨b, 5, none⟩ = some (.bool t.nv) /\ W.cell? ⟨b, 6, none⟩ = some (.int .i64 t.e) /\ W.cell? ⟨b, 7, none⟩ = some (.int .i64 t.p.1) /\ W.cell? ⟨b, 8, none⟩ = some (.int .i64 t.p.2) :=
 have c := fun (i : Nat) (v : Value) => S.cell_of W b i _ 81 v h
 ⟨c 0 _ rfl, c 1 _ rfl, c 2 _ rfl, c 3 _ rfl, c 4 _ rfl, c 5 _ rfl, c 6 _ rfl, c 7 _ rfl, c 8 _ rfl⟩
theorem wd_end {T : Array Value} {w : World} {b : Nat} {t : Ty} {f : Bool} (h4 : T.getD 4 undef = .pointer (some ⟨b, 0, none⟩)) (h5 : T.getD 5 undef = .bool f) (hb : TB w b t) :
  (results Tryz.f86 T).run Tryz.prog w = .ok (.tuple #[.agg (tyc t).toArray, .bool f]) w := by
 have hf : Tryz.f86.results = #[.cell 4 81, .tmp 5] := rfl
 have e0 : (results Tryz.f86 T).run Tryz.prog w = ((asAddr (T.getD 4 undef)).run Tryz.prog w).andThen fun a w₁ => ((loadVar 81 a).run Tryz.prog w₁).andThen fun v w₂ => .ok (.tuple #[v, T.getD 5 undef]) w₂ := by
  simp only [results, hf]
  simp [Sem.run_bind, Result.andThen]
 rw [e0, h4, h5]
 simp [asAddr, run_loadVar_row w b _ 81 _ _ _ hb Tryz.underlying81 rfl sizeRT]
theorem find_take (l : List Ty) (nm : ByteArray) (k : Nat) (t : Ty) (hk : l[k]? = some t) (h : find (l.take k) nm = none) : find l nm = if t.nm = nm then some t else find (l.drop (k + 1)) nm := by
 have e : l = l.take k ++ t :: l.drop (k + 1) := by
  obtain ⟨hlt, ht⟩ := List.getElem?_eq_some_iff.1 hk
  rw [<- ht, <- List.drop_eq_getElem_cons hlt, List.take_append_drop]
 unfold find at h ⊢
 rw [e, List.find?_append, h]
 simp only [Option.none_or, List.find?_cons]
 by_cases hh : t.nm = nm
 ·rw [if_pos hh]; simp [hh]
 ·rw [if_neg hh]
  simp only [hh, decide_false]
  congr 1
  rw [<- e]
theorem find_more (l : List Ty) (nm : ByteArray) (k : Nat) (t : Ty) (hk : l[k]? = some t) (h : find (l.take k) nm = none) (hn : ¬ t.nm = nm) : find (l.take (k + 1)) nm = none := by
 rw [List.take_add_one, hk]
 unfold find at h ⊢
 rw [List.find?_append, h]
 simp [hn]
theorem word_r (w : Rw) (tl : List Ty) (htl : tl.length <= 1048576) (nm : ByteArray) (g : Nat) (kv : Value) (W : World) (h : RW W g kv w) (hk : KV W g kv tl) :
  Calls Tryz.prog 86 #[.pointer (some ⟨g, 0, none⟩), .string nm] W fun e w' => e = .returned (.tuple #[.agg (tyc ((find tl nm).getD t0)).toArray, .bool (find tl nm).isSome]) /\ Below W.heap.size W w' := by
 obtain ⟨q, cc, hkv, hcc, hcl⟩ := id hk.ex
 subst hkv
 obtain ⟨W0, hW0⟩ : ∃ W0, W.alloc (.cells #[.string ⟨#[]⟩, .int .i64 0, .int .i64 0, .int .i64 0, .int .i64 0, .bool false, .int .i64 0, .int .i64 0, .int .i64 0] 81) = W0 := ⟨_, rfl⟩
 have hB : Below W.heap.size W W0 := by rw [<- hW0]; exact (Below.refl _ _).alloc (Nat.le_refl _) _
 have hT : TB W0 W.heap.size t0 := by rw [<- hW0]; exact heap_alloc_new W _
 have c0 := (h.below hB).cells.1
 have HH := hid (And.intro hB (And.intro hT hcl))
 clear hB hT hcl h hk
 go_enter Tryz.func86, Tryz.ntmps86
 go_wp2
 go_loopw [6] (fun ix wr => ∃ k : Nat, k <= tl.length /\ ix = .int .i64 (k : Int) /\ wr = W0 /\ find (tl.take k) nm = none) (fun ix _ => tl.length - (intOf ix).toNat)
 case atStart => exact ⟨0, by omega, rfl, rfl, rfl⟩
 case round =>
  obtain ⟨k, hk, rfl, rfl, hnf⟩ := hrel
  by_cases hlt : k < tl.length
  ·have i1 : (k : Int) < tl.length := by omega
   have ea := List.getElem?_eq_getElem hlt
   generalize tl[k] = t at *
   obtain ⟨b, rfl, _, hbl, hcl⟩ := HH.out.2.2 k t ea
   have q : ∀ (j : Nat) (u : Value), (tyc t)[j]? = some u -> wr.cell? ⟨b, k * 9 + j, none⟩ = some u := fun j u hj => (World.cell?_of_block (w := W) (a := ⟨b, k * 9 + j, none⟩) (HH.out.1.block b hbl)).trans (hcl j u hj)
   have e0 := q 0 _ rfl
   have e1 := q 1 _ rfl
   have e2 := q 2 _ rfl
   have e3 := q 3 _ rfl
   have e4 := q 4 _ rfl
   have e5 := q 5 _ rfl
   have e6 := q 6 _ rfl
   have e7 := q 7 _ rfl
   have e8 := q 8 _ rfl
   rw [Nat.add_zero] at e0
   have HF := hid (And.intro (find_take tl nm k t ea hnf) (find_more tl nm k t ea hnf))
   clear q hcl ea hnf
   by_cases hn : t.nm = nm
   ·have d1 : (t.nm.toList == nm.toList) = true := by rw [hn]; simp
    have HR : Y.Hd (find tl nm = some t) := ⟨by rw [HF.out.1, if_pos hn]⟩
    have hst := HH.out.2.1
    have HT : Y.Hd (TB (wr.setRow W.heap.size (tyc t).toArray) W.heap.size t /\ Below W.heap.size W (wr.setRow W.heap.size (tyc t).toArray)) := ⟨setRow_heap wr W.heap.size _ _ _ _ hst, HH.out.1.os, HH.out.1.tape, HH.out.1.output, by rw [size_setRow]; exact HH.out.1.size, fun i hi => (setRow_other wr W.heap.size i _ (by omega)).trans (HH.out.1.block i hi)⟩
    unfold tyc at HT
    clear hn
    go_wp2_with (refine wpList_store_row rfl 81 _ _ rfl W.heap.size _ rfl rfl 81 _ hst (by exact sizeRT) (by rfl) (by simp [Value.oneCell']) ?_)
    refine bodyPost_ret (wd_end rfl rfl HT.out.1) rfl ?_
    rw [HR.out]
    exact ⟨rfl, HT.out.2⟩
   ·have hn2 : ¬ t.nm.toList = nm.toList := fun e => hn (R.toList_inj e)
    have d1 : (t.nm.toList == nm.toList) = false := by simpa using hn2
    have HR : Y.Hd (find (tl.take (k + 1)) nm = none) := ⟨HF.out.2 hn⟩
    clear hn
    go_wp2
    go_roundw
    case rel =>
     first
      | exact ⟨k + 1, by omega, by go_num, rfl, HR.out⟩
      | exact ⟨k + 1, by omega, by go_num, trivial, HR.out⟩
      | ((repeat apply Exists.intro); refine ⟨⟨k + 1, by omega, ?_, rfl, HR.out⟩, rfl⟩; go_num)
    case measure => simp [intOf]; omega
  ·have i1 : ¬ (k : Int) < tl.length := by omega
   rw [List.take_of_length_le (by omega)] at hnf
   have HR := hid hnf
   have hst := HH.out.2.1
   have HT : Y.Hd (TB (wr.setRow W.heap.size (tyc t0).toArray) W.heap.size t0 /\ Below W.heap.size W (wr.setRow W.heap.size (tyc t0).toArray)) := ⟨setRow_heap wr W.heap.size _ _ _ _ hst, HH.out.1.os, HH.out.1.tape, HH.out.1.output, by rw [size_setRow]; exact HH.out.1.size, fun i hi => (setRow_other wr W.heap.size i _ (by omega)).trans (HH.out.1.block i hi)⟩
   unfold tyc t0 at HT
   clear hnf
   go_wp2_with (refine wpList_store_row rfl 81 _ _ rfl W.heap.size _ rfl rfl 81 _ hst (by exact sizeRT) (by rfl) (by simp [Value.oneCell']) ?_)
   refine bodyPost_ret (wd_end (t := t0) rfl rfl HT.out.1) rfl ?_
   rw [HR.out]
   exact ⟨rfl, HT.out.2⟩
set_option maxHeartbeats 2000000
set_option maxRecDepth 100000
def XB (W : World) (b : Nat) (t : Ty) : Prop := W.heap[b]? = some (.cells [Value.int .i64 t.i, .int .i64 t.o, .int .i64 t.d, .int .i64 t.r, .bool t.nv].toArray 45 (0, 0))
theorem XB.cells {W : World} {b : Nat} {t : Ty} (h : XB W b t) : W.cell? ⟨b, 0, none⟩ = some (.int .i64 t.i) /\ W.cell? ⟨b, 1, none⟩ = some (.int .i64 t.o) /\ W.cell? ⟨b, 2, none⟩ = some (.int .i64 t.d) /\ W.cell? ⟨b, 3, none⟩ = some (.int .i64 t.r) /\ W.cell? ⟨b, 4, none⟩ = some (.bool t.nv) :=
 have c := fun (i : Nat) (v : Value) => S.cell_of W b i _ 45 v h
 ⟨c 0 _ rfl, c 1 _ rfl, c 2 _ rfl, c 3 _ rfl, c 4 _ rfl⟩
theorem Fq.give {W wz : World} {g : Nat} {kv : Value} {b c d : Nat} {s : Rs} {sv : Value} {p : Ps} {w : Rw} (h : Fq W wz g kv b c d s sv p w) (n : FN g b c d W) (s' : Rs) (sv' : Value) (ho : OV wz g sv' s'.own) : RB (wz.setRow d (rsc sv' s').toArray) d sv' s' /\ OV (wz.setRow d (rsc sv' s').toArray) g sv' s'.own /\ RW (wz.setRow d (rsc sv' s').toArray) g kv w /\ Gw g W (wz.setRow d (rsc sv' s').toArray) :=
 ⟨setRow_heap wz d _ _ _ _ h.rb, ho.row _ h.rb (by decide), (setRow_other wz d g _ (by have := n.n0; have := n.n1; have := n.n2; have := n.n3; omega)).trans h.rw, h.gw.setR2 d (rsc sv' s').toArray (by have := n.n1; have := n.n2; have := n.n3; omega)⟩
theorem call_r (w : Rw) (s : Rs) (sv : Value) (nm : ByteArray) (p : Ps) (tl : List Ty) (htl : tl.length <= 1048576) (g : Nat) (kv : Value) (W : World) (h : RW W g kv w) (hkv : KV W g kv tl) (ho : OV W g sv s.own) (hl : s.own.length <= 1000) :
  Calls Tryz.prog 72 #[.pointer (some ⟨g, 0, none⟩), .agg (rsc sv s).toArray, .string nm, .agg #[.int .i64 p.1, .int .i64 p.2]] W (RO W g kv (rcall (find tl nm) p (w, s))) := by
 obtain ⟨q, cc, hsv, _, _⟩ := id ho.ex
 subst hsv
 obtain ⟨W0, W1, W2, hW0, hW1, hW2, hB, hN, hF⟩ := box_spr2 s (.slice q s.own.length cc) p g kv w W h
 have HN := hid hN
 have HO := hid ho
 have HF := hid hF
 have hcw := word_r w tl htl nm g kv W2 hF.rw (hkv.below hB)
 clear hN ho hF hB h hkv
 generalize find tl nm = R at *
 cases R with
 | none =>
  have HR : Y.Hd (rcall none p (w, s) = rstep (w, s) 0 1 p) := ⟨rfl⟩
  generalize rcall none p (w, s) = yy at *
  unfold tyc t0 at hcw
  simp only [Option.getD_none, Option.isSome_none] at hcw
  unfold rsc
  go_enter Tryz.func72, Tryz.ntmps72
  go_wp2_with fail
  refine hcw.mono ?_
  rintro e w3 ⟨rfl, hb3⟩
  clear hcw hW0 hW1 hW2
  have hF3 := HF.out.go HN.out (Gw.of hb3) (HF.out.rw.below hb3)
  clear HF hb3
  have HG : Y.Hd (g < w3.heap.size /\ W1.heap.size < w3.heap.size) := ⟨hF3.rw.lt, S.lt_of hF3.rb⟩
  obtain ⟨w4, hw4⟩ : ∃ w4, w3.alloc (.cells #[.string ⟨#[]⟩, .int .i64 0, .int .i64 0, .int .i64 0, .int .i64 0, .bool false, .int .i64 0, .int .i64 0, .int .i64 0] 81) = w4 := ⟨_, rfl⟩
  have hb4 : Below w3.heap.size w3 w4 := by rw [<- hw4]; exact (Below.refl _ _).alloc (Nat.le_refl _) _
  have hF4 := hF3.go HN.out (Gw.of hb4) (hF3.rw.below hb4)
  obtain ⟨x0, x1, x2⟩ := hF4.sb.cells
  obtain ⟨p0, p1⟩ := hF4.pb.cells
  have hcs := step_r w s (.slice q s.own.length cc) 0 1 p g kv w4 hF4.rw (HO.out.gw hF4.gw) hl
  have HF := hid hF4
  clear hF4 hb4 hF3
  unfold rsc at hcs
  generalize rstep (w, s) 0 1 p = y at *
  have HW4 := hid hw4
  clear hw4
  go_upto_region 3 with fail
  rw [HW4.out]
  go_wp2_with fail
  refine hcs.mono ?_
  rintro e w5 ⟨v', rfl, hov, hrw, hgw⟩
  obtain ⟨q2, c2, hv2, _, _⟩ := id hov.ex
  subst hv2
  clear hcs HW4 x0 x1 x2 p0 p1
  have hF5 := HF.out.go HN.out hgw hrw
  have HT := hid (hF5.give HN.out y.2 _ hov)
  have hst := hF5.rb
  unfold rsc at HT
  clear hF5 HF hov hrw hgw
  go_wp2_with (refine wpList_store_row rfl 99 _ _ rfl W1.heap.size _ rfl rfl 99 _ hst (by exact sizeR) (by rfl) (by simp [Value.oneCell', rsc]) ?_)
  refine bodyPost_ret (rs_end 8 rfl rfl ⟨_, _, _, rfl⟩ HT.out.1) rfl ?_
  rw [HR.out]
  exact ⟨_, rfl, HT.out.2.1, HT.out.2.2.1, HT.out.2.2.2⟩
 | some t =>
  unfold tyc at hcw
  simp only [Option.getD_some, Option.isSome_some] at hcw
  have HR1 : Y.Hd (t.e = 0 -> rcall (some t) p (w, s) = (rgr w (wrap64 (t.i - s.h)) (wrap64 (s.h + t.d)) (wrap64 ((s.own.length : Int) + 1 + t.r)) p, { s with h := wrap64 (wrap64 (s.h - t.i) + t.o), dead := t.nv })) := ⟨fun he => by simp only [rcall]; rw [if_pos he]⟩
  have HR2 : Y.Hd (¬ t.e = 0 -> rcall (some t) p (w, s) = (rfail w t.e p, s)) := ⟨fun he => by simp only [rcall]; rw [if_neg he]⟩
  generalize rcall (some t) p (w, s) = yy at *
  unfold rsc
  go_enter Tryz.func72, Tryz.ntmps72
  go_wp2_with fail
  refine hcw.mono ?_
  rintro e w3 ⟨rfl, hb3⟩
  clear hcw hW0 hW1 hW2
  have hF3 := HF.out.go HN.out (Gw.of hb3) (HF.out.rw.below hb3)
  clear HF hb3
  have HG : Y.Hd (g < w3.heap.size /\ W1.heap.size < w3.heap.size) := ⟨hF3.rw.lt, S.lt_of hF3.rb⟩
  obtain ⟨w4, hw4⟩ : ∃ w4, w3.alloc (.cells #[.string t.nm, .int .i64 t.i, .int .i64 t.o, .int .i64 t.d, .int .i64 t.r, .bool t.nv, .int .i64 t.e, .int .i64 t.p.1, .int .i64 t.p.2] 81) = w4 := ⟨_, rfl⟩
  have hb4 : Below w3.heap.size w3 w4 := by rw [<- hw4]; exact (Below.refl _ _).alloc (Nat.le_refl _) _
  have hT4 : TB w4 w3.heap.size t := by rw [<- hw4]; exact heap_alloc_new w3 _
  have hF4 := hF3.go HN.out (Gw.of hb4) (hF3.rw.below hb4)
  have HF := hid hF4
  obtain ⟨p0, p1⟩ := hF4.pb.cells
  obtain ⟨x0, x1, x2⟩ := hF4.sb.cells
  obtain ⟨t0, t1, t2, t3, t4, t5, t6, t7, t8⟩ := hT4.cells
  by_cases he : t.e = 0
  ·have d1 : (t.e != 0) = false := by simpa using he
   have d2 : (t.e == 0) = true := by simpa using he
   have HR := hid (HR1.out he)
   obtain ⟨w5, hw5⟩ : ∃ w5, w4.alloc (.cells #[.int .i64 t.i, .int .i64 t.o, .int .i64 t.d, .int .i64 t.r, .bool t.nv] 45) = w5 := ⟨_, rfl⟩
   have hb5 : Below w4.heap.size w4 w5 := by rw [<- hw5]; exact (Below.refl _ _).alloc (Nat.le_refl _) _
   have hX5 : XB w5 w4.heap.size t := by rw [<- hw5]; exact heap_alloc_new w4 _
   have hF5 := hF4.go HN.out (Gw.of hb5) (hF4.rw.below hb5)
   obtain ⟨bx, hbx⟩ : ∃ bx, w4.heap.size = bx := ⟨_, rfl⟩
   rw [hbx] at hX5
   have HNX : Y.Hd (bx ≠ g /\ W.heap.size < bx /\ W1.heap.size < bx) := ⟨by have := HG.out; have := hb4.size; have := HN.out; have := this.n1; have := HN.out.n2; have := HN.out.n3; omega⟩
   have HBX := hid hbx
   have HF5 := hid (And.intro hF5 hX5)
   have hlw : wrap64 ((s.own.length : Int) + 1) = (s.own.length : Int) + 1 := Y.w_in _ (by omega)
   clear hb4 hb5 hT4 hF4 hF3 hF5 hX5 HF he hbx
   generalize hz1 : wrap64 (t.i - s.h) = z1 at *
   generalize hz2 : wrap64 (s.h + t.d) = z2 at *
   generalize hz3 : wrap64 ((s.own.length : Int) + 1 + t.r) = z3 at *
   generalize hz4 : wrap64 (wrap64 (s.h - t.i) + t.o) = z4 at *
   go_upto_region 8 with fail
   rw [HBX.out]
   clear hw4 hw5 x0 x1 x2 p0 p1 t0 t1 t2 t3 t4 t5 t6 t7 t8 HBX
   have HFX := HF5
   obtain ⟨x0, x1, x2⟩ := HFX.out.1.sb.cells
   obtain ⟨c0, c1, c2, c3, c4, c5, c6, c7, c8⟩ := HFX.out.1.rw.cells
   obtain ⟨t0, t1, t2, t3, t4⟩ := HFX.out.2.cells
   (try simp only at x0 x1 x2 c0 c1 c2 c3 c4 c5 c6 c7 c8)
   go_quiet (fail)
   go_upto_if 44 with fail
   go_cut [] (fun wc => Fq W wc g kv W.heap.size W0.heap.size W1.heap.size s (.slice q s.own.length cc) p { w with i := max w.i z1 } /\ XB wc bx t)
   case first =>
    have hF := HFX.out.1.dn nq
    have hX : XB (w5.drewN nq) bx t := HFX.out.2
    by_cases hc : w.i < z1
    ·have d1 : decide (w.i < z1) = true := decide_eq_true hc
     obtain ⟨x0, x1, x2⟩ := hF.sb.cells
     obtain ⟨c0, c1, c2, c3, c4, c5, c6, c7, c8⟩ := hF.rw.cells
     obtain ⟨t0, t1, t2, t3, t4⟩ := hX.cells
     (try simp only at x0 x1 x2 c0 c1 c2 c3 c4 c5 c6 c7 c8)
     have f1 := hF.rw.fro 1
     have HT : Y.Hd (Fq W ((w5.drewN nq).setCell ⟨g, 1, none⟩ (.int .i64 z1)) g kv W.heap.size W0.heap.size W1.heap.size s (.slice q s.own.length cc) p { w with i := max w.i z1 } /\ XB ((w5.drewN nq).setCell ⟨g, 1, none⟩ (.int .i64 z1)) bx t) := ⟨hF.setG HN.out 1 _ (by unfold rwc; simp; omega), (S.setCell_other _ _ _ _ _ HNX.out.1).trans hX⟩
     clear hF hX
     go_wp2
     go_meet
     case rel => exact HT.out
    ·have d1 : decide (w.i < z1) = false := decide_eq_false hc
     have HT : Y.Hd (Fq W (w5.drewN nq) g kv W.heap.size W0.heap.size W1.heap.size s (.slice q s.own.length cc) p { w with i := max w.i z1 } /\ XB (w5.drewN nq) bx t) := ⟨by have e : { w with i := max w.i z1 } = w := (by rw [show max w.i z1 = w.i by omega]); rw [e]; exact hF, hX⟩
     clear hF hX
     go_wp2
     go_meet
     case rel => exact HT.out
   case rest =>
    clear HF5 HFX x0 x1 x2 c0 c1 c2 c3 c4 c5 c6 c7 c8 t0 t1 t2 t3 t4
    obtain ⟨w6, hbase⟩ : ∃ wb, wb = wc := ⟨_, rfl⟩
    rw [<- hbase] at hcut ⊢
    clear hbase
    have HF5 := hid hcut
    clear hcut
    go_upto_region 10 with fail
    have HFX := HF5
    obtain ⟨x0, x1, x2⟩ := HFX.out.1.sb.cells
    obtain ⟨c0, c1, c2, c3, c4, c5, c6, c7, c8⟩ := HFX.out.1.rw.cells
    obtain ⟨t0, t1, t2, t3, t4⟩ := HFX.out.2.cells
    (try simp only at x0 x1 x2 c0 c1 c2 c3 c4 c5 c6 c7 c8)
    go_quiet (fail)
    go_upto_if 62 with fail
    go_cut [] (fun wc => Fq W wc g kv W.heap.size W0.heap.size W1.heap.size s (.slice q s.own.length cc) p { w with i := max w.i z1, d := max w.d z2 } /\ XB wc bx t)
    case first =>
     have hF := HFX.out.1.dn nq
     have hX : XB (w6.drewN nq) bx t := HFX.out.2
     by_cases hc : w.d < z2
     ·have d1 : decide (w.d < z2) = true := decide_eq_true hc
      obtain ⟨x0, x1, x2⟩ := hF.sb.cells
      obtain ⟨c0, c1, c2, c3, c4, c5, c6, c7, c8⟩ := hF.rw.cells
      obtain ⟨t0, t1, t2, t3, t4⟩ := hX.cells
      (try simp only at x0 x1 x2 c0 c1 c2 c3 c4 c5 c6 c7 c8)
      have f1 := hF.rw.fro 2
      have HT : Y.Hd (Fq W ((w6.drewN nq).setCell ⟨g, 2, none⟩ (.int .i64 z2)) g kv W.heap.size W0.heap.size W1.heap.size s (.slice q s.own.length cc) p { w with i := max w.i z1, d := max w.d z2 } /\ XB ((w6.drewN nq).setCell ⟨g, 2, none⟩ (.int .i64 z2)) bx t) := ⟨hF.setG HN.out 2 _ (by unfold rwc; simp; omega), (S.setCell_other _ _ _ _ _ HNX.out.1).trans hX⟩
      clear hF hX
      go_wp2
      go_meet
      case rel => exact HT.out
     ·have d1 : decide (w.d < z2) = false := decide_eq_false hc
      have HT : Y.Hd (Fq W (w6.drewN nq) g kv W.heap.size W0.heap.size W1.heap.size s (.slice q s.own.length cc) p { w with i := max w.i z1, d := max w.d z2 } /\ XB (w6.drewN nq) bx t) := ⟨by have e : { w with i := max w.i z1, d := max w.d z2 } = { w with i := max w.i z1 } := (by rw [show max w.d z2 = w.d by omega]); rw [e]; exact hF, hX⟩
      clear hF hX
      go_wp2
      go_meet
      case rel => exact HT.out
    case rest =>
     clear HF5 HFX x0 x1 x2 c0 c1 c2 c3 c4 c5 c6 c7 c8 t0 t1 t2 t3 t4
     obtain ⟨w7, hbase⟩ : ∃ wb, wb = wc := ⟨_, rfl⟩
     rw [<- hbase] at hcut ⊢
     clear hbase
     have HF5 := hid hcut
     clear hcut
     go_upto_region 12 with fail
     have HFX := HF5
     obtain ⟨x0, x1, x2⟩ := HFX.out.1.sb.cells
     obtain ⟨c0, c1, c2, c3, c4, c5, c6, c7, c8⟩ := HFX.out.1.rw.cells
     obtain ⟨t0, t1, t2, t3, t4⟩ := HFX.out.2.cells
     (try simp only at x0 x1 x2 c0 c1 c2 c3 c4 c5 c6 c7 c8)
     go_quiet (fail)
     go_upto_if 82 with fail
     go_cut [] (fun wc => Fq W wc g kv W.heap.size W0.heap.size W1.heap.size s (.slice q s.own.length cc) p { w with i := max w.i z1, d := max w.d z2, r := max w.r z3 } /\ XB wc bx t)
     case first =>
      have hF := HFX.out.1.dn nq
      have hX : XB (w7.drewN nq) bx t := HFX.out.2
      by_cases hc : w.r < z3
      ·have d1 : decide (w.r < z3) = true := decide_eq_true hc
       obtain ⟨x0, x1, x2⟩ := hF.sb.cells
       obtain ⟨c0, c1, c2, c3, c4, c5, c6, c7, c8⟩ := hF.rw.cells
       obtain ⟨t0, t1, t2, t3, t4⟩ := hX.cells
       (try simp only at x0 x1 x2 c0 c1 c2 c3 c4 c5 c6 c7 c8)
       have f1 := hF.rw.fro 3
       have HT : Y.Hd (Fq W ((w7.drewN nq).setCell ⟨g, 3, none⟩ (.int .i64 z3)) g kv W.heap.size W0.heap.size W1.heap.size s (.slice q s.own.length cc) p { w with i := max w.i z1, d := max w.d z2, r := max w.r z3 } /\ XB ((w7.drewN nq).setCell ⟨g, 3, none⟩ (.int .i64 z3)) bx t) := ⟨hF.setG HN.out 3 _ (by unfold rwc; simp; omega), (S.setCell_other _ _ _ _ _ HNX.out.1).trans hX⟩
       clear hF hX
       go_wp2
       go_meet
       case rel => exact HT.out
      ·have d1 : decide (w.r < z3) = false := decide_eq_false hc
       have HT : Y.Hd (Fq W (w7.drewN nq) g kv W.heap.size W0.heap.size W1.heap.size s (.slice q s.own.length cc) p { w with i := max w.i z1, d := max w.d z2, r := max w.r z3 } /\ XB (w7.drewN nq) bx t) := ⟨by have e : { w with i := max w.i z1, d := max w.d z2, r := max w.r z3 } = { w with i := max w.i z1, d := max w.d z2 } := (by rw [show max w.r z3 = w.r by omega]); rw [e]; exact hF, hX⟩
       clear hF hX
       go_wp2
       go_meet
       case rel => exact HT.out
     case rest =>
      clear HF5 HFX x0 x1 x2 c0 c1 c2 c3 c4 c5 c6 c7 c8 t0 t1 t2 t3 t4
      obtain ⟨w8, hbase⟩ : ∃ wb, wb = wc := ⟨_, rfl⟩
      rw [<- hbase] at hcut ⊢
      clear hbase
      have HF5 := hid hcut
      clear hcut
      obtain ⟨x0, x1, x2⟩ := HF5.out.1.sb.cells
      obtain ⟨t0, t1, t2, t3, t4⟩ := HF5.out.2.cells
      have f0 := HF5.out.1.sb.fro 0
      obtain ⟨w9, hw9⟩ : ∃ w9, w8.setCell ⟨W.heap.size, 0, none⟩ (.int .i64 z4) = w9 := ⟨_, rfl⟩
      have hF9 : Fq W w9 g kv W.heap.size W0.heap.size W1.heap.size { s with h := z4 } (.slice q s.own.length cc) p { w with i := max w.i z1, d := max w.d z2, r := max w.r z3 } := by rw [<- hw9]; exact HF5.out.1.setS HN.out 0 _ rfl
      have hX9 : XB w9 bx t := by rw [<- hw9]; exact (S.setCell_other _ _ _ _ _ (by have := HNX.out; omega)).trans HF5.out.2
      obtain ⟨p0, p1⟩ := hF9.pb.cells
      have hcm := most_any { w with i := max w.i z1, d := max w.d z2, r := max w.r z3 } p g kv w9 hF9.rw
      have HF9 := hid (And.intro hF9 hX9)
      clear hF9 hX9 HF5
      go_wp2_with fail
      refine hcm.mono ?_
      rintro e wa ⟨rfl, hra, hga⟩
      clear hcm p0 p1 x0 x1 x2 t0 t1 t2 t3 t4 f0 hw9
      have hF := HF9.out.1.go HN.out hga hra
      have hX : XB wa bx t := hga.keep HF9.out.2 HNX.out.1
      obtain ⟨t0, t1, t2, t3, t4⟩ := hX.cells
      have x2 := hF.sb.cells.2.2
      have f2 := hF.sb.fro 2
      (try simp only at x2)
      obtain ⟨wb, hwb⟩ : ∃ wb, wa.setCell ⟨W.heap.size, 2, none⟩ (.bool t.nv) = wb := ⟨_, rfl⟩
      have hFb : Fq W wb g kv W.heap.size W0.heap.size W1.heap.size { s with h := z4, dead := t.nv } (.slice q s.own.length cc) p (rmost { w with i := max w.i z1, d := max w.d z2, r := max w.r z3 } p) := by rw [<- hwb]; exact hF.setS HN.out 2 _ rfl
      obtain ⟨y0, y1, y2⟩ := hFb.sb.cells
      (try simp only at y0 y1 y2)
      have HT := hid (hFb.done HN.out HO.out)
      have hst := hFb.rb
      unfold rsc at HT
      (try simp only at HT)
      clear hF hX hFb HF9 hra hga
      go_wp2_with (refine wpList_store_row rfl 99 _ _ rfl W1.heap.size _ rfl rfl 99 _ hst (by exact sizeR) (by rfl) (by simp [Value.oneCell', rsc]) ?_)
      refine bodyPost_ret (rs_end 8 rfl rfl ⟨_, _, _, rfl⟩ HT.out.1) rfl ?_
      rw [HR.out]
      exact ⟨_, rfl, HT.out.2.1, HT.out.2.2.1, HT.out.2.2.2⟩
  ·have d1 : (t.e != 0) = true := by simpa using he
   have d2 : (t.e == 0) = false := by simpa using he
   have HR := hid (HR2.out he)
   have hcf := fails_any w t.e p g kv w4 hF4.rw
   clear hb4 hT4 hF4 hF3 he
   go_wp2_with fail
   refine hcf.mono ?_
   rintro e w5 ⟨rfl, hr5, hg5⟩
   clear hcf hw4 x0 x1 x2 p0 p1 t0 t1 t2 t3 t4 t5 t6 t7 t8
   have hF := HF.out.go HN.out hg5 hr5
   obtain ⟨x0, x1, x2⟩ := hF.sb.cells
   have HT := hid (hF.done HN.out HO.out)
   have hst := hF.rb
   unfold rsc at HT
   clear hF HF hr5 hg5
   go_wp2_with (refine wpList_store_row rfl 99 _ _ rfl W1.heap.size _ rfl rfl 99 _ hst (by exact sizeR) (by rfl) (by simp [Value.oneCell', rsc]) ?_)
   refine bodyPost_ret (rs_end 8 rfl rfl ⟨_, _, _, rfl⟩ HT.out.1) rfl ?_
   rw [HR.out]
   exact ⟨_, rfl, HT.out.2.1, HT.out.2.2.1, HT.out.2.2.2⟩
end Go.Proofs.YtlilefhmohkfkaaGreatDoor.E
