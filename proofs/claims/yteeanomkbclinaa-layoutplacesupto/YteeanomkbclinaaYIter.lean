import Derived.Test.YteeanomkbclinaaYLeaf
import Derived.RangeFuncNested
import Derived.RangeFuncBound
import Derived.RangeFuncCalls
import Derived.RangeFuncLeaves
import Derived.Shelf.Abstract
import Derived.Shelf.RegionOpen
import Derived.OwnWalkIn
import Derived.TacticsInMore
import Derived.LoopNIn
import Derived.LoopIn
/-! The iterator: it has a variable of its own, which it writes between the rounds. -/
namespace Go.Proofs.Yteeanomkbclinaa.Y
open Go.RowKit Go.Shelf
open Go.Proofs
set_option linter.unusedVariables false
set_option linter.unusedSimpArgs false
set_option maxHeartbeats 2000000
set_option maxRecDepth 100000
attribute [local go_sem] Oper.semAt_some
/-- What is new, and what is written in the block B. -/
structure GW (B : Nat) (A A' : World) : Prop where
  os : A'.os = A.os
  tape : A'.tape = A.tape
  output : A'.output = A.output
  size : A.heap.size ≤ A'.heap.size
  block : ∀ i, i < A.heap.size → i ≠ B → A'.heap[i]? = A.heap[i]?
theorem GW.of {B : Nat} {A A' : World} (h : Below A.heap.size A A') : GW B A A' := ⟨h.os, h.tape, h.output, h.size, fun i hi _ => h.block i hi⟩
theorem GW.trans {B : Nat} {A A' A'' : World} (h : GW B A A') (k : GW B A' A'') : GW B A A'' := ⟨k.os.trans h.os, k.tape.trans h.tape, k.output.trans h.output, Nat.le_trans h.size k.size, fun i hi hn => (k.block i (Nat.lt_of_lt_of_le hi h.size) hn).trans (h.block i hi hn)⟩
theorem GW.set (B : Nat) (A : World) (i : Nat) (v : Value) : GW B A (A.setCell ⟨B, i, none⟩ v) := by
  have h := (Below.refl B A).setCell (p := ⟨B, i, none⟩) (Nat.le_refl _) v
  exact ⟨h.os, h.tape, h.output, by simp, fun k hk hn => S.setCell_other A B i k v hn⟩
/-- What is taken with the first k definitions. -/
def rms (ds : List Df) (k : Nat) : Rm := (ds.take k).foldl wt (0, 128, 0)
theorem rms_succ (ds : List Df) (k : Nat) (d : Df) (h : ds[k]? = some d) : rms ds (k + 1) = wt (rms ds k) d := by
  unfold rms
  rw [List.take_add_one, h, List.foldl_append]; rfl
theorem rms_ri (ds : List Df) : ∀ k, RI (rms ds k)
  | 0 => by
    unfold rms
    rw [List.take_zero]
    exact ⟨⟨by decide, by decide⟩, ⟨by decide, by decide⟩, by decide, by decide⟩
  | k + 1 => by
    cases h : ds[k]? with
    | some d => rw [rms_succ ds k d h]; exact wt_ri _ _
    | none =>
      have : ds.take (k + 1) = ds.take k := by rw [List.take_add_one, h]; simp
      unfold rms
      rw [this]
      exact rms_ri ds k
theorem filled_any (r : Rm) (dv : Value) (W : World) (hdv : ∃ p l c, dv = .slice p l c) : Calls Try.prog 17 #[.agg (rmc r).toArray, dv] W fun e w' => e = .returned (.func (.func 25) #[] #[.pointer (some ⟨W.heap.size, 0, none⟩), .pointer (some ⟨W.heap.size + 1, 0, none⟩)]) ∧ w' = (W.alloc (.cells (rmc r).toArray 55)).alloc (.cells #[dv] 29) := by
  obtain ⟨p, l, c, rfl⟩ := hdv
  unfold rmc
  go_enter Try.func17, Try.ntmps17
  go_wp2
  go_ret
  exact ⟨rfl, rfl⟩
theorem filled_iter (n : Nat) (hn1 : 1 ≤ n) (l c1 c2 : Nat) (dv : Value) (ds : List Df) (O : Nat → Prop) (J Jx : Nat → World → Prop) (W : World)
    (hc1 : ∀ k A, J k A → A.heap[c1]? = some (.cells (rmc (0, 128, 0)).toArray 55 (0, 0)))
    (hc2 : ∀ k A, J k A → A.heap[c2]? = some (.cells #[dv] 29 (0, 0)))
    (hD : ∀ k A, J k A → DV A O dv ds) (hO : ∀ i, O i → i < W.heap.size)
    (hJ : ∀ k A A', J k A → GW W.heap.size A A' → J k A')
    (hY : ∀ (k : Nat) (d : Df) (bv : Value) (A : World), ds[k]? = some d → NV A O bv d.body → J k A → A.heap[W.heap.size]? = some (.cells (rmc (rms ds (k + 1))).toArray 55 (0, 0)) →
      YieldAt Fence.wide (n - 1) Try.prog l #[.agg (dfc d bv).toArray, .agg (rmc (rms ds (k + 1))).toArray] A fun e A' => (e = .returned (.bool true) ∧ J (k + 1) A' ∧ A'.heap[W.heap.size]? = A.heap[W.heap.size]?) ∨ (e = .returned (.bool false) ∧ Jx (k + 1) A'))
    (h0 : J 0 W) :
    CallsIn Fence.wide n Try.prog 25 (#[.func (.yield l) #[] #[]] ++ #[.pointer (some ⟨c1, 0, none⟩), .pointer (some ⟨c2, 0, none⟩)]) W fun e W' => (∃ v, e = .returned v) ∧ (J ds.length W' ∨ ∃ k, k < ds.length ∧ Jx (k + 1) W') := by
  have b1 : W.heap[c1]? = some (.cells [.int .i64 0, .int .i64 128, .int .i64 0].toArray 55 (0, 0)) := hc1 0 W h0
  have b2 := hc2 0 W h0
  obtain ⟨p, c, rfl, hl, hp⟩ := hD 0 W h0
  have x0 := S.cell_of W c1 0 _ 55 _ b1 rfl
  have x1 := S.cell_of W c1 1 _ 55 _ b1 rfl
  have x2 := S.cell_of W c1 2 _ 55 _ b1 rfl
  have l1 := S.lt_of b1
  have l2 := S.lt_of b2
  obtain ⟨W0, hW0⟩ : ∃ W0, W0 = W.alloc (.cells #[.int .i64 0, .int .i64 128, .int .i64 0] 55) := ⟨_, rfl⟩
  have z0 : GW W.heap.size W W0 := by rw [hW0]; exact GW.of ((Below.refl _ W).alloc (Nat.le_refl _) _)
  have q0 : W0.heap[W.heap.size]? = some (.cells [.int .i64 0, .int .i64 128, .int .i64 0].toArray 55 (0, 0)) := by rw [hW0]; exact heap_alloc_new W _
  have d2 : W.cell? ⟨c2, 0, none⟩ = some (.slice p ds.length c) := S.cell_of W c2 0 [_] 29 _ b2 rfl
  have HJ := hid hJ
  have HY := hid hY
  have HO := hid hO
  have HD := hid hD
  have HZ := hid (And.intro z0 q0)
  have H0 := hid h0
  clear hJ hY hO hD hp z0 q0 h0 b1 b2 hc1 hc2
  refine callsIn_of_wp Try.func25 rfl trivial ?_ rfl
  simp only [Try.ntmps25, List.size_toArray, List.length_cons, List.length_nil, Nat.reduceAdd, Nat.reduceSub, Array.replicate_succ, Array.replicate_zero, List.push_toArray, List.append_toArray, List.nil_append, List.cons_append]
  gi_wp2
  rw [← hW0]
  clear hW0 x0 x1 x2 d2
  gi_loopw [10] (fun i wr => ∃ k : Nat, k ≤ ds.length ∧ i = .int .i64 (k : Int) ∧ J k wr ∧ wr.heap[W.heap.size]? = some (.cells (rmc (rms ds k)).toArray 55 (0, 0))) (fun i _ => ds.length - (intOf i).toNat)
  case atStart => exact ⟨0, by omega, rfl, HJ.out _ _ _ H0.out HZ.out.1, HZ.out.2⟩
  case round =>
    obtain ⟨k, hk, rfl, hJk, hB⟩ := hrel
    by_cases hlt : k < ds.length
    · have i1 : (k : Int) < ds.length := by omega
      have ea := List.getElem?_eq_getElem hlt
      generalize ds[k] = d at *
      obtain ⟨p', c', e', _, hp⟩ := HD.out k wr hJk
      cases e'
      obtain ⟨b, o, rfl, hOb, bv, hc, hn⟩ := hp k d ea
      obtain ⟨q1, d1, rfl, _, _⟩ := hn.ex
      obtain ⟨g0, g1, g2, g3, g4, g5⟩ := cells6 hc
      have lB := S.lt_of hB
      have hO1 : ∀ i, O i → i < wr.heap.size := fun i hi => Nat.lt_trans (HO.out i hi) lB
      have hB' : wr.heap[W.heap.size]? = some (.cells (rmc (rms ds k)).toArray 55 (0, 0)) := hB
      obtain ⟨A1, hA1⟩ : ∃ A1, A1 = wr.alloc (.cells #[.int .i64 d.k, .string d.nm, .int .u16 d.v, .slice q1 d.body.length d1, .int .i64 d.p.1, .int .i64 d.p.2] 36) := ⟨_, rfl⟩
      have zA : Below wr.heap.size wr A1 := by rw [hA1]; exact (Below.refl _ wr).alloc (Nat.le_refl _) _
      have vX : A1.heap[wr.heap.size]? = some (.cells (dfc d (.slice q1 d.body.length d1)).toArray 36 (0, 0)) := by rw [hA1]; exact heap_alloc_new wr _
      have vB := (zA.block _ lB).trans hB
      have hw := with_any (rms ds k) (rms_ri ds k) d (.slice q1 d.body.length d1) O A1 (fun i hi => Nat.lt_of_lt_of_le (hO1 i hi) zA.size) (hn.below zA hO1)
      rw [← rms_succ ds k d ea] at hw
      have HJA := hid (HJ.out _ _ _ hJk (GW.of (B := W.heap.size) zA))
      have HN := hid (hn.below zA hO1)
      have HO1 := hid (fun i hi => Nat.lt_of_lt_of_le (hO1 i hi) zA.size)
      have HV := hid (And.intro vX vB)
      have HE := hid ea
      have y0 := S.cell_of wr W.heap.size 0 _ 55 _ hB rfl
      have y1 := S.cell_of wr W.heap.size 1 _ 55 _ hB rfl
      have y2 := S.cell_of wr W.heap.size 2 _ 55 _ hB rfl
      have hXB : W.heap.size ≠ wr.heap.size := by omega
      have HL := hid (And.intro lB hXB)
      have HA := hid hA1
      rw [hA1] at hw
      unfold rmc dfc at hw
      generalize hr1 : (rms ds (k + 1)).1 = r1 at *
      generalize hr2 : (rms ds (k + 1)).2.1 = r2 at *
      generalize hr3 : (rms ds (k + 1)).2.2 = r3 at *
      have HRR := hid (And.intro hr1 (And.intro hr2 hr3))
      clear hr1 hr2 hr3 hA1 zA vX vB hO1 hB hB' hn hc hp hJk ea
      gi_wp2_with fail
      refine ⟨trivial, ?_⟩
      gi_at_call 26
      refine (callsIn_wide.2 hw).mono ?_
      rintro e w1 ⟨rfl, hb⟩
      rw [← HA.out] at hb
      have uX := (hb.block _ (S.lt_of HV.out.1)).trans HV.out.1
      have uB := (hb.block _ (S.lt_of HV.out.2)).trans HV.out.2
      clear hw y0 y1 y2
      have c0 := S.cell_of w1 W.heap.size 0 _ 55 _ uB rfl
      have c1 := S.cell_of w1 W.heap.size 1 _ 55 _ uB rfl
      have c2 := S.cell_of w1 W.heap.size 2 _ 55 _ uB rfl
      have f0 := S.frozen_of w1 W.heap.size 0 _ 55 uB
      have f1 := S.frozen_of w1 W.heap.size 1 _ 55 uB
      have f2 := S.frozen_of w1 W.heap.size 2 _ 55 uB
      have q3 : (((w1.setCell ⟨W.heap.size, 0, none⟩ (.int .i64 r1)).setCell ⟨W.heap.size, 1, none⟩ (.int .i64 r2)).setCell ⟨W.heap.size, 2, none⟩ (.int .i64 r3)).heap[W.heap.size]? = some (.cells (rmc (rms ds (k + 1))).toArray 55 (0, 0)) := by (rw [rmc, HRR.out.1, HRR.out.2.1, HRR.out.2.2]; exact S.setCell_heap _ W.heap.size 2 _ 55 (.int .i64 r3) (S.setCell_heap _ W.heap.size 1 _ 55 (.int .i64 r2) (S.setCell_heap w1 W.heap.size 0 _ 55 (.int .i64 r1) uB)))
      have g3 : GW W.heap.size A1 (((w1.setCell ⟨W.heap.size, 0, none⟩ (.int .i64 r1)).setCell ⟨W.heap.size, 1, none⟩ (.int .i64 r2)).setCell ⟨W.heap.size, 2, none⟩ (.int .i64 r3)) := (((GW.of hb).trans (GW.set _ _ _ _)).trans (GW.set _ _ _ _)).trans (GW.set _ _ _ _)
      have X3 := (g3.block _ (S.lt_of HV.out.1) (Ne.symm HL.out.2)).trans HV.out.1
      have e0 := S.cell_of _ wr.heap.size 0 _ 36 _ X3 rfl
      have e1 := S.cell_of _ wr.heap.size 1 _ 36 _ X3 rfl
      have e2 := S.cell_of _ wr.heap.size 2 _ 36 _ X3 rfl
      have e3 := S.cell_of _ wr.heap.size 3 _ 36 _ X3 rfl
      have e4 := S.cell_of _ wr.heap.size 4 _ 36 _ X3 rfl
      have e5 := S.cell_of _ wr.heap.size 5 _ 36 _ X3 rfl
      obtain ⟨fn, tmps, assign, body, hy, hR⟩ := HY.out k d _ _ HE.out (HN.out.kept (fun i hi => g3.block i (HO1.out i hi) (by have := HO.out i hi; omega)) fun _ h => h) (HJ.out _ _ _ HJA.out g3) q3
      rw [rmc, HRR.out.1, HRR.out.2.1, HRR.out.2.2] at hy
      unfold dfc at hy
      have HQ := hid q3
      clear uX uB q3 g3 X3 hb
      gi_wp2
      refine hR.mono ?_
      have hms : ds.length - (((k + 1 : Nat) : Int)).toNat < ds.length - ((k : Int)).toNat := by omega
      have hn2 : IntKind.i64.wrap ((k : Int) + 1) = ((k + 1 : Nat) : Int) := by rw [IntWalk.i64_left, w_in _ (by omega)]; omega
      have HMS := hid hms
      have HN2 := hid hn2
      clear hms hn2
      rintro e W3 (⟨rfl, hJ3, hk3⟩ | ⟨rfl, hJx3⟩)
      · gi_wp2
        refine ⟨⟨k + 1, by omega, ?_, hJ3, hk3.trans HQ.out⟩, ?_⟩
        · first
            | rw [HN2.out]
            | go_num
        · have := HMS.out
          first
            | simpa [intOf] using this
            | (simp [intOf]; omega)
      · gi_wp2
        refine bodyPost_ret (results_none rfl _ _ _) rfl ?_
        exact ⟨⟨_, rfl⟩, .inr ⟨k, hlt, hJx3⟩⟩
    · obtain rfl : k = ds.length := by omega
      gi_wp2
      go_end0
      exact ⟨⟨_, rfl⟩, .inl hJk⟩
end Go.Proofs.Yteeanomkbclinaa.Y
