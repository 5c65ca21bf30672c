import Derived.Test.YtoemoiehjdmheaaGreatYSize
import Derived.RangeFuncNested
import Derived.RangeFuncBound
import Derived.RangeFuncCalls
import Derived.RangeFuncLeaves
import Derived.Shelf.Abstract
import Derived.Shelf.RegionOpen
import Derived.OwnWalkIn
import Derived.TacticsInMore
import Derived.LoopNIn
import Derived.LoopIn
namespace Go.Proofs.YtoemoiehjdmheaaGreat.Y
open Go.RowKit Go.Shelf
open Go.Proofs
set_option linter.unusedVariables false
set_option linter.unusedSimpArgs false
set_option maxHeartbeats 2000000
set_option maxRecDepth 100000
attribute [local go_sem] Oper.semAt_some
structure GW (B : Nat) (A A' : World) : Prop where
  os : A'.os = A.os
  tape : A'.tape = A.tape
  output : A'.output = A.output
  size : A.heap.size <= A'.heap.size
  block : ∀ i, i < A.heap.size -> i ≠ B -> A'.heap[i]? = A.heap[i]?
theorem GW.of {B : Nat} {A A' : World} (h : Below A.heap.size A A') : GW B A A' := ⟨h.os, h.tape, h.output, h.size, fun i hi _ => h.block i hi⟩
theorem GW.trans {B : Nat} {A A' A'' : World} (h : GW B A A') (k : GW B A' A'') : GW B A A'' := ⟨k.os.trans h.os, k.tape.trans h.tape, k.output.trans h.output, Nat.le_trans h.size k.size, fun i hi hn => (k.block i (Nat.lt_of_lt_of_le hi h.size) hn).trans (h.block i hi hn)⟩
theorem GW.set (B : Nat) (A : World) (i : Nat) (v : Value) : GW B A (A.setCell ⟨B, i, none⟩ v) := by
  have h := (Below.refl B A).setCell (p := ⟨B, i, none⟩) (Nat.le_refl _) v
  exact ⟨h.os, h.tape, h.output, by simp, fun k hk hn => S.setCell_other A B i k v hn⟩
def rms (ds : List Df) (k : Nat) : Rm := (ds.take k).foldl wt (0, 128, 0)
theorem rms_succ (ds : List Df) (k : Nat) (d : Df) (h : ds[k]? = some d) : rms ds (k + 1) = wt (rms ds k) d := by
  unfold rms
  rw [List.take_add_one, h, List.foldl_append]; rfl
theorem rms_ri (ds : List Df) : ∀ k, RI (rms ds k)
  | 0 => by
    unfold rms
    rw [List.take_zero]
    exact ⟨⟨by decide, by decide⟩, ⟨by decide, by decide⟩, by decide, by decide⟩
  | k + 1 => by
    cases h : ds[k]? with
    | some d => rw [rms_succ ds k d h]; exact wt_ri _ _
    | none =>
      have : ds.take (k + 1) = ds.take k := by rw [List.take_add_one, h]; simp
      unfold rms
      rw [this]
      exact rms_ri ds k
theorem filled_any (r : Rm) (dv : Value) (W : World) (hdv : ∃ p l c, dv = .slice p l c) : Calls Tryz.prog 48 #[.agg (rmc r).toArray, dv] W fun e w' => e = .returned (.func (.func 62) #[] #[.pointer (some ⟨W.heap.size, 0, none⟩), .pointer (some ⟨W.heap.size + 1, 0, none⟩)]) /\ w' = (W.alloc (.cells (rmc r).toArray 136)).alloc (.cells #[dv] 44) := by
  obtain ⟨p, l, c, rfl⟩ := hdv
  unfold rmc
  go_enter Tryz.func48, Tryz.ntmps48
  go_wp2
  go_ret
  exact ⟨rfl, rfl⟩
theorem filled_iter (n : Nat) (hn1 : 1 <= n) (l c1 c2 : Nat) (dv : Value) (ds : List Df) (O : Nat -> Prop) (J Jx : Nat -> World -> Prop) (W : World)
    (hc1 : ∀ k A, J k A -> A.heap[c1]? = some (.cells (rmc (0, 128, 0)).toArray 136 (0, 0)))
    (hc2 : ∀ k A, J k A -> A.heap[c2]? = some (.cells #[dv] 44 (0, 0)))
    (hD : ∀ k A, J k A -> DV A O dv ds) (hO : ∀ i, O i -> i < W.heap.size)
    (hJ : ∀ k A A', J k A -> GW W.heap.size A A' -> J k A')
    (hY : ∀ (k : Nat) (d : Df) (bv : Value) (A : World), ds[k]? = some d -> NV A O bv d.body -> J k A -> A.heap[W.heap.size]? = some (.cells (rmc (rms ds (k + 1))).toArray 136 (0, 0)) ->
      YieldAt Fence.wide (n - 1) Tryz.prog l #[.agg (dfc d bv).toArray, .agg (rmc (rms ds (k + 1))).toArray] A fun e A' => (e = .returned (.bool true) /\ J (k + 1) A' /\ A'.heap[W.heap.size]? = A.heap[W.heap.size]?) \/ (e = .returned (.bool false) /\ Jx (k + 1) A'))
    (h0 : J 0 W) :
    CallsIn Fence.wide n Tryz.prog 62 (#[.func (.yield l) #[] #[]] ++ #[.pointer (some ⟨c1, 0, none⟩), .pointer (some ⟨c2, 0, none⟩)]) W fun e W' => (∃ v, e = .returned v) /\ (J ds.length W' \/ ∃ k, k < ds.length /\ Jx (k + 1) W') := by
  have b1 : W.heap[c1]? = some (.cells [.int .i64 0, .int .i64 128, .int .i64 0].toArray 136 (0, 0)) := hc1 0 W h0
  have b2 := hc2 0 W h0
  obtain ⟨p, c, rfl, hl, hp⟩ := hD 0 W h0
  have x0 := S.cell_of W c1 0 _ 136 _ b1 rfl
  have x1 := S.cell_of W c1 1 _ 136 _ b1 rfl
  have x2 := S.cell_of W c1 2 _ 136 _ b1 rfl
  have l1 := S.lt_of b1
  have l2 := S.lt_of b2
  obtain ⟨W0, hW0⟩ : ∃ W0, W0 = W.alloc (.cells #[.int .i64 0, .int .i64 128, .int .i64 0] 136) := ⟨_, rfl⟩
  have z0 : GW W.heap.size W W0 := by rw [hW0]; exact GW.of ((Below.refl _ W).alloc (Nat.le_refl _) _)
  have q0 : W0.heap[W.heap.size]? = some (.cells [.int .i64 0, .int .i64 128, .int .i64 0].toArray 136 (0, 0)) := by rw [hW0]; exact heap_alloc_new W _
  have d2 : W.cell? ⟨c2, 0, none⟩ = some (.slice p ds.length c) := S.cell_of W c2 0 [_] 44 _ b2 rfl
  have HJ := hid hJ
  have HY := hid hY
  have HO := hid hO
  have HD := hid hD
  have HZ := hid (And.intro z0 q0)
  have H0 := hid h0
  clear hJ hY hO hD hp z0 q0 h0 b1 b2 hc1 hc2
  refine callsIn_of_wp Tryz.func62 rfl trivial ?_ rfl
  simp only [Tryz.ntmps62, List.size_toArray, List.length_cons, List.length_nil, Nat.reduceAdd, Nat.reduceSub, Array.replicate_succ, Array.replicate_zero, List.push_toArray, List.append_toArray, List.nil_append, List.cons_append]
  gi_wp2
  rw [<- hW0]
  clear hW0 x0 x1 x2 d2
  gi_loopw [10] (fun i wr => ∃ k : Nat, k <= ds.length /\ i = .int .i64 (k : Int) /\ J k wr /\ wr.heap[W.heap.size]? = some (.cells (rmc (rms ds k)).toArray 136 (0, 0))) (fun i _ => ds.length - (intOf i).toNat)
  case atStart => exact ⟨0, by omega, rfl, HJ.out _ _ _ H0.out HZ.out.1, HZ.out.2⟩
  case round =>
    obtain ⟨k, hk, rfl, hJk, hB⟩ := hrel
    by_cases hlt : k < ds.length
    · have i1 : (k : Int) < ds.length := by omega
      have ea := List.getElem?_eq_getElem hlt
      generalize ds[k] = d at *
      obtain ⟨p', c', e', _, hp⟩ := HD.out k wr hJk
      cases e'
      obtain ⟨b, o, rfl, hOb, bv, hc, hn⟩ := hp k d ea
      obtain ⟨q1, d1, rfl, _, _⟩ := hn.ex
      obtain ⟨g0, g1, g2, g3, g4, g5⟩ := cells6 hc
      have lB := S.lt_of hB
      have hO1 : ∀ i, O i -> i < wr.heap.size := fun i hi => Nat.lt_trans (HO.out i hi) lB
      have hB' : wr.heap[W.heap.size]? = some (.cells (rmc (rms ds k)).toArray 136 (0, 0)) := hB
      obtain ⟨A1, hA1⟩ : ∃ A1, A1 = wr.alloc (.cells #[.int .i64 d.k, .string d.nm, .int .u16 d.v, .slice q1 d.body.length d1, .int .i64 d.p.1, .int .i64 d.p.2] 60) := ⟨_, rfl⟩
      have zA : Below wr.heap.size wr A1 := by rw [hA1]; exact (Below.refl _ wr).alloc (Nat.le_refl _) _
      have vX : A1.heap[wr.heap.size]? = some (.cells (dfc d (.slice q1 d.body.length d1)).toArray 60 (0, 0)) := by rw [hA1]; exact heap_alloc_new wr _
      have vB := (zA.block _ lB).trans hB
      have hw := with_any (rms ds k) (rms_ri ds k) d (.slice q1 d.body.length d1) O A1 (fun i hi => Nat.lt_of_lt_of_le (hO1 i hi) zA.size) (hn.below zA hO1)
      rw [<- rms_succ ds k d ea] at hw
      have HJA := hid (HJ.out _ _ _ hJk (GW.of (B := W.heap.size) zA))
      have HN := hid (hn.below zA hO1)
      have HO1 := hid (fun i hi => Nat.lt_of_lt_of_le (hO1 i hi) zA.size)
      have HV := hid (And.intro vX vB)
      have HE := hid ea
      have y0 := S.cell_of wr W.heap.size 0 _ 136 _ hB rfl
      have y1 := S.cell_of wr W.heap.size 1 _ 136 _ hB rfl
      have y2 := S.cell_of wr W.heap.size 2 _ 136 _ hB rfl
      have hXB : W.heap.size ≠ wr.heap.size := by omega
      have HL := hid (And.intro lB hXB)
      have HA := hid hA1
      rw [hA1] at hw
      unfold rmc dfc at hw
      generalize hr1 : (rms ds (k + 1)).1 = r1 at *
      generalize hr2 : (rms ds (k + 1)).2.1 = r2 at *
      generalize hr3 : (rms ds (k + 1)).2.2 = r3 at *
      have HRR := hid (And.intro hr1 (And.intro hr2 hr3))
      clear hr1 hr2 hr3 hA1 zA vX vB hO1 hB hB' hn hc hp hJk ea
      gi_wp2_with fail
      refine ⟨trivial, ?_⟩
      gi_at_call 63
      refine (callsIn_wide.2 hw).mono ?_
      rintro e w1 ⟨rfl, hb⟩
      rw [<- HA.out] at hb
      have uX := (hb.block _ (S.lt_of HV.out.1)).trans HV.out.1
      have uB := (hb.block _ (S.lt_of HV.out.2)).trans HV.out.2
      clear hw y0 y1 y2
      have c0 := S.cell_of w1 W.heap.size 0 _ 136 _ uB rfl
      have c1 := S.cell_of w1 W.heap.size 1 _ 136 _ uB rfl
      have c2 := S.cell_of w1 W.heap.size 2 _ 136 _ uB rfl
      have f0 := S.frozen_of w1 W.heap.size 0 _ 136 uB
      have f1 := S.frozen_of w1 W.heap.size 1 _ 136 uB
      have f2 := S.frozen_of w1 W.heap.size 2 _ 136 uB
      have q3 : (((w1.setCell ⟨W.heap.size, 0, none⟩ (.int .i64 r1)).setCell ⟨W.heap.size, 1, none⟩ (.int .i64 r2)).setCell ⟨W.heap.size, 2, none⟩ (.int .i64 r3)).heap[W.heap.size]? = some (.cells (rmc (rms ds (k + 1))).toArray 136 (0, 0)) := by (rw [rmc, HRR.out.1, HRR.out.2.1, HRR.out.2.2]; exact S.setCell_heap _ W.heap.size 2 _ 136 (.int .i64 r3) (S.setCell_heap _ W.heap.size 1 _ 136 (.int .i64 r2) (S.setCell_heap w1 W.heap.size 0 _ 136 (.int .i64 r1) uB)))
      have g3 : GW W.heap.size A1 (((w1.setCell ⟨W.heap.size, 0, none⟩ (.int .i64 r1)).setCell ⟨W.heap.size, 1, none⟩ (.int .i64 r2)).setCell ⟨W.heap.size, 2, none⟩ (.int .i64 r3)) := (((GW.of hb).trans (GW.set _ _ _ _)).trans (GW.set _ _ _ _)).trans (GW.set _ _ _ _)
      have X3 := (g3.block _ (S.lt_of HV.out.1) (Ne.symm HL.out.2)).trans HV.out.1
      have e0 := S.cell_of _ wr.heap.size 0 _ 60 _ X3 rfl
      have e1 := S.cell_of _ wr.heap.size 1 _ 60 _ X3 rfl
      have e2 := S.cell_of _ wr.heap.size 2 _ 60 _ X3 rfl
      have e3 := S.cell_of _ wr.heap.size 3 _ 60 _ X3 rfl
      have e4 := S.cell_of _ wr.heap.size 4 _ 60 _ X3 rfl
      have e5 := S.cell_of _ wr.heap.size 5 _ 60 _ X3 rfl
      obtain ⟨fn, tmps, assign, body, hy, hR⟩ := HY.out k d _ _ HE.out (HN.out.kept (fun i hi => g3.block i (HO1.out i hi) (by have := HO.out i hi; omega)) fun _ h => h) (HJ.out _ _ _ HJA.out g3) q3
      rw [rmc, HRR.out.1, HRR.out.2.1, HRR.out.2.2] at hy
      unfold dfc at hy
      have HQ := hid q3
      clear uX uB q3 g3 X3 hb
      gi_wp2
      refine hR.mono ?_
      have hms : ds.length - (((k + 1 : Nat) : Int)).toNat < ds.length - ((k : Int)).toNat := by omega
      have hn2 : IntKind.i64.wrap ((k : Int) + 1) = ((k + 1 : Nat) : Int) := by rw [IntWalk.i64_left, w_in _ (by omega)]; omega
      have HMS := hid hms
      have HN2 := hid hn2
      clear hms hn2
      rintro e W3 (⟨rfl, hJ3, hk3⟩ | ⟨rfl, hJx3⟩)
      · gi_wp2
        refine ⟨⟨k + 1, by omega, ?_, hJ3, hk3.trans HQ.out⟩, ?_⟩
        · first
            | rw [HN2.out]
            | go_num
        · have := HMS.out
          first
            | simpa [intOf] using this
            | (simp [intOf]; omega)
      · gi_wp2
        refine bodyPost_ret (results_none rfl _ _ _) rfl ?_
        exact ⟨⟨_, rfl⟩, .inr ⟨k, hlt, hJx3⟩⟩
    · obtain rfl : k = ds.length := by omega
      gi_wp2
      go_end0
      exact ⟨⟨_, rfl⟩, .inl hJk⟩
set_option maxHeartbeats 2000000
set_option maxRecDepth 100000
structure GN (s : Nat) (A A' : World) : Prop where
  os : A'.os = A.os
  tape : A'.tape = A.tape
  output : A'.output = A.output
  size : A.heap.size <= A'.heap.size
  block : ∀ i, i < A.heap.size -> i ≠ s -> i ≠ s + 1 -> i ≠ s + 2 -> A'.heap[i]? = A.heap[i]?
theorem GN.put (s : Nat) (A : World) (l : Nat) (o : Obj) (h : l = s \/ l = s + 1 \/ l = s + 2) : GN s A (A.putObj l o) :=
  ⟨rfl, rfl, rfl, by simp, fun i _ h0 h1 h2 => World.putObj_heap_other (by omega)⟩
theorem GN.gw {s : Nat} {A A' : World} (h : GW (s + 2) A A') : GN s A A' := ⟨h.os, h.tape, h.output, h.size, fun i hi _ _ h2 => h.block i hi h2⟩
def bodyEnd (s : Nat) (A : World) (I Ix : World -> Prop) : Exit -> Act -> World -> Prop
  | .normal, _, A3 => (∀ i, s <= i -> i <= s + 2 -> A3.heap[i]? = A.heap[i]?) /\ I A3
  | .ret, _, A3 => (∀ i, s <= i -> i <= s + 2 -> A3.heap[i]? = A.heap[i]?) /\ Ix A3
  | _, _, _ => False
theorem range_filled (n : Nat) (hn : 3 <= n) {g : Operand} {pr : Array Tmp} {assign body : Code} {Q : Exit -> Act -> World -> Prop} {a : Act} {w : World} (c1 c2 : Nat)
    (hg : a.eval g = .func (.func 62) #[] #[.pointer (some ⟨c1, 0, none⟩), .pointer (some ⟨c2, 0, none⟩)]) (hpr : pr.size = 2)
    (dv : Value) (ds : List Df) (O : Nat -> Prop) (I Ix : Nat -> World -> Prop)
    (hc1 : ∀ k A, I k A -> A.heap[c1]? = some (.cells (rmc (0, 128, 0)).toArray 136 (0, 0)))
    (hc2 : ∀ k A, I k A -> A.heap[c2]? = some (.cells #[dv] 44 (0, 0)))
    (hD : ∀ k A, I k A -> DV A O dv ds) (hO : ∀ i, O i -> i < w.heap.size)
    (hI : ∀ k A A', I k A -> GN w.heap.size A A' -> I k A') (hIx : ∀ k A A', Ix k A -> GN w.heap.size A A' -> Ix k A')
    (Ax : Nat -> Df -> Value -> Act -> World -> Prop) (hAx : ∀ k d bv a' A A', Ax k d bv a' A -> GN w.heap.size A A' -> Ax k d bv a' A')
    (hassign : ∀ (l k : Nat) (d : Df) (bv : Value) (A : World) (K : Act -> World -> Prop), ds[k]? = some d -> NV A O bv d.body -> I k A -> w.heap.size + 2 < A.heap.size -> (∀ a' A', Below A.heap.size A A' -> I k A' -> Ax k d bv a' A' -> K a' A') ->
      assign.wpIn (Fence.wide.inRound l) (n - 1 - 1) Tryz.prog (Exit.then K (fun _ _ _ => False)) { tmps := (pr.zip #[.agg (dfc d bv).toArray, .agg (rmc (rms ds (k + 1))).toArray]).foldl (fun t (p, v) => t.setIfInBounds p v) a.tmps, defers := [] } A)
    (hbody : ∀ (l k : Nat) (d : Df) (bv : Value) (a' : Act) (A : World), ds[k]? = some d -> NV A O bv d.body -> I k A -> w.heap.size + 2 < A.heap.size -> Ax k d bv a' A ->
      body.wpIn (Fence.wide.inRound l) (n - 1 - 1) Tryz.prog (bodyEnd w.heap.size A (I (k + 1)) (Ix (k + 1))) a' A)
    (h0 : I 0 w)
    (hdone : ∀ A, I ds.length A -> A.heap[w.heap.size]? = some (.deferred (some [])) -> Q .normal { a with defers := { target := .collected w.heap.size, args := #[] } :: a.defers } A)
    (hstop : ∀ k A, k < ds.length -> Ix (k + 1) A -> A.heap[w.heap.size]? = some (.deferred (some [])) -> Code.ret.wpIn Fence.wide n Tryz.prog Q { a with defers := { target := .collected w.heap.size, args := #[] } :: a.defers } A) :
    (Code.rangeFunc g pr assign body).wpIn Fence.wide n Tryz.prog Q a w := by
  refine wpIn_rangeFunc ?_
  intro fn hfn
  obtain ⟨rec, hrec⟩ : ∃ rec : LoopState -> Option Code -> Loop, rec = fun st pe => { state := st, pending := pe, fn, tmps := a.tmps, params := pr, assign, body, defers := w.heap.size } := ⟨_, rfl⟩
  obtain ⟨W1, hW1⟩ : ∃ W1, W1 = (w.alloc (.deferred (some []))).alloc (.loop (rec .ready none)) := ⟨_, rfl⟩
  have sz1 : W1.heap.size = w.heap.size + 2 := by rw [hW1]; simp
  have hL1 : W1.heap[w.heap.size + 1]? = some (.loop (rec .ready none)) := by
    rw [hW1]
    have := World.alloc_heap_new (w.alloc (.deferred (some []))) (.loop (rec .ready none))
    rwa [World.size_alloc] at this
  have hK1 : W1.heap[w.heap.size]? = some (.deferred (some [])) := by
    rw [hW1]
    exact (Below.heap_alloc _ _ _ (by simp)).trans (World.alloc_heap_new w _)
  have hb1 : Below w.heap.size w W1 := by rw [hW1]; exact ((Below.refl _ w).alloc (Nat.le_refl _) _).alloc (by simp) _
  have hI1 : I 0 W1 := hI 0 w W1 h0 ⟨hb1.os, hb1.tape, hb1.output, hb1.size, fun i hi _ _ _ => hb1.block i hi⟩
  refine ⟨w.heap.size + 1, [{ target := .collected w.heap.size, args := #[] }], W1, { target := .fn (.func 62) #[.pointer (some ⟨c1, 0, none⟩), .pointer (some ⟨c2, 0, none⟩)], args := #[.func (.yield (w.heap.size + 1)) #[] #[]] }, W1, 62,
    #[.func (.yield (w.heap.size + 1)) #[] #[]] ++ #[.pointer (some ⟨c1, 0, none⟩), .pointer (some ⟨c2, 0, none⟩)], W1, ?_, ?_, fun _ _ => trivial, ?_, fun _ => by omega, ?_⟩
  · rw [hW1, hrec]
    exact run_enterLoop_outer _ _ _ _ _
  · simp only [resolve, hg]
    simp [go_sem]
  · simp [invoke, go_sem, Tryz.call62]
  · refine (filled_iter (n - 1) (by omega) (w.heap.size + 1) c1 c2 dv ds O
      (fun k A => I k A /\ A.heap[w.heap.size + 1]? = some (.loop (rec .ready none)) /\ A.heap[w.heap.size]? = some (.deferred (some [])))
      (fun k A => Ix k A /\ A.heap[w.heap.size + 1]? = some (.loop (rec .done (some .ret))) /\ A.heap[w.heap.size]? = some (.deferred (some [])))
      W1 (fun k A h => hc1 k A h.1) (fun k A h => hc2 k A h.1) (fun k A h => hD k A h.1) (fun i hi => by have := hO i hi; omega)
      (fun k A A' h hg => by
        rw [sz1] at hg
        have l1 := S.lt_of h.2.1
        exact ⟨hI k A A' h.1 (GN.gw hg), (hg.block _ l1 (by omega)).trans h.2.1, (hg.block _ (by omega) (by omega)).trans h.2.2⟩)
      ?_ ⟨hI1, hL1, hK1⟩).mono ?_
    · rintro k d bv A hd hn ⟨hi, hl, hk⟩ hB
      rw [sz1] at hB ⊢
      have hlt := S.lt_of hB
      refine ⟨fn, _, assign, body, (by have := run_yield (P := Tryz.prog) (args := #[.agg (dfc d bv).toArray, .agg (rmc (rms ds (k + 1))).toArray]) hl (by rw [hrec]; exact hpr.symm); rw [hrec] at this; exact this), roundIn_of_wpIn trivial (hassign (w.heap.size + 1) k d bv A _ hd hn hi hlt ?_)⟩
      intro a' A1 hkb hi1 hax
      have hl1 := (hkb.block _ (S.lt_of hl)).trans hl
      have hk1 := (hkb.block _ (S.lt_of hk)).trans hk
      have hb1' := hkb.block _ hlt
      have hs1 := hkb.size
      refine ⟨_, run_beginRound hl1 (by rw [hrec]), ?_⟩
      have hlt1 := S.lt_of hl1
      have gn : GN w.heap.size A1 (A1.putObj (w.heap.size + 1) (.loop { rec .ready none with state := .busy })) := GN.put _ _ _ _ (by omega)
      have hl2 : (A1.putObj (w.heap.size + 1) (.loop { rec .ready none with state := .busy })).heap[w.heap.size + 1]? = some (.loop { rec .ready none with state := .busy }) := World.putObj_heap_same hlt1
      have hk2 : (A1.putObj (w.heap.size + 1) (.loop { rec .ready none with state := .busy })).heap[w.heap.size]? = some (.deferred (some [])) := (World.putObj_heap_other (by omega)).trans hk1
      have hB2 : (A1.putObj (w.heap.size + 1) (.loop { rec .ready none with state := .busy })).heap[w.heap.size + 2]? = A.heap[w.heap.size + 2]? := (World.putObj_heap_other (by omega)).trans hb1'
      have hsz2 : (A1.putObj (w.heap.size + 1) (.loop { rec .ready none with state := .busy })).heap.size = A1.heap.size := by simp
      have hn2 : NV (A1.putObj (w.heap.size + 1) (.loop { rec .ready none with state := .busy })) O bv d.body := hn.kept (fun i hi => by have := hO i hi; exact (World.putObj_heap_other (by omega)).trans (hkb.block i (by omega))) fun _ h => h
      refine wpIn_mono (hbody (w.heap.size + 1) k d bv a' _ hd hn2 (hI k _ _ hi1 gn) (by rw [hsz2]; omega) (hAx k d bv a' _ _ hax gn)) ?_
      generalize hA2 : A1.putObj (w.heap.size + 1) (.loop { rec .ready none with state := .busy }) = A2 at *
      rintro e a3 A3 hp
      cases e with
      | normal =>
        obtain ⟨hk3, hi3⟩ := hp
        have hl3 := (hk3 (w.heap.size + 1) (by omega) (by omega)).trans hl2
        have hd3 := (hk3 w.heap.size (by omega) (by omega)).trans hk2
        have hb3 := (hk3 (w.heap.size + 2) (by omega) (by omega)).trans hB2
        refine ⟨_, _, run_endRound none hl3, .inl ⟨rfl, ⟨hI _ _ _ hi3 (GN.put _ _ _ _ (by omega)), ?_, (World.putObj_heap_other (by omega)).trans hd3⟩, (World.putObj_heap_other (by omega)).trans hb3⟩⟩
        rw [World.putObj_heap_same (S.lt_of hl3), hrec]
        rfl
      | ret =>
        obtain ⟨hk3, hi3⟩ := hp
        have hl3 := (hk3 (w.heap.size + 1) (by omega) (by omega)).trans hl2
        have hd3 := (hk3 w.heap.size (by omega) (by omega)).trans hk2
        refine ⟨_, _, run_endRound (some .ret) hl3, .inr ⟨rfl, hIx _ _ _ hi3 (GN.put _ _ _ _ (by omega)), ?_, (World.putObj_heap_other (by omega)).trans hd3⟩⟩
        rw [World.putObj_heap_same (S.lt_of hl3), hrec]
        rfl
      | exit id => exact hp.elim
      | goto t => exact hp.elim
      | panic ch => exact hp.elim
      | outgrown => exact hp.elim
    · rintro e W2 ⟨⟨v, rfl⟩, (⟨hi, hl, hk⟩ | ⟨k, hk', hi, hl, hk⟩)⟩
      · refine ⟨none, _, (by have := run_endLoop (P := Tryz.prog) hl (by rw [hrec]; simp); rw [hrec] at this; exact this), hdone _ (hI _ _ _ hi (GN.put _ _ _ _ (by omega))) ((World.putObj_heap_other (by omega)).trans hk)⟩
      · refine ⟨some .ret, _, (by have := run_endLoop (P := Tryz.prog) hl (by rw [hrec]; simp); rw [hrec] at this; exact this), hstop k _ hk' (hIx _ _ _ hi (GN.put _ _ _ _ (by omega))) ((World.putObj_heap_other (by omega)).trans hk)⟩
theorem oper_in {P : Program} {l n : Nat} {o : Oper} {a : Act} {w : World} {K : Act -> World -> Prop} {Q : Exit -> Act -> World -> Prop} (hd : ∀ c, o.op ≠ Op.defer c) (h : o.wp P a w K Q) : o.wpIn (Fence.wide.inRound l) n P a w K Q := by
  refine ⟨fun _ _ => trivial, ?_⟩
  rw [Oper.semAt_plain _ _ _ hd]
  unfold Oper.wp at h
  generalize (execOp a.eval o).run P w = r at h ⊢
  cases r with
  | ok x w' =>
    cases x with
    | value v => exact h
    | skip => exact h
    | defer d => exact h
    | enter f args => exact ⟨fun e => (by cases e), CallsIn.inRound l (callsIn_wide.2 h)⟩
    | row r args => exact ⟨fun e => (by cases e), fun c cs _ => let ⟨v, w2, r, s⟩ := h c cs; ⟨v, w2, r, stepsIn_wide.2 s⟩⟩
    | _ => exact h.elim
  | halt x w' => cases x <;> first | exact h | exact h.elim
theorem wpAny_in {P : Program} {md : Region.Mode} {ops : Array Oper} {Q : Exit -> Act -> World -> Prop} {l n : Nat} (hd : ∀ (i : Nat) (o : Oper) c, ops[i]? = some o -> o.op ≠ Op.defer c) (hQ : ¬ LetsOut Q) : ∀ (fuel : Nat) (listed : Array Bool) (a : Act) (w : World), wpAny P md ops Q fuel listed a w -> wpAnyIn (Fence.wide.inRound l) n P md ops Q fuel listed a w
  | 0, _, _, _, h => h
  | fuel + 1, listed, a, w, h => by
    refine ⟨h.1, fun i hi => ?_⟩
    have h2 := h.2 i hi
    unfold wpOp at h2
    unfold wpOpIn
    cases ho : ops[i]? with
    | none =>
      rw [ho] at h2
      exact wpAny_in hd hQ fuel _ _ _ h2
    | some o =>
      rw [ho] at h2
      simp only at h2 ⊢
      split
      · rename_i hw
        rw [if_pos hw] at h2
        rcases h2 with h2 | ⟨_, h2⟩
        · exact Oper.wpIn_mono (fun a w h => wpAny_in hd hQ fuel _ a w h) (oper_in (fun c => hd i o c ho) h2)
        · exact absurd h2 hQ
      · rename_i hw
        rw [if_neg hw] at h2
        exact ⟨fun _ _ => trivial, wpAny_in hd hQ fuel _ _ _ h2⟩
theorem region_in {P : Program} {ops : Array Oper} {Q : Exit -> Act -> World -> Prop} {S : World -> Prop} {l n id : Nat} {a : Act} {w : World} (hm : P.follows .mixedOrders = true) (hd : ∀ (i : Nat) (o : Oper) c, ops[i]? = some o -> o.op ≠ Op.defer c) (hQ : ¬ LetsOut Q)
    (hS : S w.drew) (h : S w.drew -> wpAnyH P .any ops Q S ops.size (Array.replicate ops.size false) a w.drew) : (Code.region id ops true).wpIn (Fence.wide.inRound l) n P Q a w :=
  wpIn_region_any hm (wpAny_in hd hQ _ _ _ _ (wpAny_of_held _ _ _ _ (h hS)))
def noDefer (o : Oper) : Bool := match o.op with | .defer _ => false | _ => true
theorem region_in2 {P : Program} {ops : Array Oper} {Q : Exit -> Act -> World -> Prop} {S : World -> Prop} {l n id : Nat} {a : Act} {w : World} (hm : P.follows .mixedOrders = true) (hd : ops.toList.all noDefer = true) (hQ : ¬ LetsOut Q)
    (hS : S w.drew) (h : S w.drew -> wpAnyH P .any ops Q S ops.size (Array.replicate ops.size false) a w.drew) : (Code.region id ops true).wpIn (Fence.wide.inRound l) n P Q a w :=
  region_in hm (fun i o c ho e => by
    have hmem : o ∈ ops.toList := by
      rw [Array.mem_toList_iff]
      exact Array.mem_of_getElem? ho
    have := List.all_eq_true.1 hd o hmem
    unfold noDefer at this
    rw [e] at this
    cases this) hQ hS h
end Go.Proofs.YtoemoiehjdmheaaGreat.Y
