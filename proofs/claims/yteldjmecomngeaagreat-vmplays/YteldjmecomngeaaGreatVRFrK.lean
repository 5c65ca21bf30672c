import Derived.Test.YteldjmecomngeaaGreatVRStK
import Derived.Test.YteldjmecomngeaaGreatVCopy
import Derived.Test.YteldjmecomngeaaGreatVRFa
import Derived.Deep.DeepCutAuto
import Derived.Deep.RegionHeldLaw
import Derived.Deep.RegionHeld3
namespace Go.Proofs.YteldjmecomngeaaGreat.V
open Go.RowKit
open Go.Proofs
set_option linter.unusedVariables false
set_option linter.unusedSimpArgs false
set_option maxHeartbeats 8000000
set_option maxRecDepth 100000
structure FI (W wr : World) (g b no : Nat) (kv : Value) (F : Nat -> Prop) (u : VS) (oc : List Value) : Prop where
 x : ∃ dv rv F', (∀ k, F' k -> (F k \/ W.heap.size < k) /\ k ≠ no) /\ (∀ k, (dv.ownBlock = some k \/ rv.ownBlock = some k) -> (W.heap.size < k \/ ∃ u, (W.cell? ⟨g, 4, none⟩ = some u \/ W.cell? ⟨g, 5, none⟩ = some u) /\ u.ownBlock = some k) /\ k ≠ no) /\ (∀ k, kv.ownBlock = some k -> k ≠ no) /\ RX wr g b kv dv rv F' u
 o : wr.heap[no]? = some (.cells oc.toArray 160 (0, 0))
 t : S.Tc (TX8 g F) W wr
 n : W.heap.size < no
 r : wr.heap[W.heap.size]? = some (.cells #[.int .i64 0, .int .i64 0, .int .i64 0, .int .i64 0, .int .i64 0, .slice none 0 0, .slice none 0 0] 160 (0, 0))
 fw : ∀ k, F k -> k < W.heap.size
 gl : g < W.heap.size
section
variable {W wr w2 : World} {g b no : Nat} {kv : Value} {F : Nat -> Prop} {u u' : VS} {oc : List Value}
theorem FI.next (h : FI W wr g b no kv F u oc) (k : Below wr.heap.size wr w2) : FI W w2 g b no kv F u oc := by
 obtain ⟨dv, rv, F', h1, h2, h3, hx⟩ := h.x
 refine ⟨⟨dv, rv, F', h1, h2, h3, hx.below k⟩, (k.block _ (S.lt_of h.o)).trans h.o, h.t.trans (S.Tc.of_below (F := TX8 g F) k fun i a c => by omega) (fun _ f => f) (fun _ _ f => f), h.n, (k.block _ (S.lt_of h.r)).trans h.r, h.fw, h.gl⟩
theorem FI.gne (h : FI W wr g b no kv F u oc) : g ≠ no := by have := h.n; have := h.gl; omega
theorem FI.goes (h : FI W wr g b no kv F u oc) {m : M.MS} (k : ∀ F', M.IsR wr F' b u.m -> M.RD wr w2 F' b m) : FI W w2 g b no kv F { u with m := m } oc := by
 obtain ⟨dv, rv, F', h1, h2, h3, hx⟩ := h.x
 have kk := k F' hx.mem
 have kt : S.Tc F' wr w2 := ⟨kk.2.os, kk.2.tape, kk.2.output, kk.2.size, kk.2.block⟩
 have hno := S.lt_of h.o
 have hnr := S.lt_of h.r
 refine ⟨⟨dv, rv, M.gr F' wr w2, ?_, h2, h3, hx.goes kk⟩, (kt.block no hno (fun f => (h1 no f).2 rfl)).trans h.o, h.t.trans kt (fun _ f => f) (fun i hi f => ?_), h.n, (kt.block _ hnr (fun f => ?_)).trans h.r, h.fw, h.gl⟩
 ·rintro i (f | ⟨f, _⟩)
  ·exact h1 i f
  ·exact ⟨.inr (by omega), by omega⟩
 ·rcases (h1 i f).1 with f | f
  ·exact .inr f
  ·omega
 ·rcases (h1 _ f).1 with f | f
  ·have := h.fw _ f; omega
  ·omega
theorem FI.step (h : FI W wr g b no kv F u oc) (dv rv : Value) (F' : Nat -> Prop) (h1 : ∀ k, F' k -> (F k \/ W.heap.size < k) /\ k ≠ no) (h2 : ∀ k, (dv.ownBlock = some k \/ rv.ownBlock = some k) -> (W.heap.size < k \/ ∃ u, (W.cell? ⟨g, 4, none⟩ = some u \/ W.cell? ⟨g, 5, none⟩ = some u) /\ u.ownBlock = some k) /\ k ≠ no) (h3 : ∀ k, kv.ownBlock = some k -> k ≠ no) (hx : RX wr g b kv dv rv F' u) (hk : RY wr w2 g b kv F' u') : FI W w2 g b no kv F u' oc := by
 obtain ⟨dv2, rv2, F2, k1, k2, hx2⟩ := hk.s
 have hno := S.lt_of h.o
 have hnr := S.lt_of h.r
 refine ⟨⟨dv2, rv2, F2, fun i f => ?_, fun i e => ?_, h3, hx2⟩, (hk.t.block no hno ?_).trans h.o, h.t.trans hk.t (fun _ f => f) (fun i hi f => ?_), h.n, (hk.t.block _ hnr ?_).trans h.r, h.fw, h.gl⟩
 ·rcases k1 i f with f | f
  ·exact h1 i f
  ·exact ⟨.inr (by omega), by omega⟩
 ·rcases k2 i e with f | ⟨c, hc, hu⟩
  ·exact ⟨.inl (by omega), by omega⟩
  ·rcases hc with hc | hc
   ·rw [hx.c4] at hc
    cases hc
    exact h2 i (.inl hu)
   ·rw [hx.c5] at hc
    cases hc
    exact h2 i (.inr hu)
 ·rintro (f | f)
  ·exact h.gne f.symm
  ·exact (h1 no f).2 rfl
 ·rcases f with f | f
  ·exact .inl f
  ·rcases (h1 i f).1 with f | f
   ·exact .inr f
   ·omega
 ·rintro (f | f)
  ·have := h.gl; omega
  ·rcases (h1 _ f).1 with f | f
   ·have := h.fw _ f; omega
   ·omega
theorem FI.set (h : FI W wr g b no kv F u oc) (i : Nat) (c : Value) : FI W (wr.setCell ⟨no, i, none⟩ c) g b no kv F u (oc.set i c) := by
 obtain ⟨dv, rv, F', h1, h2, h3, hx⟩ := h.x
 have kt : S.Tc (fun k => k = no) wr (wr.setCell ⟨no, i, none⟩ c) := (S.Tc.refl (fun k => k = no) wr).setCell no i rfl c
 have hn := h.n
 refine ⟨⟨dv, rv, F', h1, h2, h3, ?_⟩, S.setCell_heap wr no i _ _ c h.o, h.t.trans kt (fun _ f => f) (fun j hj f => by omega), h.n, (kt.block _ (S.lt_of h.r) (by omega)).trans h.r, h.fw, h.gl⟩
 exact { hx with
  blk := (kt.block _ hx.lt h.gne).trans hx.blk
  mem := hx.mem.kept fun j hj f => kt.block j hj (h1 j f).2
  code := msl_tc hx.code kt fun j e => h3 j e
  d := ls_tc hx.d kt fun j e => (h2 j (.inl e)).2
  r := ls_tc hx.r kt fun j e => (h2 j (.inr e)).2
  ck := fun j e => ⟨Nat.lt_of_lt_of_le (hx.ck j e).1 kt.size, (hx.ck j e).2⟩
  fb := fun j e => Nat.lt_of_lt_of_le (hx.fb j e) kt.size }
theorem FI.cell (h : FI W wr g b no kv F u oc) (i : Nat) (c : Value) (e : oc[i]? = some c) : wr.cell? ⟨no, i, none⟩ = some c /\ wr.frozen? ⟨no, i, none⟩ = false := ⟨S.cell_of wr no i _ _ _ h.o e, S.frozen_of wr no i _ _ h.o⟩
end
end Go.Proofs.YteldjmecomngeaaGreat.V
