import Derived.Test.YteldjmecomngeaaGreatPAll
import Derived.Test.YteldjmecomngeaaGreatTKit
import Derived.Test.YteldjmecomngeaaGreatMKit
namespace Go.Proofs.YteldjmecomngeaaGreat.V
open Go.RowKit
open Go.Proofs
set_option linter.unusedVariables false
set_option linter.unusedSimpArgs false
set_option maxHeartbeats 1000000
set_option maxRecDepth 100000
def vcells (v : VS) (bd br bm : Nat) (kv : Value) : List Value := [.int .u16 v.pc, .int .i64 v.st, .int .i64 v.fa, .pointer (some ⟨bd, 0, none⟩), .pointer (some ⟨br, 0, none⟩), kv, .pointer (some ⟨bm, 0, none⟩)]
structure MV (W : World) (g bd br bm : Nat) (kv : Value) (F : Nat -> Prop) (v : VS) : Prop where
 blk : W.heap[g]? = some (.cells (vcells v bd br bm kv).toArray 128 (0, 0))
 ps : P.PS W bd br bm F v.D v.R v.m
 code : M.Sl W kv v.code
 clen : v.code.length <= 16384
 ck : ∀ k, kv.ownBlock = some k -> k < W.heap.size
 cb : ∀ k, kv.ownBlock = some k -> k ≠ g /\ k ≠ bd /\ k ≠ br /\ ¬ F k
 fb : ∀ k, F k -> k < W.heap.size
 vd : g ≠ bd
 vr : g ≠ br
 fv : ¬ F g
 wf : Vf v
def TV (g bd br : Nat) (F : Nat -> Prop) (k : Nat) : Prop := k = g \/ k = bd \/ k = br \/ F k
structure VD (W W' : World) (g bd br bm : Nat) (kv : Value) (F : Nat -> Prop) (v : VS) : Prop where
 s : MV W' g bd br bm kv (M.gr F W W') v
 t : S.Tc (TV g bd br F) W W'
section
variable {W W1 W' : World} {g bd br bm : Nat} {kv : Value} {F : Nat -> Prop} {v v' : VS}
theorem MV.c0 (h : MV W g bd br bm kv F v) : W.cell? ⟨g, 0, none⟩ = some (.int .u16 v.pc) := S.cell_of W g 0 _ _ _ h.blk rfl
theorem MV.c1 (h : MV W g bd br bm kv F v) : W.cell? ⟨g, 1, none⟩ = some (.int .i64 v.st) := S.cell_of W g 1 _ _ _ h.blk rfl
theorem MV.c2 (h : MV W g bd br bm kv F v) : W.cell? ⟨g, 2, none⟩ = some (.int .i64 v.fa) := S.cell_of W g 2 _ _ _ h.blk rfl
theorem MV.c3 (h : MV W g bd br bm kv F v) : W.cell? ⟨g, 3, none⟩ = some (.pointer (some ⟨bd, 0, none⟩)) := S.cell_of W g 3 _ _ _ h.blk rfl
theorem MV.c4 (h : MV W g bd br bm kv F v) : W.cell? ⟨g, 4, none⟩ = some (.pointer (some ⟨br, 0, none⟩)) := S.cell_of W g 4 _ _ _ h.blk rfl
theorem MV.c5 (h : MV W g bd br bm kv F v) : W.cell? ⟨g, 5, none⟩ = some kv := S.cell_of W g 5 _ _ _ h.blk rfl
theorem MV.c6 (h : MV W g bd br bm kv F v) : W.cell? ⟨g, 6, none⟩ = some (.pointer (some ⟨bm, 0, none⟩)) := S.cell_of W g 6 _ _ _ h.blk rfl
theorem MV.lt (h : MV W g bd br bm kv F v) : g < W.heap.size := S.lt_of h.blk
theorem MV.lt_d (h : MV W g bd br bm kv F v) : bd < W.heap.size := S.lt_of h.ps.d.1
theorem MV.lt_r (h : MV W g bd br bm kv F v) : br < W.heap.size := S.lt_of h.ps.r.1
theorem sl_kept {l : List UInt8} (h : M.Sl W kv l) (k : ∀ i, kv.ownBlock = some i -> i < W.heap.size -> W'.heap[i]? = W.heap[i]?) : M.Sl W' kv l :=
 h.kept fun a u e o => by
  rw [World.cell?_of_block (w := W) (w' := W') (a := a) (k a.block o.symm (World.block_lt_of_cell? W a e))]; exact e
theorem MV.below (h : MV W g bd br bm kv F v) (k : Below W.heap.size W W') : MV W' g bd br bm kv F v :=
 { h with blk := (k.block _ h.lt).trans h.blk, ps := h.ps.below k, code := h.code.below k, ck := fun i e => Nat.lt_of_lt_of_le (h.ck i e) k.size, fb := fun i e => Nat.lt_of_lt_of_le (h.fb i e) k.size }
theorem MV.drew (h : MV W g bd br bm kv F v) (q : Nat) : MV (W.drewN q) g bd br bm kv F v :=
 h.below ⟨rfl, rfl, rfl, Nat.le_refl _, fun _ _ => rfl⟩
theorem MV.gr (h : MV W g bd br bm kv F v) (w w' : World) (h0 : w'.heap.size <= W.heap.size) (h1 : g < w.heap.size) (h2 : bd < w.heap.size) (h3 : br < w.heap.size) (h4 : ∀ k, kv.ownBlock = some k -> k < w.heap.size) : MV W g bd br bm kv (M.gr F w w') v :=
 { h with
  ps := h.ps.gr w w' h2 h3
  cb := fun k e => ⟨(h.cb k e).1, (h.cb k e).2.1, (h.cb k e).2.2.1, by rintro (f | ⟨f, _⟩); exact (h.cb k e).2.2.2 f; have := h4 k e; omega⟩
  fb := by rintro k (f | ⟨_, f⟩); exact h.fb k f; omega
  fv := by rintro (f | ⟨f, _⟩); exact h.fv f; omega }
theorem MV.goes (h : MV W g bd br bm kv F v) {D : List Int} {R : List (Int × Int)} {m : M.MS} (k : P.PD W W' bd br bm F D R m) (hd : ∀ x ∈ D, C.C x) (hr : ∀ q ∈ R, C.C q.2) : VD W W' g bd br bm kv F { v with D := D, R := R, m := m } :=
 ⟨⟨(k.t.block _ h.lt (by rintro (e | e | e); exact h.vd e; exact h.vr e; exact h.fv e)).trans h.blk, k.s,
  sl_kept h.code fun i e hi => k.t.block i hi (by rintro (f | f | f); exact (h.cb i e).2.1 f; exact (h.cb i e).2.2.1 f; exact (h.cb i e).2.2.2 f),
  h.clen, fun i e => Nat.lt_of_lt_of_le (h.ck i e) k.t.size, fun i e => ⟨(h.cb i e).1, (h.cb i e).2.1, (h.cb i e).2.2.1, by rintro (f | ⟨f, _⟩); exact (h.cb i e).2.2.2 f; have := h.ck i e; omega⟩,
  (by rintro i (f | ⟨_, f⟩); exact Nat.lt_of_lt_of_le (h.fb i f) k.t.size; exact f), h.vd, h.vr, (by rintro (f | ⟨f, _⟩); exact h.fv f; have := h.lt; omega), ⟨h.wf.pc0, h.wf.pc1, hd, hr⟩⟩,
  ⟨k.t.os, k.t.tape, k.t.output, k.t.size, fun i hi n => k.t.block i hi (by rintro (e | e | e); exact n (.inr (.inl e)); exact n (.inr (.inr (.inl e))); exact n (.inr (.inr (.inr e))))⟩⟩
theorem MV.same (h : MV W g bd br bm kv F v) (k : Below W.heap.size W W') : VD W W' g bd br bm kv F v :=
 ⟨(h.below k).gr W W' (Nat.le_refl _) h.lt h.lt_d h.lt_r h.ck, ⟨k.os, k.tape, k.output, k.size, fun i hi _ => k.block i hi⟩⟩
theorem gr_gr {w w1 w2 : World} (h1 : w.heap.size <= w1.heap.size) (h2 : w1.heap.size <= w2.heap.size) (k : Nat) (h : M.gr (M.gr F w w1) w1 w2 k) : M.gr F w w2 k := by
 rcases h with (h | ⟨h, h'⟩) | ⟨h, h'⟩
 ·exact .inl h
 ·exact .inr ⟨h, by omega⟩
 ·exact .inr ⟨by omega, h'⟩
theorem MV.mono (h : MV W g bd br bm kv F v) {G : Nat -> Prop} (k : ∀ i, F i -> G i) (k0 : ∀ i, G i -> i < W.heap.size) (k1 : ¬ G g) (k2 : ¬ G bd) (k3 : ¬ G br) (k4 : ∀ i, kv.ownBlock = some i -> ¬ G i) : MV W g bd br bm kv G v :=
 { h with
  ps := h.ps.mono fun i _ => ⟨k i, by rintro (rfl | rfl); exact k2; exact k3⟩
  cb := fun i e => ⟨(h.cb i e).1, (h.cb i e).2.1, (h.cb i e).2.2.1, k4 i e⟩
  fb := k0
  fv := k1 }
theorem VD.trans {v1 v2 : VS} (h0 : MV W g bd br bm kv F v) (h : VD W W1 g bd br bm kv F v1) (k : VD W1 W' g bd br bm kv (M.gr F W W1) v2) : VD W W' g bd br bm kv F v2 := by
 have hs := h.t.size
 have ks := k.t.size
 have n1 : ∀ i, i < W.heap.size -> ¬ F i -> ¬ M.gr F W W' i := by rintro i hi hf (e | ⟨e, _⟩); exact hf e; omega
 refine ⟨k.s.mono (gr_gr hs ks) (by rintro i (e | ⟨_, e⟩); exact Nat.lt_of_lt_of_le (h0.fb i e) (Nat.le_trans hs ks); exact e) (n1 _ h0.lt h0.fv) (n1 _ h0.lt_d h0.ps.fd) (n1 _ h0.lt_r h0.ps.fr) (fun i e => n1 i (h0.ck i e) (h0.cb i e).2.2.2), h.t.trans k.t (fun i e => e) ?_⟩
 rintro i hi (e | e | e | e | ⟨e, _⟩)
 ·exact .inl e
 ·exact .inr (.inl e)
 ·exact .inr (.inr (.inl e))
 ·exact .inr (.inr (.inr e))
 ·omega
theorem VD.pre (h : MV W g bd br bm kv F v) (hB : Below W.heap.size W W1) (k : VD W1 W' g bd br bm kv F v') : VD W W' g bd br bm kv F v' := by
 have c := hB.size
 have c' := k.t.size
 have n1 : ∀ i, i < W.heap.size -> ¬ F i -> ¬ M.gr F W W' i := by rintro i hi hf (e | ⟨e, _⟩); exact hf e; omega
 refine ⟨k.s.mono (fun i hi => ?_) ?_ (n1 _ h.lt h.fv) (n1 _ h.lt_d h.ps.fd) (n1 _ h.lt_r h.ps.fr) (fun i e => n1 i (h.ck i e) (h.cb i e).2.2.2), ⟨k.t.os.trans hB.os, k.t.tape.trans hB.tape, k.t.output.trans hB.output, Nat.le_trans c c', fun i hi n => (k.t.block i (Nat.lt_of_lt_of_le hi c) n).trans (hB.block i hi)⟩⟩
 ·rcases hi with hi | ⟨hi, hi'⟩
  ·exact .inl hi
  ·exact .inr ⟨by omega, hi'⟩
 ·rintro i (e | ⟨_, e⟩)
  ·exact Nat.lt_of_lt_of_le (h.fb i e) (Nat.le_trans c c')
  ·exact e
theorem VD.other (h : VD W W' g bd br bm kv F v') (k : MV W1 g bd br bm kv F v) (hs : W1.heap.size <= W.heap.size) (i : Nat) (h1 : W1.heap.size <= i) (h2 : i < W.heap.size) : W'.heap[i]? = W.heap[i]? :=
 h.t.block i h2 (by
  rintro (e | e | e | e)
  ·have := k.lt; omega
  ·have := k.lt_d; omega
  ·have := k.lt_r; omega
  ·have := k.fb i e; omega)
theorem MV.set (h : MV W g bd br bm kv F v) (i : Nat) (x : Value) (hc : (vcells v bd br bm kv).set i x = vcells v' bd br bm kv) (hD : v'.D = v.D) (hR : v'.R = v.R) (hm : v'.m = v.m) (hk : v'.code = v.code) (hw : Vf v') : MV (W.setCell ⟨g, i, none⟩ x) g bd br bm kv F v' := by
 have o : ∀ k, k ≠ g -> (W.setCell ⟨g, i, none⟩ x).heap[k]? = W.heap[k]? := fun k hk => S.setCell_other W g i k x hk
 refine ⟨by rw [S.setCell_heap W g i _ _ x h.blk, hc], ?_, by rw [hk]; exact sl_kept h.code fun k e _ => o k (h.cb k e).1, by rw [hk]; exact h.clen, fun k e => by rw [S.setCell_size]; exact h.ck k e, h.cb, fun k e => by rw [S.setCell_size]; exact h.fb k e, h.vd, h.vr, h.fv, hw⟩
 rw [hD, hR, hm]
 exact ⟨h.ps.d.kept (o _ (Ne.symm h.vd)), h.ps.r.kept (o _ (Ne.symm h.vr)), h.ps.m.kept fun k _ f => o k (by rintro rfl; exact h.fv f), h.ps.dr, h.ps.fd, h.ps.fr⟩
theorem VD.set (h0 : MV W g bd br bm kv F v) (h : VD W W1 g bd br bm kv F v) (i : Nat) (x : Value) (k : MV (W1.setCell ⟨g, i, none⟩ x) g bd br bm kv (M.gr F W W1) v') : VD W (W1.setCell ⟨g, i, none⟩ x) g bd br bm kv F v' := by
 refine ⟨?_, h.t.setCell g i (.inl rfl) x⟩
 have e : M.gr F W (W1.setCell ⟨g, i, none⟩ x) = M.gr F W W1 := by unfold M.gr; rw [S.setCell_size]
 rw [e]; exact k
end
end Go.Proofs.YteldjmecomngeaaGreat.V
