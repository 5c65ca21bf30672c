import Derived.Test.YteldjmecomngeaaGreatVKit
import Derived.Test.YteldjmecomngeaaGreatVLook
import Derived.Test.YteldjmecomngeaaGreatMFull
import Derived.Test.YteldjmecomngeaaGreatSKit
namespace Go.Proofs.YteldjmecomngeaaGreat.V
open Go.RowKit
open Go.Proofs
set_option linter.unusedVariables false
set_option linter.unusedSimpArgs false
set_option maxHeartbeats 1000000
set_option maxRecDepth 100000
def rcl (v : VS) (kv dv rv : Value) (b : Nat) : List Value := [kv, .int .u16 v.pc, .int .i64 v.st, .int .i64 v.fa, dv, rv, .pointer (some ⟨b, 0, none⟩)]
structure RX (W : World) (g b : Nat) (kv dv rv : Value) (F : Nat -> Prop) (v : VS) : Prop where
 blk : W.heap[g]? = some (.cells (rcl v kv dv rv b).toArray 93 (0, 0))
 mem : M.IsR W F b v.m
 code : M.Sl W kv v.code
 clen : v.code.length <= 16384
 d : S.Ls S.eU 1 W dv v.D
 r : S.Ls S.eK 2 W rv v.R
 ck : ∀ k, (kv.ownBlock = some k \/ dv.ownBlock = some k \/ rv.ownBlock = some k) -> k < W.heap.size /\ k ≠ g /\ ¬ F k
 fb : ∀ k, F k -> k < W.heap.size
 fv : ¬ F g
 dl : v.D.length <= 256
 rl : v.R.length <= 128
 wf : Vf v
def TX8 (g : Nat) (F : Nat -> Prop) (k : Nat) : Prop := k = g \/ F k
structure RY (W W' : World) (g b : Nat) (kv : Value) (F : Nat -> Prop) (v : VS) : Prop where
 s : ∃ dv rv F', (∀ k, F' k -> F k \/ W.heap.size <= k) /\ (∀ k, (dv.ownBlock = some k \/ rv.ownBlock = some k) -> W.heap.size <= k \/ ∃ u, (W.cell? ⟨g, 4, none⟩ = some u \/ W.cell? ⟨g, 5, none⟩ = some u) /\ u.ownBlock = some k) /\ RX W' g b kv dv rv F' v
 t : S.Tc (TX8 g F) W W'
section
variable {W W1 W' : World} {g b : Nat} {kv dv rv : Value} {F : Nat -> Prop} {v v' : VS}
theorem RX.c0 (h : RX W g b kv dv rv F v) : W.cell? ⟨g, 0, none⟩ = some kv := S.cell_of W g 0 _ _ _ h.blk rfl
theorem RX.c1 (h : RX W g b kv dv rv F v) : W.cell? ⟨g, 1, none⟩ = some (.int .u16 v.pc) := S.cell_of W g 1 _ _ _ h.blk rfl
theorem RX.c2 (h : RX W g b kv dv rv F v) : W.cell? ⟨g, 2, none⟩ = some (.int .i64 v.st) := S.cell_of W g 2 _ _ _ h.blk rfl
theorem RX.c3 (h : RX W g b kv dv rv F v) : W.cell? ⟨g, 3, none⟩ = some (.int .i64 v.fa) := S.cell_of W g 3 _ _ _ h.blk rfl
theorem RX.c4 (h : RX W g b kv dv rv F v) : W.cell? ⟨g, 4, none⟩ = some dv := S.cell_of W g 4 _ _ _ h.blk rfl
theorem RX.c5 (h : RX W g b kv dv rv F v) : W.cell? ⟨g, 5, none⟩ = some rv := S.cell_of W g 5 _ _ _ h.blk rfl
theorem RX.c6 (h : RX W g b kv dv rv F v) : W.cell? ⟨g, 6, none⟩ = some (.pointer (some ⟨b, 0, none⟩)) := S.cell_of W g 6 _ _ _ h.blk rfl
theorem RX.lt (h : RX W g b kv dv rv F v) : g < W.heap.size := S.lt_of h.blk
theorem ls_tc {α : Type} {e : α -> List Value} {s : Nat} {u : Value} {l : List α} {G : Nat -> Prop} (h : S.Ls e s W u l) (k : S.Tc G W W') (hn : ∀ i, u.ownBlock = some i -> ¬ G i) : S.Ls e s W' u l := by
 rcases h with h | ⟨x, c, rfl, h1, h2⟩
 ·exact .inl h
 ·exact .inr ⟨x, c, rfl, h1, h2.tc k fun i o e2 => hn i (by cases e2; rfl)⟩
theorem msl_tc {u : Value} {l : List UInt8} {G : Nat -> Prop} (h : M.Sl W u l) (k : S.Tc G W W') (hn : ∀ i, u.ownBlock = some i -> ¬ G i) : M.Sl W' u l :=
 h.kept fun a x e o => by
  rw [World.cell?_of_block (w := W) (w' := W') (a := a) (k.block a.block (World.block_lt_of_cell? W a e) (hn _ o.symm))]; exact e
theorem RX.below (h : RX W g b kv dv rv F v) (k : Below W.heap.size W W') : RX W' g b kv dv rv F v :=
 { h with blk := (k.block _ h.lt).trans h.blk, mem := h.mem.below k, code := h.code.below k, d := h.d.below k, r := h.r.below k, ck := fun i e => ⟨Nat.lt_of_lt_of_le (h.ck i e).1 k.size, (h.ck i e).2⟩, fb := fun i e => Nat.lt_of_lt_of_le (h.fb i e) k.size }
theorem RX.goes (h : RX W g b kv dv rv F v) {m : M.MS} (k : M.RD W W' F b m) : RX W' g b kv dv rv (M.gr F W W') { v with m := m } := by
 have kt : S.Tc F W W' := ⟨k.2.os, k.2.tape, k.2.output, k.2.size, k.2.block⟩
 have hn : ∀ i, (kv.ownBlock = some i \/ dv.ownBlock = some i \/ rv.ownBlock = some i) -> ¬ F i := fun i e => (h.ck i e).2.2
 refine ⟨(k.2.block _ h.lt h.fv).trans h.blk, k.1, msl_tc h.code kt fun i e => hn i (.inl e), h.clen, ls_tc h.d kt fun i e => hn i (.inr (.inl e)), ls_tc h.r kt fun i e => hn i (.inr (.inr e)), fun i e => ?_, ?_, ?_, h.dl, h.rl, ⟨h.wf.pc0, h.wf.pc1, h.wf.d, h.wf.r⟩⟩
 ·obtain ⟨a, c, d⟩ := h.ck i e
  refine ⟨Nat.lt_of_lt_of_le a k.2.size, c, ?_⟩; rintro (f | ⟨f, _⟩)
  ·exact d f
  ·omega
 ·rintro i (f | ⟨_, f⟩)
  ·exact Nat.lt_of_lt_of_le (h.fb i f) k.2.size
  ·exact f
 ·rintro (f | ⟨f, _⟩)
  ·exact h.fv f
  ·have := h.lt; omega
theorem RX.set (h : RX W g b kv dv rv F v) (i : Nat) (u : Value) (v' : VS) (dv' rv' : Value) (e : (rcl v kv dv rv b).set i u = rcl v' kv dv' rv' b) (e1 : v'.m = v.m) (e2 : v'.code = v.code) (hd : S.Ls S.eU 1 (W.setCell ⟨g, i, none⟩ u) dv' v'.D) (hr : S.Ls S.eK 2 (W.setCell ⟨g, i, none⟩ u) rv' v'.R) (hk : ∀ k, (dv'.ownBlock = some k \/ rv'.ownBlock = some k) -> k < W.heap.size /\ k ≠ g /\ ¬ F k) (dl : v'.D.length <= 256) (rl : v'.R.length <= 128) (wf : Vf v') :
  RX (W.setCell ⟨g, i, none⟩ u) g b kv dv' rv' F v' := by
 have hg := S.setCell_heap W g i _ _ u h.blk
 rw [e] at hg
 have kt : S.Tc (fun k => k = g) W (W.setCell ⟨g, i, none⟩ u) := (S.Tc.refl (fun k => k = g) W).setCell g i rfl u
 refine ⟨hg, ?_, ?_, by rw [e2]; exact h.clen, hd, hr, fun k e => ?_, fun k f => by rw [S.setCell_size]; exact h.fb k f, h.fv, dl, rl, wf⟩
 ·rw [e1]
  exact h.mem.kept fun k _ f => S.setCell_other _ _ _ _ _ (by rintro rfl; exact h.fv f)
 ·rw [e2]
  exact msl_tc h.code kt fun k e c => (h.ck k (.inl e)).2.1 c
 ·rw [S.setCell_size]
  rcases e with e | e
  ·exact h.ck k (.inl e)
  ·exact hk k e
theorem RX.num (h : RX W g b kv dv rv F v) (i : Nat) (u : Value) (v' : VS) (e : (rcl v kv dv rv b).set i u = rcl v' kv dv rv b) (e1 : v'.m = v.m) (e2 : v'.code = v.code) (e3 : v'.D = v.D) (e4 : v'.R = v.R) (wf : Vf v') : RX (W.setCell ⟨g, i, none⟩ u) g b kv dv rv F v' := by
 have kt : S.Tc (fun k => k = g) W (W.setCell ⟨g, i, none⟩ u) := (S.Tc.refl (fun k => k = g) W).setCell g i rfl u
 exact h.set i u v' dv rv e e1 e2 (by rw [e3]; exact ls_tc h.d kt fun k e c => (h.ck k (.inr (.inl e))).2.1 c) (by rw [e4]; exact ls_tc h.r kt fun k e c => (h.ck k (.inr (.inr e))).2.1 c) (fun k e => h.ck k (.inr e)) (by rw [e3]; exact h.dl) (by rw [e4]; exact h.rl) wf
theorem RX.fin (h : RX W g b kv dv rv F v) (d r : Value) (D : List Int) (R : List (Int × Int)) (pc : Int) (hd : S.Ls S.eU 1 W d D) (hr : S.Ls S.eK 2 W r R) (hk : ∀ k, (d.ownBlock = some k \/ r.ownBlock = some k) -> k < W.heap.size /\ k ≠ g /\ ¬ F k) (dl : D.length <= 256) (rl : R.length <= 128) (hpc : C.C pc) (hD : ∀ x ∈ D, C.C x) (hR : ∀ q ∈ R, C.C q.2) :
  RX (W.setCell ⟨g, 4, none⟩ d) g b kv d rv F { v with D := D } /\ RX ((W.setCell ⟨g, 4, none⟩ d).setCell ⟨g, 5, none⟩ r) g b kv d r F { v with D := D, R := R } /\ RX (((W.setCell ⟨g, 4, none⟩ d).setCell ⟨g, 5, none⟩ r).setCell ⟨g, 1, none⟩ (.int .u16 pc)) g b kv d r F { v with D := D, R := R, pc := pc } := by
 have k1 : S.Tc (fun k => k = g) W (W.setCell ⟨g, 4, none⟩ d) := (S.Tc.refl (fun k => k = g) W).setCell g 4 rfl d
 have a1 : RX (W.setCell ⟨g, 4, none⟩ d) g b kv d rv F { v with D := D } :=
  h.set 4 d { v with D := D } d rv rfl rfl rfl (ls_tc hd k1 fun k e c => (hk k (.inl e)).2.1 c) (ls_tc h.r k1 fun k e c => (h.ck k (.inr (.inr e))).2.1 c) (fun k e => e.elim (fun e => hk k (.inl e)) (fun e => h.ck k (.inr (.inr e)))) dl h.rl ⟨h.wf.pc0, h.wf.pc1, hD, h.wf.r⟩
 have k2 : S.Tc (fun k => k = g) W ((W.setCell ⟨g, 4, none⟩ d).setCell ⟨g, 5, none⟩ r) := k1.setCell g 5 rfl r
 have z1 : (W.setCell ⟨g, 4, none⟩ d).heap.size = W.heap.size := S.setCell_size _ _ _
 have a2 : RX ((W.setCell ⟨g, 4, none⟩ d).setCell ⟨g, 5, none⟩ r) g b kv d r F { v with D := D, R := R } :=
  a1.set 5 r { v with D := D, R := R } d r rfl rfl rfl (ls_tc hd k2 fun k e c => (hk k (.inl e)).2.1 c) (ls_tc hr k2 fun k e c => (hk k (.inr e)).2.1 c) (fun k e => by rw [z1]; exact hk k e) dl rl ⟨h.wf.pc0, h.wf.pc1, hD, hR⟩
 refine ⟨a1, a2, a2.num 1 (.int .u16 pc) { v with D := D, R := R, pc := pc } rfl rfl rfl rfl rfl ⟨hpc.1, hpc.2, hD, hR⟩⟩
end
end Go.Proofs.YteldjmecomngeaaGreat.V
