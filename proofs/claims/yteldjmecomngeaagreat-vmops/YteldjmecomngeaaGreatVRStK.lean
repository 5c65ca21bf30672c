import Derived.Test.YteldjmecomngeaaGreatVRFa
import Derived.Test.YteldjmecomngeaaGreatVRTwo
import Derived.Test.YteldjmecomngeaaGreatVLook
import Derived.Deep.SlicePairs
namespace Go.Proofs.YteldjmecomngeaaGreat.V
open Go.RowKit
open Go.Proofs
set_option linter.unusedVariables false
set_option linter.unusedSimpArgs false
set_option maxHeartbeats 40000000
set_option maxRecDepth 100000
theorem elU : Tryz.prog.underlying 43 = some (.slice (Tryz.prog.elem 43)) := by kernel_rfl
theorem szU (W : World) : (sizeOf (Tryz.prog.elem 43)).run Tryz.prog W = .ok 1 W := by
 have e : Tryz.prog.elem 43 = 23 := by kernel_rfl
 rw [e]
 simp [sizeOf]
 rfl
theorem su_from (W : World) (p : Option Addr) (n cap l : Nat) (z : Int) (hz : z = (l : Int)) (hc : l <= n) : (Instr.sliceAt 43 (.slice p n cap) (some (.int .i64 z)) none none).run Tryz.prog W = .ok (.slice (if cap = l then p else p.map (·.add l)) (n - l) (cap - l)) W := by
 subst hz
 rw [run_sliceAt_slice W 43 _ _ _ _ elU, run_slice_l W 43 p n cap elU .i64 (l : Int) (by omega) (by omega), szU]
 simp [Result.andThen, sliced]
theorem su_to (W : World) (p : Option Addr) (n cap h : Nat) (z : Int) (hz : z = (h : Int)) (hc : h <= cap) : (Instr.sliceAt 43 (.slice p n cap) none (some (.int .i64 z)) none).run Tryz.prog W = .ok (.slice p h cap) W := by
 subst hz
 have e0 : Option.map (fun x : Addr => x.add 0) p = p := by cases p <;> simp [Addr.add]
 rw [run_sliceAt_slice W 43 _ _ _ _ elU, run_slice_h W 43 p n cap elU .i64 (h : Int) (by omega) (by omega), szU]
 simp [Result.andThen, sliced, e0]
theorem elC : Tryz.prog.underlying 44 = some (.slice (Tryz.prog.elem 44)) := by kernel_rfl
theorem szC (W : World) : (sizeOf (Tryz.prog.elem 44)).run Tryz.prog W = .ok 2 W := by
 have e : Tryz.prog.elem 44 = 101 := by kernel_rfl
 rw [e]
 simp [sizeOf]
 rfl
theorem sk_to (W : World) (p : Option Addr) (n cap h : Nat) (z : Int) (hz : z = (h : Int)) (hc : h <= cap) : (Instr.sliceAt 44 (.slice p n cap) none (some (.int .i64 z)) none).run Tryz.prog W = .ok (.slice p h cap) W := by
 subst hz
 have e0 : Option.map (fun x : Addr => x.add 0) p = p := by cases p <;> simp [Addr.add]
 rw [run_sliceAt_slice W 44 _ _ _ _ elC, run_slice_h W 44 p n cap elC .i64 (h : Int) (by omega) (by omega), szC]
 simp [Result.andThen, sliced, e0]
theorem cs_to {W : World} {p : Option Addr} {cap : Nat} {l : List Int} (h : S.Ls S.eU 1 W (.slice p l.length cap) l) (k : Nat) (hk : k <= l.length) : S.Cs W (.slice p k cap) 1 k (S.en S.eU (l.take k)) := by
 rcases h with ⟨e, rfl⟩ | ⟨x, c, e, _, hs⟩
 ·cases e
  obtain rfl : k = 0 := by simpa using hk
  exact .inl ⟨rfl, rfl, rfl⟩
 ·cases e
  exact .inr ⟨x, cap, rfl, by rw [S.en_len S.hU, List.length_take]; congr 1; omega, fun j u hj => (hs.take k).news S.hU (by decide) j u hj, S.oneU _⟩
theorem cs_from {W : World} {p : Option Addr} {cap : Nat} {l : List Int} (h : S.Ls S.eU 1 W (.slice p l.length cap) l) (k : Nat) (hk : k <= l.length) : S.Cs W (.slice (if cap = k then p else p.map (·.add k)) (l.length - k) (cap - k)) 1 (l.length - k) (S.en S.eU (l.drop k)) := by
 rcases h with ⟨e, rfl⟩ | ⟨x, c, e, hc, hs⟩
 ·cases e
  obtain rfl : k = 0 := by simpa using hk
  exact .inl ⟨rfl, rfl, rfl⟩
 ·cases e
  by_cases e : cap = k
  ·rw [if_pos e]
   refine .inr ⟨x, _, rfl, ?_, ?_, S.oneU _⟩
   ·rw [S.en_len S.hU, List.length_drop]
   ·intro j u hj
    rw [List.drop_of_length_le (by omega)] at hj
    simp [S.en] at hj
  ·rw [if_neg e]
   refine .inr ⟨x.add k, _, rfl, ?_, ?_, S.oneU _⟩
   ·rw [S.en_len S.hU, List.length_drop]
   ·intro j u hj
    rw [Deep.add_add]
    refine hs.news S.hU (by decide) (k + j) u ?_
    rw [<- hj]
    have := S.en_drop S.hU l k
    rw [Nat.mul_one] at this
    rw [<- this, List.getElem?_drop]
structure RC (W w : World) (iv dv rv : Value) (inn D : List Int) (R : List (Int × Int)) : Prop where
 bel : Below W.heap.size W w
 i : w.ownsRow W.heap.size 23 1 iv inn.length (S.en S.eU inn)
 d : w.ownsRow W.heap.size 23 1 dv D.length (S.en S.eU D)
 r : w.ownsRow W.heap.size 101 2 rv R.length (S.en S.eK R)
theorem own_nw {w w' : World} {B : Nat} {e : TypeId} {size : Nat} {v : Value} {n : Nat} {xs : List Value} (h : w.ownsRow B e size v n xs) (b : Below w.heap.size w w') : w'.ownsRow B e size v n xs := S.own_kept h fun g _ hg => b.block g hg
theorem own_fm {w : World} {B : Nat} {e : TypeId} {size : Nat} {v : Value} {n : Nat} {xs : List Value} (h : w.ownsRow B e size v n xs) : ∃ p cap, v = .slice p n cap := by
 rcases h.2 with ⟨h, e⟩ | ⟨g, cap, cur, h1, _⟩
 ·exact ⟨none, 0, by rw [h, e]⟩
 ·exact ⟨_, cap, h1⟩
theorem own_ty {w w' : World} {B B' : Nat} {e e' : TypeId} {s s' : Nat} {u x x' : Value} {n n' : Nat} {xs ys : List Value} (h : w.ownsRow B e s u n xs) (k : w.ownsRow B' e' s' x n' ys) (g : S.Grew w w' x x') (hne : e ≠ e') : w'.ownsRow B e s u n xs := by
 refine S.own_kept h fun i hi hl => g.block i hl fun c => ?_
 rcases h.2 with ⟨a, _⟩ | ⟨g1, c1, cu1, a, _, h1, _⟩
 ·rw [a] at hi; simp [Value.ownBlock] at hi
 ·rcases k.2 with ⟨a2, _⟩ | ⟨g2, c2, cu2, a2, _, h2, _⟩
  ·rw [a2] at c; simp [Value.ownBlock] at c
  ·rw [a] at hi; rw [a2] at c
   simp [Value.ownBlock] at hi c
   subst hi
   subst c
   rw [h1] at h2
   simp at h2
   exact hne h2.2
theorem RC.in {W w : World} {iv dv rv : Value} {inn D : List Int} {R : List (Int × Int)} (h : RC W w iv dv rv inn D R) (j : Nat) (x : Int) (hj : inn[j]? = some x) : ∃ gi ci, iv = .slice (some ⟨gi, 0, none⟩) inn.length ci /\ w.cell? ⟨gi, j, none⟩ = some (.int .u16 x) := by
 have hl : j < inn.length := (List.getElem?_eq_some_iff.1 hj).1
 obtain ⟨gi, ci, e⟩ := S.own_pos h.i (by omega)
 refine ⟨gi, ci, e, ?_⟩
 have := World.ownsRow.cells h.i (g := gi) (by rw [e]; rfl) j (.int .u16 x) (by have := S.en_get S.hU inn j 0 x hj (by decide); rw [Nat.mul_one, Nat.add_zero] at this; exact this)
 rw [Addr.add_lit, Nat.zero_add] at this
 exact this
theorem RC.top {W w : World} {iv dv rv : Value} {inn D : List Int} {R : List (Int × Int)} (h : RC W w iv dv rv inn D R) (j : Nat) (x : Int × Int) (hj : R[j]? = some x) : ∃ gr cr, rv = .slice (some ⟨gr, 0, none⟩) R.length cr /\ w.cell? ⟨gr, j * 2, none⟩ = some (.int .i64 x.1) /\ w.cell? ⟨gr, j * 2 + 1, none⟩ = some (.int .u16 x.2) := by
 have hl : j < R.length := (List.getElem?_eq_some_iff.1 hj).1
 obtain ⟨gr, cr, e⟩ := S.own_pos h.r (by omega)
 refine ⟨gr, cr, e, ?_, ?_⟩
 ·have := World.ownsRow.cells h.r (g := gr) (by rw [e]; rfl) (j * 2 + 0) (.int .i64 x.1) (by rw [S.en_get S.hK R j 0 x hj (by decide)]; rfl)
  rw [Addr.add_lit, Nat.zero_add] at this
  exact this
 ·have := World.ownsRow.cells h.r (g := gr) (by rw [e]; rfl) (j * 2 + 1) (.int .u16 x.2) (by rw [S.en_get S.hK R j 1 x hj (by decide)]; rfl)
  rw [Addr.add_lit, Nat.zero_add] at this
  exact this
structure RA (W y : World) (g b : Nat) (kv : Value) (F : Nat -> Prop) (vz : VS) (d r : Value) (D : List Int) (R : List (Int × Int)) : Prop where
 x : ∃ dv rv Fz, (∀ k, Fz k -> F k \/ W.heap.size <= k) /\ RX y g b kv dv rv Fz vz /\ ∀ k, (d.ownBlock = some k \/ r.ownBlock = some k) -> k < y.heap.size /\ k ≠ g /\ ¬ Fz k
 o : ∀ k, (d.ownBlock = some k \/ r.ownBlock = some k) -> W.heap.size <= k
 d : S.Ls S.eU 1 y d D
 r : S.Ls S.eK 2 y r R
 t : S.Tc (TX8 g F) W y
theorem RA.of {W y : World} {g b : Nat} {kv dv rv : Value} {F : Nat -> Prop} {v : VS} {d r : Value} {D : List Int} {R : List (Int × Int)} (h : RX W g b kv dv rv F v) (bel : Below W.heap.size W y) (hd : S.Ls S.eU 1 y d D) (hr : S.Ls S.eK 2 y r R) (hb : ∀ k, (d.ownBlock = some k \/ r.ownBlock = some k) -> W.heap.size <= k /\ k < y.heap.size) : RA W y g b kv F v d r D R := by
 have hl := h.lt
 refine ⟨⟨dv, rv, F, fun k f => .inl f, h.below bel, fun k e => ?_⟩, fun k e => (hb k e).1, hd, hr, S.Tc.of_below bel fun i h1 h2 => by omega⟩
 obtain ⟨a, c⟩ := hb k e
 exact ⟨c, by omega, fun f => by have := h.fb k f; omega⟩
theorem RA.mem {W y y' : World} {g b : Nat} {kv dv rv : Value} {F : Nat -> Prop} {v : VS} {d r : Value} {D : List Int} {R : List (Int × Int)} {m : M.MS} (h : RX W g b kv dv rv F v) (bel : Below W.heap.size W y) (hd : S.Ls S.eU 1 y d D) (hr : S.Ls S.eK 2 y r R) (hb : ∀ k, (d.ownBlock = some k \/ r.ownBlock = some k) -> W.heap.size <= k /\ k < y.heap.size) (k : M.RD y y' F b m) : RA W y' g b kv F { v with m := m } d r D R := by
 have hl := h.lt
 have kt : S.Tc F y y' := ⟨k.2.os, k.2.tape, k.2.output, k.2.size, k.2.block⟩
 have hz := bel.size
 have nF : ∀ i, (d.ownBlock = some i \/ r.ownBlock = some i) -> ¬ F i := fun i e f => by have := h.fb i f; have := (hb i e).1; omega
 refine ⟨⟨dv, rv, M.gr F y y', ?_, (h.below bel).goes k, fun i e => ?_⟩, fun k e => (hb k e).1, ls_tc hd kt fun i e => nF i (.inl e), ls_tc hr kt fun i e => nF i (.inr e), (S.Tc.of_below (F := TX8 g F) bel fun i h1 h2 => by omega).trans kt (fun _ f => f) fun i _ f => .inr f⟩
 ·rintro i (f | ⟨f, _⟩)
  ·exact .inl f
  ·exact .inr (by omega)
 ·obtain ⟨a, c⟩ := hb i e
  refine ⟨Nat.lt_of_lt_of_le c k.2.size, by omega, ?_⟩
  rintro (f | ⟨f, _⟩)
  ·exact nF i e f
  ·omega
theorem RA.st2 {W y : World} {g b : Nat} {kv : Value} {F : Nat -> Prop} {v : VS} {d r : Value} {D : List Int} {R : List (Int × Int)} (h : RA W y g b kv F v d r D R) : RA W (y.setCell ⟨g, 2, none⟩ (.int .i64 2)) g b kv F { v with st := 2 } d r D R := by
 obtain ⟨dv, rv, Fz, h1, h2, h3⟩ := h.x
 have kt : S.Tc (fun k => k = g) y (y.setCell ⟨g, 2, none⟩ (.int .i64 2)) := (S.Tc.refl (fun k => k = g) y).setCell g 2 rfl _
 refine ⟨⟨dv, rv, Fz, h1, h2.num 2 _ { v with st := 2 } rfl rfl rfl rfl rfl ⟨h2.wf.pc0, h2.wf.pc1, h2.wf.d, h2.wf.r⟩, fun k e => by rw [S.setCell_size]; exact h3 k e⟩, h.o, ls_tc h.d kt fun k e c => (h3 k (.inl e)).2.1 c, ls_tc h.r kt fun k e c => (h3 k (.inr e)).2.1 c, h.t.setCell g 2 (.inl rfl) _⟩
theorem RA.c2 {W y : World} {g b : Nat} {kv : Value} {F : Nat -> Prop} {v : VS} {d r : Value} {D : List Int} {R : List (Int × Int)} (h : RA W y g b kv F v d r D R) : ∃ u, y.cell? ⟨g, 2, none⟩ = some u /\ y.frozen? ⟨g, 2, none⟩ = false := by
 obtain ⟨dv, rv, Fz, h1, h2, h3⟩ := h.x
 exact ⟨_, h2.c2, S.frozen_of y g 2 _ _ h2.blk⟩
theorem RA.fin {W y : World} {g b : Nat} {kv : Value} {F : Nat -> Prop} {v : VS} {d r : Value} {D : List Int} {R : List (Int × Int)} (h : RA W y g b kv F v d r D R) (pc : Int) (dl : D.length <= 256) (rl : R.length <= 128) (hpc : C.C pc) (hD : ∀ x ∈ D, C.C x) (hR : ∀ q ∈ R, C.C q.2) :
  ∃ u4 u5 u1, y.cell? ⟨g, 4, none⟩ = some u4 /\ y.frozen? ⟨g, 4, none⟩ = false /\ (y.setCell ⟨g, 4, none⟩ d).cell? ⟨g, 5, none⟩ = some u5 /\ (y.setCell ⟨g, 4, none⟩ d).frozen? ⟨g, 5, none⟩ = false /\ ((y.setCell ⟨g, 4, none⟩ d).setCell ⟨g, 5, none⟩ r).cell? ⟨g, 1, none⟩ = some u1 /\ ((y.setCell ⟨g, 4, none⟩ d).setCell ⟨g, 5, none⟩ r).frozen? ⟨g, 1, none⟩ = false /\
   RY W (((y.setCell ⟨g, 4, none⟩ d).setCell ⟨g, 5, none⟩ r).setCell ⟨g, 1, none⟩ (.int .u16 pc)) g b kv F { v with D := D, R := R, pc := pc } := by
 obtain ⟨dv, rv, Fz, h1, h2, h3⟩ := h.x
 obtain ⟨a1, a2, a3⟩ := h2.fin d r D R pc h.d h.r h3 dl rl hpc hD hR
 exact ⟨_, _, _, h2.c4, S.frozen_of y g 4 _ _ h2.blk, a1.c5, S.frozen_of _ g 5 _ _ a1.blk, a2.c1, S.frozen_of _ g 1 _ _ a2.blk, ⟨⟨_, _, _, h1, fun k e => .inl (h.o k e), a3⟩, ((h.t.setCell g 4 (.inl rfl) _).setCell g 5 (.inl rfl) _).setCell g 1 (.inl rfl) _⟩⟩
set_option maxRecDepth 100000
theorem kd_one {R : List (Int × Int)} {k : Int} (h : kdR false R 0 [k] = 0) : ∃ t s, R = t ++ [(k, s)] := by
 simp only [kdR] at h
 rcases last_cases R with e | ⟨t, ⟨k', s⟩, e⟩
 ·rw [e] at h; simp at h
 ·have h0 : ¬ R.length <= 0 := by rw [e]; simp
  have k0 : kAt R 0 = k' := by rw [e, kAt_0]
  simp [h0, k0] at h
  exact ⟨t, s, by rw [e, h]⟩
theorem rfa_7 {D : List Int} {R : List (Int × Int)} (h : rfa 7 D R = 0) : ∃ t l i, R = t ++ [(2, l)] ++ [(3, i)] := by
 have h := (rfa0 h).2.2.1
 simp only [ksO, lkL, kdR] at h
 rcases last_cases R with e | ⟨t, ⟨k, i⟩, e⟩
 ·rw [e] at h; simp [kdR] at h
 ·have h0 : ¬ R.length <= 0 := by rw [e]; simp
  have k0 : kAt R 0 = k := by rw [e, kAt_0]
  by_cases q : k = 3
  ·subst q
   rcases last_cases t with e2 | ⟨t2, ⟨k2, l⟩, e2⟩
   ·have h1 : R.length <= 1 := by rw [e, e2]; simp
    simp [h0, k0, h1, kdR] at h
   ·have h1 : ¬ R.length <= 1 := by rw [e, e2]; simp
    have k1 : kAt R 1 = k2 := by rw [e, e2, kAt_1]
    simp [h0, k0, h1, k1, kdR] at h
    exact ⟨t2, l, i, by rw [e, e2, h]⟩
  ·simp [h0, k0, q, kdR] at h
theorem rfa_8 {D : List Int} {R : List (Int × Int)} (h : rfa 8 D R = 0) : R = [] \/ ∃ t a, R = t ++ [(1, a)] := by
 have h := (rfa0 h).2.2.1
 by_cases q : 0 < R.length
 ·right
  have e : ksO 8 R = [1] := by unfold ksO; rw [if_pos ⟨rfl, q⟩]
  rw [e] at h
  exact kd_one h
 ·left
  exact List.eq_nil_of_length_eq_zero (by omega)
theorem rfa_56 {D : List Int} {R : List (Int × Int)} (h : rfa 56 D R = 0) : ∃ t s, R = t ++ [(4, s)] := kd_one (rfa0 h).2.2.1
theorem rfa_57 {D : List Int} {R : List (Int × Int)} (h : rfa 57 D R = 0) : ∃ t s, R = t ++ [(4, s)] := kd_one (rfa0 h).2.2.1
theorem rfa_58 {D : List Int} {R : List (Int × Int)} (h : rfa 58 D R = 0) : ∃ t s, R = t ++ [(3, s)] := kd_one (rfa0 h).2.2.1
theorem rfa_59 {D : List Int} {R : List (Int × Int)} (h : rfa 59 D R = 0) : 3 <= R.length /\ ∃ s, R[R.length - 3]? = some (3, s) := by
 have h := (rfa0 h).2.2.1
 simp only [ksO, lkL, kdR] at h
 by_cases q : R.length <= 2
 ·simp [kdR, q] at h
 ·have hl : R.length - 3 < R.length := by omega
  refine ⟨by omega, (R[R.length - 3]'hl).2, ?_⟩
  have e : R.length - 1 - 2 = R.length - 3 := by omega
  simp [kdR, q, kAt, e, List.getElem?_eq_getElem hl] at h
  rw [List.getElem?_eq_getElem hl, <- h]
theorem turn_is (v : VS) (t : List (Int × Int)) (l i : Int) (h : v.R = t ++ [(2, l)] ++ [(3, i)]) : turn v = if (i + 1) % 65536 ≠ l then ⟨true, 0, { v with R := t ++ [(2, l)] ++ [(3, (i + 1) % 65536)] }⟩ else ⟨false, 0, { v with R := t }⟩ := by
 unfold turn
 rw [h]
 simp
theorem ls_take {W : World} {p : Option Addr} {n cap : Nat} {l : List (Int × Int)} (h : S.Ls S.eK 2 W (.slice p n cap) l) (k : Nat) (hk : k <= l.length) : S.Ls S.eK 2 W (.slice p k cap) (l.take k) := by
 rcases h with ⟨e, rfl⟩ | ⟨x, c, e, hc, hs⟩
 ·cases e
  obtain rfl : k = 0 := by simpa using hk
  exact .inl ⟨rfl, rfl⟩
 ·cases e
  exact .inr ⟨x, _, by rw [List.length_take, Nat.min_eq_left hk], by rw [List.length_take]; omega, hs.take k⟩
theorem own_setc {w : World} {B : Nat} {e : TypeId} {s g n cap : Nat} {xs : List Value} (h : w.ownsRow B e s (.slice (some ⟨g, 0, none⟩) n cap) n xs) (i : Nat) (u : Value) : (w.setCell ⟨g, i, none⟩ u).ownsRow B e s (.slice (some ⟨g, 0, none⟩) n cap) n (xs.set i u) /\ w.frozen? ⟨g, i, none⟩ = false /\ (∀ k, k ≠ g -> (w.setCell ⟨g, i, none⟩ u).heap[k]? = w.heap[k]?) := by
 rcases h.2 with ⟨h', _⟩ | ⟨g', cap', cur, h', hb, hg, hnc, hcm, hcs, htake⟩
 ·simp at h'
 ·simp only [Value.slice.injEq, Option.some.injEq, Addr.mk.injEq, and_true, true_and] at h'
  obtain ⟨rfl, rfl⟩ := h'
  have hg' : w.heap[g]? = some (.cells cur.toList.toArray e (0, 0)) := by simpa using hg
  refine ⟨⟨by rw [List.length_set]; exact h.1, .inr ⟨g, cap, (cur.toList.set i u).toArray, rfl, hb, S.setCell_heap w g i cur.toList e u hg', hnc, hcm, by simpa using hcs, ?_⟩⟩, S.frozen_of w g i cur.toList e hg', fun k hk => S.setCell_other w g i k u hk⟩
  rw [<- htake]
  exact List.take_set
theorem en_last (l : List (Int × Int)) (k a i : Int) : (S.en S.eK (l ++ [(k, a)])).set (l.length * 2 + 1) (.int .u16 i) = S.en S.eK (l ++ [(k, i)]) := by
 have e : (S.en S.eK l).length = l.length * 2 := S.en_len S.hK l
 rw [S.en_append, S.en_append, List.set_append_right _ _ (by omega), e]
 have : l.length * 2 + 1 - l.length * 2 = 1 := by omega
 rw [this]
 rfl
theorem ty_ne {w : World} {B B' : Nat} {e e' : TypeId} {s s' : Nat} {u x : Value} {n n' : Nat} {xs ys : List Value} (h : w.ownsRow B e s u n xs) (k : w.ownsRow B' e' s' x n' ys) (hne : e ≠ e') (i : Nat) (hi : u.ownBlock = some i) (c : x.ownBlock = some i) : False := by
 rcases h.2 with ⟨a, _⟩ | ⟨g1, c1, cu1, a, _, h1, _⟩
 ·rw [a] at hi; simp [Value.ownBlock] at hi
 ·rcases k.2 with ⟨a2, _⟩ | ⟨g2, c2, cu2, a2, _, h2, _⟩
  ·rw [a2] at c; simp [Value.ownBlock] at c
  ·rw [a] at hi; rw [a2] at c
   simp [Value.ownBlock] at hi c
   subst hi
   subst c
   rw [h1] at h2
   simp at h2
   exact hne h2.2
theorem own_cap {w : World} {B : Nat} {e : TypeId} {s : Nat} {p : Option Addr} {n m cap : Nat} {xs : List Value} (h : w.ownsRow B e s (.slice p n cap) m xs) : m <= cap := by
 rcases h.2 with ⟨a, b⟩ | ⟨g1, c1, cu1, a, _, h1, h2, _⟩
 ·omega
 ·simp at a
  omega
theorem rpad {w : World} {F : Nat -> Prop} {b : Nat} {m : M.MS} (hm : M.IsR w F b m) : w.cell? ⟨b, 4, none⟩ = some (.int .u8 m.pad) := by
 obtain ⟨hw, u, gr', gc, gs, tv, h⟩ := hm
 exact S.cell_of w b 4 _ _ _ h.blk rfl
theorem un_cases {op : Nat} (h : C.isUn op = true) : op = 28 \/ op = 29 \/ op = 32 \/ op = 33 \/ op = 34 \/ op = 35 \/ op = 39 \/ op = 48 \/ op = 49 := by
 simp only [C.isUn, Bool.or_eq_true, beq_iff_eq] at h
 omega
theorem bi_cases {op : Nat} (h : C.isBi op = true) : op = 21 \/ op = 22 \/ op = 23 \/ op = 24 \/ op = 25 \/ op = 26 \/ op = 27 \/ op = 30 \/ op = 31 \/ op = 36 \/ op = 37 \/ op = 38 \/ op = 40 \/ op = 41 \/ op = 42 \/ op = 43 \/ op = 44 \/ op = 45 \/ op = 46 \/ op = 47 := by
 simp only [C.isBi, Bool.or_eq_true, beq_iff_eq] at h
 omega
structure Pl1 (op : Nat) : Prop where
 pl : P.plain op = true
 rw : P.rw_ op = ⟨1, 1, 0, 0, 0⟩
 put : ∀ x y z s m, P.putN op x y z s m = [C.un op x]
 ret : ∀ x y R, P.retN op x y R = R
 mem : ∀ x y z m, P.memN op x y z m = m
 tk : tkN op = 1
 lv : lvN op = 1
theorem un_pl {op : Nat} (h : C.isUn op = true) : Pl1 op := by
 rcases un_cases h with rfl | rfl | rfl | rfl | rfl | rfl | rfl | rfl | rfl <;> exact ⟨rfl, rfl, fun _ _ _ _ _ => rfl, fun _ _ _ => rfl, fun _ _ _ _ => rfl, rfl, rfl⟩
structure Pl2 (op : Nat) : Prop where
 pl : P.plain op = true
 rw : P.rw_ op = ⟨2, 1, 0, 0, 0⟩
 put : ∀ x y z s m, P.putN op x y z s m = [C.bi op x y]
 ret : ∀ x y R, P.retN op x y R = R
 mem : ∀ x y z m, P.memN op x y z m = m
 tk : tkN op = 2
 lv : lvN op = 1
theorem bi_pl {op : Nat} (h : C.isBi op = true) : Pl2 op := by
 rcases bi_cases h with rfl | rfl | rfl | rfl | rfl | rfl | rfl | rfl | rfl | rfl | rfl | rfl | rfl | rfl | rfl | rfl | rfl | rfl | rfl | rfl <;> exact ⟨rfl, rfl, fun _ _ _ _ _ => rfl, fun _ _ _ => rfl, fun _ _ _ _ => rfl, rfl, rfl⟩
set_option maxHeartbeats 40000000
set_option maxRecDepth 100000
theorem rst_RH6 (g b : Nat) (kv dv rv : Value) (F : Nat -> Prop) (v : VS) (op : Nat) (x : Int) (o1 : 1 <= op) (o2 : op <= 63) (hop : op = 54 \/ op = 60 \/ op = 62) (hst : v.st = 1) (hlk : look v = ⟨op, x, 0⟩) (hf : rfa op v.D v.R = 0) (htn : v.m.tones.length <= 999000) (W : World) (h : RX W g b kv dv rv F v) :
  Calls Tryz.prog 38 #[.pointer (some ⟨g, 0, none⟩)] W fun e W' => e = .returned (.bool (op == 10)) /\ RY W W' g b kv F { (dn op x (beh v.pc op) v).v with pc := (dn op x (beh v.pc op) v).on } := by
 have HOP : Hid _ := hop
 clear hop
 obtain ⟨t1, t2, t3⟩ := tab_le op o1 o2
 have kT := fun w => tk_any op o1 o2 w
 have kO := fun w => opd_any op o1 o2 w
 rw [opB_eq op o1 o2] at kO
 have hpc := h.wf.pc0
 have hpc1 := h.wf.pc1
 have c2 := h.c2
 rw [hst] at c2
 have hdl := h.dl
 have hrl := h.rl
 obtain ⟨p, cd, hdv, hcd, _⟩ := h.d.ex
 obtain ⟨q, cr, hrv, hcr, _⟩ := h.r.ex
 subst hdv hrv
 have htk : tkN op <= v.D.length := by
  apply Decidable.byContradiction
  intro c
  unfold rfa at hf
  rw [if_pos (by omega)] at hf
  cases hf
 obtain ⟨nd, hnd⟩ : ∃ n, v.D.length = n := ⟨_, rfl⟩
 obtain ⟨nr, hnr⟩ : ∃ n, v.R.length = n := ⟨_, rfl⟩
 obtain ⟨tk, htk0⟩ : ∃ t, tkN op = t := ⟨_, rfl⟩
 rw [htk0] at kT t1 htk
 rw [hnd] at hdl htk hcd
 rw [hnr] at hrl hcr
 have HX0 : Hid _ := h
 have HN : Hid _ := And.intro hnd (And.intro hnr htk0)
 have kL := rlook_any g b kv _ _ F v W h
 rw [hlk] at kL
 obtain ⟨nx, hnx⟩ : ∃ nx, beh v.pc op = nx := ⟨_, rfl⟩
 have HNX : Hid _ := hnx
 clear h hnd hnr htk0 hnx
 go_enter Tryz.func38, Tryz.ntmps38
 go_wp2_with fail
 refine kL.mono ?_
 rintro e w1 ⟨rfl, hb1⟩
 have kF := faults_any g b kv _ _ F v op o1 o2 w1 (HX0.out.below hb1)
 rw [hf] at kF
 have HB1 : Hid _ := hb1
 clear hb1 kL c2
 go_wp2_with fail
 refine kF.mono ?_
 rintro e w2 ⟨rfl, hb2⟩
 have HB2 : Hid (Below W.heap.size W w2) := HB1.out.trans (hb2.mono HB1.out.size)
 have hx2 := HX0.out.below HB2.out
 have c1 := hx2.c1
 have c4 := hx2.c4
 have c5 := hx2.c5
 rw [HN.out.1] at c4
 rw [HN.out.2.1] at c5
 have HX2 : Hid _ := hx2
 clear hb2 kF HB1 hx2
 have u2 := u16_2 v.pc
 go_upto_if 48 with (refine (kO _).mono ?_; rintro e wx ⟨rfl, hwx⟩; rw [hwx]; clear hwx wx)
 go_cut [6] (fun s wz => s = .int .u16 nx /\ wz = w2)
 case first =>
  as_aux_lemma =>
   cases hrb : P.rb op with
   | true =>
    have e1 : nx = (v.pc + 4) % 65536 := by rw [<- HNX.out]; unfold beh; rw [hrb]; rfl
    have e2 : IntKind.u16.wrap ((v.pc + 2) % 65536 + 2) = nx := by rw [M.u16_wrap, e1]; omega
    have e3 : ((v.pc + 2) % 65536 + 2) % 65536 = nx := by rw [e1]; omega
    clear e1 kO
    go_wp2
    go_meet
    case rel => exact ⟨rfl, rfl⟩
   | false =>
    have e1 : (v.pc + 2) % 65536 = nx := by rw [<- HNX.out]; unfold beh; rw [hrb]; rfl
    have HE : Hid _ := e1
    clear e1 kO
    go_wp2
    go_meet
    case rel => exact ⟨by rw [HE.out], rfl⟩
 case rest =>
  as_aux_lemma =>
   obtain ⟨rfl, hwz⟩ := hcut
   subst hwz
   clear kO u2
   have w13 : IntKind.i64.wrap ((nd : Int) - (tk : Int)) = ((nd - tk : Nat) : Int) := by rw [IntWalk.i64_in _ (by omega)]; omega
   have hmk : ∀ X : World, Below wc.heap.size wc X -> (fun wz : World => wz.cell? ⟨g, 4, none⟩ = some (.slice p nd cd)) X := fun X hX => by show X.cell? ⟨g, 4, none⟩ = some (.slice p nd cd); rw [hX.cell (World.block_lt_of_cell? wc _ c4)]; exact c4
   have HMK : Hid _ := hmk
   have HB0 : Hid (Below wc.heap.size wc wc.drew) := ⟨rfl, rfl, rfl, Nat.le_refl _, fun _ _ => rfl⟩
   clear hmk
   go_upto_region 13 with fail
   refine wp_region_held_drew (S := (fun wz : World => wz.cell? ⟨g, 4, none⟩ = some (.slice p nd cd))) (by kernel_rfl) (HMK.out _ HB0.out) (fun hHeld => ?_)
   generalize wc.drew = y0 at *
   refine wtk0 (is := [0, 1, 2, 3, 4, 5, 6]) ?_
   iterate 7
    refine wtk (v := ?_) rfl (by kernel_rfl) (by kernel_rfl) (by kernel_rfl) (fun c a w h => h) (Or.inl ⟨by rfl, ?_⟩) hHeld ?_
    rotate_left
    ·(intro w hSw; (try dsimp only at hSw); go_simp; try with_reducible rfl)
    simp only [Act.put, List.getElem_toArray, List.getElem_cons_zero, List.getElem_cons_succ, List.setIfInBounds_toArray, List.set_cons_zero, List.set_cons_succ]
   refine wtkE ?_
   refine wpAnyH_ready (rs := [7]) (by kernel_rfl) (by simp) ?_
   refine AllReadyH.cons rfl (fun K hK => ?_) AllReadyH.nil
   go_simp
   refine (kT _).mono ?_
   rintro e wx ⟨rfl, hwx⟩
   dsimp only
   rw [hwx]
   clear hwx wx
   refine hK.out _ _ (HMK.out _ HB0.out) (fun hHeld => ?_)
   clear hK K
   try simp only [Act.put, List.getElem_toArray, List.getElem_cons_zero, List.getElem_cons_succ, List.setIfInBounds_toArray, List.set_cons_zero, List.set_cons_succ]
   refine wtk0 (is := [8, 9]) ?_
   iterate 2
    refine wtk (v := ?_) rfl (by kernel_rfl) (by kernel_rfl) (by kernel_rfl) (fun c a w h => h) (Or.inl ⟨by rfl, ?_⟩) hHeld ?_
    rotate_left
    ·(intro w hSw; (try dsimp only at hSw); go_simp; try with_reducible rfl)
    simp only [Act.put, List.getElem_toArray, List.getElem_cons_zero, List.getElem_cons_succ, List.setIfInBounds_toArray, List.set_cons_zero, List.set_cons_succ]
   refine wtkE ?_
   refine wpAnyH_done (by kernel_rfl) ?_ _
   clear hHeld
   have HBy : Hid (Below W.heap.size W y0) := HB2.out.trans (HB0.out.mono HB2.out.size)
   have hxy := HX0.out.below HBy.out
   have d4 := hxy.c4
   have d5 := hxy.c5
   rw [HN.out.1] at d4
   rw [HN.out.2.1] at d5
   obtain ⟨rn, hrn⟩ : ∃ rn, nd - tk = rn := ⟨_, rfl⟩
   obtain ⟨inn, hinn⟩ : ∃ inn, v.D.drop rn = inn := ⟨_, rfl⟩
   rw [hrn] at w13 ⊢
   obtain ⟨ps, hps⟩ : ∃ ps, (if cd = rn then p else p.map (·.add rn)) = ps := ⟨_, rfl⟩
   obtain ⟨cps, hcps⟩ : ∃ c, cd - rn = c := ⟨_, rfl⟩
   have hti : nd - rn = tk := by omega
   have s14 : ∀ X : World, (Instr.sliceAt 43 (.slice p nd cd) (some (.int .i64 (rn : Int))) none none).run Tryz.prog X = .ok (.slice ps tk cps) X := fun X => by
    rw [su_from X p nd cd rn (rn : Int) rfl (by omega), hps, hti, hcps]
   have s15 := fun (X : World) => su_to X p nd cd rn (rn : Int) rfl (by omega)
   have HRN : Hid _ := hrn
   clear c1 c4 c5 HMK hxy kT
   obtain ⟨y1, hy1⟩ : ∃ y, y0.alloc (.cells #[] 23) = y := ⟨_, rfl⟩
   have b1 : Below y0.heap.size y0 y1 := by rw [<- hy1]; exact P.bel_alloc y0 _
   have own1 := S.own_empty y0 23 1
   rw [hy1] at own1
   have lsD := (HX0.out.below (HBy.out.trans (b1.mono HBy.out.size))).d
   rw [HN.out.1] at lsD
   have cs1 : S.Cs y1 (.slice ps tk cps) 1 tk (S.en S.eU inn) := by
    have := cs_from (l := v.D) (by rw [HN.out.1]; exact lsD) rn (by rw [HN.out.1]; omega)
    rw [HN.out.1, hps, hti, hcps, hinn] at this
    exact this
   have z1 : y0.heap.size <= y1.heap.size := b1.size
   have e4 : y1.cell? ⟨g, 4, none⟩ = some (.slice p nd cd) := by rw [b1.cell (World.block_lt_of_cell? y0 _ d4)]; exact d4
   have e4' : (y0.alloc (.cells #[] 23)).cell? ⟨g, 4, none⟩ = some (.slice p nd cd) := by rw [hy1]; exact e4
   have HY1 : Hid _ := hy1
   have HB1 : Hid _ := b1
   have bound1 : (0 + tk) * 2 <= S.room := by unfold S.room; omega
   have bound2 : 0 + tk <= maxLen := by unfold maxLen; omega
   clear hy1 b1 lsD
   go_upto_region 14 with fail
   go_wp2_with (first | (at_builtin; rw [HY1.out]; refine S.wpList_append_row _ rfl _ _ 43 23 _ 1 2 Tryz.underlying43 S.info32 rfl (by decide) rfl y0.heap.size _ 0 [] rfl own1 _ tk _ rfl cs1 bound1 bound2 z1 ?_))
   intro iv y2 oi gi
   try simp only [Nat.zero_add, List.nil_append] at oi
   clear e4 e4' own1 cs1 z1 bound1 bound2 s14
   obtain ⟨pi, ci, hiv⟩ := own_fm oi
   subst hiv
   have b2 : Below y0.heap.size y0 y2 := gi.belowAll (fun g e => by rw [show g = y0.heap.size by simpa [Value.ownBlock] using e.symm]; exact Nat.le_refl _) HB1.out (Nat.le_refl _)
   have hW0 := HBy.out.size
   have OI : Hid (y2.ownsRow W.heap.size 23 1 (.slice pi tk ci) tk (S.en S.eU inn)) := S.own_mono oi hW0
   have HBy2 : Hid (Below W.heap.size W y2) := HBy.out.trans (b2.mono HBy.out.size)
   clear oi gi b2 d4
   obtain ⟨y3, hy3⟩ : ∃ y, y2.alloc (.cells #[] 23) = y := ⟨_, rfl⟩
   have b3 : Below y2.heap.size y2 y3 := by rw [<- hy3]; exact P.bel_alloc y2 _
   have own3 := S.own_empty y2 23 1
   rw [hy3] at own3
   have hx3 := HX0.out.below (HBy2.out.trans (b3.mono HBy2.out.size))
   have cs3 : S.Cs y3 (.slice p rn cd) 1 rn (S.en S.eU (v.D.take rn)) := cs_to hx3.d rn (by rw [HN.out.1]; omega)
   have z3 : y2.heap.size <= y3.heap.size := b3.size
   have e4' : (y2.alloc (.cells #[] 23)).cell? ⟨g, 4, none⟩ = some (.slice p nd cd) := by rw [hy3]; have := hx3.c4; rw [HN.out.1] at this; exact this
   have HY3 : Hid _ := hy3
   have HB3 : Hid _ := b3
   have bound1 : (0 + rn) * 2 <= S.room := by unfold S.room; omega
   have bound2 : 0 + rn <= maxLen := by unfold maxLen; omega
   clear hy3 b3 hx3
   go_upto_region 15 with fail
   go_wp2_with (first | (at_builtin; rw [HY3.out]; refine S.wpList_append_row _ rfl _ _ 43 23 _ 1 2 Tryz.underlying43 S.info32 rfl (by decide) rfl y2.heap.size _ 0 [] rfl own3 _ rn _ rfl cs3 bound1 bound2 z3 ?_))
   intro d1 y4 od gd
   try simp only [Nat.zero_add, List.nil_append] at od
   clear e4' own3 cs3 z3 bound1 bound2 s15
   obtain ⟨pd, cd1, hd1⟩ := own_fm od
   subst hd1
   have b4 : Below y2.heap.size y2 y4 := gd.belowAll (fun g e => by rw [show g = y2.heap.size by simpa [Value.ownBlock] using e.symm]; exact Nat.le_refl _) HB3.out (Nat.le_refl _)
   have HNE : Hid (∀ k, Value.ownBlock (.slice pi tk ci) = some k -> ¬ Value.ownBlock (.slice pd rn cd1) = some k) := fun k e c => by have h1 := (World.ownsRow.lt OI.out k e).2; have h2 := (World.ownsRow.lt od k c).1; omega
   have OD : Hid (y4.ownsRow W.heap.size 23 1 (.slice pd rn cd1) rn (S.en S.eU (v.D.take rn))) := S.own_mono od HBy2.out.size
   have OI : Hid (y4.ownsRow W.heap.size 23 1 (.slice pi tk ci) tk (S.en S.eU inn)) := own_nw OI.out b4
   have HBy4 : Hid (Below W.heap.size W y4) := HBy2.out.trans (b4.mono HBy2.out.size)
   clear od gd b4
   obtain ⟨y5, hy5⟩ : ∃ y, y4.alloc (.cells #[] 101) = y := ⟨_, rfl⟩
   have b5 : Below y4.heap.size y4 y5 := by rw [<- hy5]; exact P.bel_alloc y4 _
   have own5 := S.own_empty y4 101 2
   rw [hy5] at own5
   have hx5 := HX0.out.below (HBy4.out.trans (b5.mono HBy4.out.size))
   have cs5 : S.Cs y5 (.slice q nr cr) 2 nr (S.en S.eK v.R) := by have := S.Ls.cs S.hK (by decide) S.oneK hx5.r; rw [HN.out.2.1] at this; exact this
   have z5 : y4.heap.size <= y5.heap.size := b5.size
   have e5' : (y4.alloc (.cells #[] 101)).cell? ⟨g, 5, none⟩ = some (.slice q nr cr) := by rw [hy5]; have := hx5.c5; rw [HN.out.2.1] at this; exact this
   have HY5 : Hid _ := hy5
   have HB5 : Hid _ := b5
   have bound1 : (0 + nr) * 16 <= S.room := by unfold S.room; omega
   have bound2 : 0 + nr <= maxLen := by unfold maxLen; omega
   clear hy5 b5 hx5 d5
   go_upto_region 16 with fail
   go_wp2_with (first | (at_builtin; rw [HY5.out]; refine S.wpList_append_row _ rfl _ _ 44 101 _ 2 16 Tryz.underlying44 S.info43 rfl (by decide) rfl y4.heap.size _ 0 [] rfl own5 _ nr _ rfl cs5 bound1 bound2 z5 ?_))
   intro r1 y6 orr gr
   try simp only [Nat.zero_add, List.nil_append] at orr
   clear e5' own5 cs5 z5 bound1 bound2
   obtain ⟨pr, cr1, hr1⟩ := own_fm orr
   subst hr1
   have b6 : Below y4.heap.size y4 y6 := gr.belowAll (fun g e => by rw [show g = y4.heap.size by simpa [Value.ownBlock] using e.symm]; exact Nat.le_refl _) HB5.out (Nat.le_refl _)
   have HRC : Hid (RC W y6 (.slice pi tk ci) (.slice pd rn cd1) (.slice pr nr cr1) inn (v.D.take rn) v.R) := by
    have h1 : inn.length = tk := by rw [<- hinn, List.length_drop, HN.out.1]; omega
    have h2 : (v.D.take rn).length = rn := by rw [List.length_take, HN.out.1]; omega
    refine ⟨HBy4.out.trans (b6.mono HBy4.out.size), ?_, ?_, ?_⟩
    ·rw [h1]; exact own_nw OI.out b6
    ·rw [h2]; exact own_nw OD.out b6
    ·rw [HN.out.2.1]; exact S.own_mono orr HBy4.out.size
   have HII : Hid (v.D.drop rn = inn) := hinn
   clear orr gr b6 OI OD HBy HBy2 HBy4 HB0 HB1 HB2 HB3 HB5 HX2 HY1 HY3 HY5 w13 hinn hps hcps
   have wtop : IntKind.i64.wrap ((nr : Int) - 1) = (nr : Int) - 1 := IntWalk.i64_in _ (by omega)
   go_upto_region 18 with fail
   have hgo := HX0.out.lt
   have HDL : Hid (S.Ls S.eU 1 y6 (.slice pd rn cd1) (v.D.take rn)) := S.own_sl S.hU HRC.out.d
   have HRL : Hid (S.Ls S.eK 2 y6 (.slice pr nr cr1) v.R) := S.own_sl S.hK HRC.out.r
   have HBK : Hid (∀ k, (Value.ownBlock (.slice pd rn cd1) = some k \/ Value.ownBlock (.slice pr nr cr1) = some k) -> W.heap.size <= k /\ k < y6.heap.size) := fun k e => e.elim (fun e => World.ownsRow.lt HRC.out.d k e) (fun e => World.ownsRow.lt HRC.out.r k e)
   have HPC : Hid (C.C nx) := by rw [<- HNX.out]; unfold beh; split <;> exact rng _
   have HCD : Hid (∀ x ∈ v.D.take rn, C.C x) := fun x hx => HX0.out.wf.d x (List.mem_of_mem_take hx)
   have HCI : Hid (∀ x ∈ inn, C.C x) := fun x hx => HX0.out.wf.d x (by rw [<- HII.out] at hx; exact List.mem_of_mem_drop hx)
   have HCR : Hid (∀ q ∈ v.R, C.C q.2) := HX0.out.wf.r
   have H0 : Hid _ := rfa0 hf
   have htl : (v.D.take rn).length = rn := by rw [List.length_take, HN.out.1]; have := HRN.out; omega
   have HTL : Hid _ := htl
   have hil : inn.length = tk := by rw [<- HII.out, List.length_drop, HN.out.1]; have := HRN.out; have h2 := H0.out.1; rw [HN.out.1, HN.out.2.2] at h2; omega
   have HIL : Hid _ := hil
   clear htl hil
   have HXC : Hid (C.C x) := by have := look_c v HX0.out.wf; rw [hlk] at this; exact this
   have ODy6 : Hid (y6.ownsRow W.heap.size 23 1 (.slice pd rn cd1) rn (S.en S.eU (v.D.take rn))) := by have := HRC.out.d; rw [HTL.out] at this; exact this
   have ORy6 : Hid (y6.ownsRow W.heap.size 101 2 (.slice pr nr cr1) nr (S.en S.eK v.R)) := by have := HRC.out.r; rw [HN.out.2.1] at this; exact this
   have HBy6 : Hid (Below W.heap.size W y6) := HRC.out.bel
   have HP := HOP.out
   clear HOP
   rcases HP with hop | hop | hop
   ·as_aux_lemma =>
     have HOP : Hid (op = 54) := hop
     clear hop
     obtain rfl := HOP.out
     obtain ⟨a0, a1, hi⟩ : ∃ a0 a1, inn = [a0, a1] := by
      have h1 := HIL.out
      have h2 := HN.out.2.2
      simp only [tkN] at h2
      rw [<- h2] at h1
      match inn, h1 with
      | [c0, c1], _ => exact ⟨c0, c1, rfl⟩
     subst hi
     obtain rfl : 2 = tk := by have := HIL.out; simpa using this
     obtain ⟨gi, cq, hci, ce0⟩ := HRC.out.in 0 a0 rfl
     simp at hci
     obtain ⟨rfl, rfl⟩ := hci
     obtain ⟨gi1, cq1, hci1, ce1⟩ := HRC.out.in 1 a1 rfl
     simp at hci1
     obtain ⟨rfl, rfl⟩ := hci1
     obtain ⟨hA0, hB0⟩ := HCI.out a0 (by simp)
     obtain ⟨hA1, hB1⟩ := HCI.out a1 (by simp)
     have HGI : Hid (W.heap.size <= gi) := (World.ownsRow.lt HRC.out.i gi rfl).1
     have c6 : y6.cell? ⟨g, 6, none⟩ = some (.pointer (some ⟨b, 0, none⟩)) := (HX0.out.below HRC.out.bel).c6
     have HS : Hid (∀ X : World, Below y6.heap.size y6 X -> (fun wz : World => wz.cell? ⟨gi, 0, none⟩ = some (.int .u16 a0) /\ wz.cell? ⟨gi, 1, none⟩ = some (.int .u16 a1) /\ wz.cell? ⟨g, 6, none⟩ = some (.pointer (some ⟨b, 0, none⟩))) X) := fun X hX => ⟨(by show X.cell? ⟨gi, 0, none⟩ = some (.int .u16 a0); rw [hX.cell (World.block_lt_of_cell? y6 _ ce0)]; exact ce0), (by show X.cell? ⟨gi, 1, none⟩ = some (.int .u16 a1); rw [hX.cell (World.block_lt_of_cell? y6 _ ce1)]; exact ce1), (by show X.cell? ⟨g, 6, none⟩ = some (.pointer (some ⟨b, 0, none⟩)); rw [hX.cell (World.block_lt_of_cell? y6 _ c6)]; exact c6)⟩
     have HBd : Hid (Below y6.heap.size y6 y6.drew) := ⟨rfl, rfl, rfl, Nat.le_refl _, fun _ _ => rfl⟩
     clear ce0 ce1 c6
     go_upto_region 71 with fail
     refine wp_region_held_drew (S := (fun wz : World => wz.cell? ⟨gi, 0, none⟩ = some (.int .u16 a0) /\ wz.cell? ⟨gi, 1, none⟩ = some (.int .u16 a1) /\ wz.cell? ⟨g, 6, none⟩ = some (.pointer (some ⟨b, 0, none⟩)))) (by kernel_rfl) (HS.out _ HBd.out) (fun hHeld => ?_)
     generalize y6.drew = yd at *
     have ODyd : Hid (yd.ownsRow W.heap.size 23 1 (.slice pd rn cd1) rn (S.en S.eU (v.D.take rn))) := own_nw ODy6.out HBd.out
     have ORyd : Hid (yd.ownsRow W.heap.size 101 2 (.slice pr nr cr1) nr (S.en S.eK v.R)) := own_nw ORy6.out HBd.out
     have HByd : Hid (Below W.heap.size W yd) := HBy6.out.trans (HBd.out.mono HBy6.out.size)
     have HSd : Hid (∀ X : World, Below yd.heap.size yd X -> (fun wz : World => wz.cell? ⟨gi, 0, none⟩ = some (.int .u16 a0) /\ wz.cell? ⟨gi, 1, none⟩ = some (.int .u16 a1) /\ wz.cell? ⟨g, 6, none⟩ = some (.pointer (some ⟨b, 0, none⟩))) X) := fun X hX => HS.out X (HBd.out.trans (hX.mono HBd.out.size))
     clear HS HDL HRL HBK ODy6 ORy6 HBy6 HRC HBd
     have HMm : Hid (M.IsR yd F b v.m) := (HX0.out.below HByd.out).mem
     have HSb0 : Hid ((fun wz : World => wz.cell? ⟨gi, 0, none⟩ = some (.int .u16 a0) /\ wz.cell? ⟨gi, 1, none⟩ = some (.int .u16 a1) /\ wz.cell? ⟨g, 6, none⟩ = some (.pointer (some ⟨b, 0, none⟩))) yd) := HSd.out yd (Below.refl _ yd)
     obtain ⟨cv, hcv⟩ : ∃ c, M.cl v.m a1 = c := ⟨_, rfl⟩
     have kC := M.rcell_any b a1 hA1 hB1 yd HMm.out
     rw [hcv] at kC
     obtain ⟨sm, hsm⟩ : ∃ s, (cv + a0) % 65536 = s := ⟨_, rfl⟩
     have wsm : IntKind.u16.wrap (cv + a0) = sm := by rw [M.u16_wrap]; exact hsm
     have hS0 : 0 <= sm := by omega
     have hS1 : sm < 65536 := by omega
     have HCV : Hid _ := And.intro hcv hsm
     clear hcv
     refine wtk0 (is := [0, 1, 2, 3, 4, 5, 6, 7, 8, 9, 10, 11, 12, 13, 15, 16, 17]) ?_
     iterate 17
      refine wtk (v := ?_) rfl (by kernel_rfl) (by kernel_rfl) (by kernel_rfl) (fun c a w h => h) (Or.inl ⟨by rfl, ?_⟩) hHeld ?_
      rotate_left
      ·(intro w hSw; (try dsimp only at hSw); go_simp; try with_reducible rfl)
      simp only [Act.put, List.getElem_toArray, List.getElem_cons_zero, List.getElem_cons_succ, List.setIfInBounds_toArray, List.set_cons_zero, List.set_cons_succ]
     refine wtkE ?_
     refine wpAnyH_ready (rs := [14]) (by kernel_rfl) (by simp) ?_
     refine AllReadyH.cons rfl (fun K hK => ?_) AllReadyH.nil
     go_simp
     refine (kC).mono ?_
     rintro e yc ⟨rfl, hbc⟩
     dsimp only
     have HBc : Hid (Below yd.heap.size yd yc) := hbc
     clear hbc
     refine hK.out _ _ (HSd.out yc HBc.out) (fun hHeld => ?_)
     clear hK K
     try simp only [Act.put, List.getElem_toArray, List.getElem_cons_zero, List.getElem_cons_succ, List.setIfInBounds_toArray, List.set_cons_zero, List.set_cons_succ]
     clear kC
     have ODyb : Hid (yc.ownsRow W.heap.size 23 1 (.slice pd rn cd1) rn (S.en S.eU (v.D.take rn))) := own_nw ODyd.out HBc.out
     have ORyb : Hid (yc.ownsRow W.heap.size 101 2 (.slice pr nr cr1) nr (S.en S.eK v.R)) := own_nw ORyd.out HBc.out
     have HByb : Hid (Below W.heap.size W yc) := HByd.out.trans (HBc.out.mono HByd.out.size)
     have HSb : Hid ((fun wz : World => wz.cell? ⟨gi, 0, none⟩ = some (.int .u16 a0) /\ wz.cell? ⟨gi, 1, none⟩ = some (.int .u16 a1) /\ wz.cell? ⟨g, 6, none⟩ = some (.pointer (some ⟨b, 0, none⟩))) yc) := HSd.out yc HBc.out
     have kS := M.rsetCell_any b a1 hA1 hB1 sm hS0 hS1 yc (HMm.out.below HBc.out) (by omega)
     refine wpAnyH_take (i := 18) (v := ?_) rfl (by kernel_rfl) (by kernel_rfl) (by kernel_rfl) (fun c a w h => h) (Or.inl ⟨by rfl, ?_⟩) hHeld ?_
     rotate_left
     ·(intro w hSw; (try dsimp only at hSw); go_simp; try with_reducible rfl)
     simp only [Act.put, List.getElem_toArray, List.getElem_cons_zero, List.getElem_cons_succ, List.setIfInBounds_toArray, List.set_cons_zero, List.set_cons_succ]
     refine wpAnyH_ready (rs := [19]) (by kernel_rfl) (by simp) ?_
     refine AllReadyH.cons rfl (fun K hK => ?_) AllReadyH.nil
     go_simp
     refine (kS).mono ?_
     rintro e ym ⟨rfl, hRD⟩
     dsimp only
     have HRD : Hid _ := hRD
     have hki : ym.heap[gi]? = yc.heap[gi]? := hRD.2.block gi (World.block_lt_of_cell? yc _ (HSb.out.1)) (fun f => by have h1 := HX0.out.fb gi f; have h2 := HGI.out; omega)
     have hkg : ym.heap[g]? = yc.heap[g]? := hRD.2.block g (World.block_lt_of_cell? yc _ (HSb.out.2.2)) (fun f => HX0.out.fv f)
     have HSm : Hid ((fun wz : World => wz.cell? ⟨gi, 0, none⟩ = some (.int .u16 a0) /\ wz.cell? ⟨gi, 1, none⟩ = some (.int .u16 a1) /\ wz.cell? ⟨g, 6, none⟩ = some (.pointer (some ⟨b, 0, none⟩))) ym) := ⟨(by show ym.cell? ⟨gi, 0, none⟩ = some (.int .u16 a0); rw [World.cell?_of_block (w := yc) (w' := ym) (a := ⟨gi, 0, none⟩) hki]; exact HSb.out.1), (by show ym.cell? ⟨gi, 1, none⟩ = some (.int .u16 a1); rw [World.cell?_of_block (w := yc) (w' := ym) (a := ⟨gi, 1, none⟩) hki]; exact HSb.out.2.1), (by show ym.cell? ⟨g, 6, none⟩ = some (.pointer (some ⟨b, 0, none⟩)); rw [World.cell?_of_block (w := yc) (w' := ym) (a := ⟨g, 6, none⟩) hkg]; exact HSb.out.2.2)⟩
     clear hRD hki hkg
     refine hK.out _ _ HSm.out (fun hHeld => ?_)
     clear hK K
     try simp only [Act.put, List.getElem_toArray, List.getElem_cons_zero, List.getElem_cons_succ, List.setIfInBounds_toArray, List.set_cons_zero, List.set_cons_succ]
     refine wpAnyH_done (by kernel_rfl) ?_ _
     clear hHeld
     have HRA : Hid (RA W ym g b kv F { v with m := M.sc v.m a1 sm } (.slice pd rn cd1) (.slice pr nr cr1) (v.D.take rn) v.R) := RA.mem HX0.out HByb.out (S.own_sl S.hU (t := 23) (B := W.heap.size) (by rw [HTL.out]; exact ODyb.out)) (S.own_sl S.hK (t := 101) (B := W.heap.size) (by rw [HN.out.2.1]; exact ORyb.out)) (fun k e => e.elim (fun e => World.ownsRow.lt ODyb.out k e) (fun e => World.ownsRow.lt ORyb.out k e)) HRD.out
     clear HRD HSm HSb HSd HSb0 ODyb ORyb HByb HMm
     obtain ⟨u4, u5, u1, f4, g4, f5, g5, f1, g1, hY⟩ := HRA.out.fin (nx) (by rw [HTL.out]; have := HX0.out.dl; rw [HN.out.1] at this; have := HRN.out; omega) HX0.out.rl HPC.out HCD.out HCR.out
     have HY : Hid _ := hY
     have hSt : ({ (dn 54 x (beh v.pc 54) v).v with pc := (dn 54 x (beh v.pc 54) v).on } : VS) = { { v with m := M.sc v.m a1 sm } with D := v.D.take rn, R := v.R, pc := nx } := by
      have hpl : ({ (dn 54 x (beh v.pc 54) v).v with pc := (dn 54 x (beh v.pc 54) v).on } : VS) = _ := st_plain 54 (by decide) (by rfl) x (beh v.pc 54) v hf
      rw [hpl, <- HNX.out]
      have hrn' : v.D.length - tkN 54 = rn := by rw [HN.out.1, HN.out.2.2]; exact HRN.out
      have hII := HII.out
      simp only [tkN] at hrn'
      simp [P.nD, P.nR, P.nM, P.rw_, P.rest, P.xAt, P.tops, hrn', hII, P.putN, P.retN, P.memN, C.isUn, C.isBi, HCV.out.1, HCV.out.2]
     have HST : Hid _ := hSt
     clear hSt
     clear hY
     go_wp2
     go_ret
     refine ⟨rfl, ?_⟩
     rw [HST.out]
     exact HY.out
   ·as_aux_lemma =>
     have HOP : Hid (op = 60) := hop
     clear hop
     obtain rfl := HOP.out
     obtain ⟨a0, a1, a2, hi⟩ : ∃ a0 a1 a2, inn = [a0, a1, a2] := by
      have h1 := HIL.out
      have h2 := HN.out.2.2
      simp only [tkN] at h2
      rw [<- h2] at h1
      match inn, h1 with
      | [c0, c1, c2], _ => exact ⟨c0, c1, c2, rfl⟩
     subst hi
     obtain rfl : 3 = tk := by have := HIL.out; simpa using this
     obtain ⟨gi, cq, hci, ce0⟩ := HRC.out.in 0 a0 rfl
     simp at hci
     obtain ⟨rfl, rfl⟩ := hci
     obtain ⟨gi1, cq1, hci1, ce1⟩ := HRC.out.in 1 a1 rfl
     simp at hci1
     obtain ⟨rfl, rfl⟩ := hci1
     obtain ⟨gi2, cq2, hci2, ce2⟩ := HRC.out.in 2 a2 rfl
     simp at hci2
     obtain ⟨rfl, rfl⟩ := hci2
     obtain ⟨hA0, hB0⟩ := HCI.out a0 (by simp)
     obtain ⟨hA1, hB1⟩ := HCI.out a1 (by simp)
     obtain ⟨hA2, hB2⟩ := HCI.out a2 (by simp)
     have HGI : Hid (W.heap.size <= gi) := (World.ownsRow.lt HRC.out.i gi rfl).1
     have c6 : y6.cell? ⟨g, 6, none⟩ = some (.pointer (some ⟨b, 0, none⟩)) := (HX0.out.below HRC.out.bel).c6
     have HS : Hid (∀ X : World, Below y6.heap.size y6 X -> (fun wz : World => wz.cell? ⟨gi, 0, none⟩ = some (.int .u16 a0) /\ wz.cell? ⟨gi, 1, none⟩ = some (.int .u16 a1) /\ wz.cell? ⟨gi, 2, none⟩ = some (.int .u16 a2) /\ wz.cell? ⟨g, 6, none⟩ = some (.pointer (some ⟨b, 0, none⟩))) X) := fun X hX => ⟨(by show X.cell? ⟨gi, 0, none⟩ = some (.int .u16 a0); rw [hX.cell (World.block_lt_of_cell? y6 _ ce0)]; exact ce0), (by show X.cell? ⟨gi, 1, none⟩ = some (.int .u16 a1); rw [hX.cell (World.block_lt_of_cell? y6 _ ce1)]; exact ce1), (by show X.cell? ⟨gi, 2, none⟩ = some (.int .u16 a2); rw [hX.cell (World.block_lt_of_cell? y6 _ ce2)]; exact ce2), (by show X.cell? ⟨g, 6, none⟩ = some (.pointer (some ⟨b, 0, none⟩)); rw [hX.cell (World.block_lt_of_cell? y6 _ c6)]; exact c6)⟩
     have HBd : Hid (Below y6.heap.size y6 y6.drew) := ⟨rfl, rfl, rfl, Nat.le_refl _, fun _ _ => rfl⟩
     clear ce0 ce1 ce2 c6
     go_upto_region 83 with fail
     refine wp_region_held_drew (S := (fun wz : World => wz.cell? ⟨gi, 0, none⟩ = some (.int .u16 a0) /\ wz.cell? ⟨gi, 1, none⟩ = some (.int .u16 a1) /\ wz.cell? ⟨gi, 2, none⟩ = some (.int .u16 a2) /\ wz.cell? ⟨g, 6, none⟩ = some (.pointer (some ⟨b, 0, none⟩)))) (by kernel_rfl) (HS.out _ HBd.out) (fun hHeld => ?_)
     generalize y6.drew = yd at *
     have ODyd : Hid (yd.ownsRow W.heap.size 23 1 (.slice pd rn cd1) rn (S.en S.eU (v.D.take rn))) := own_nw ODy6.out HBd.out
     have ORyd : Hid (yd.ownsRow W.heap.size 101 2 (.slice pr nr cr1) nr (S.en S.eK v.R)) := own_nw ORy6.out HBd.out
     have HByd : Hid (Below W.heap.size W yd) := HBy6.out.trans (HBd.out.mono HBy6.out.size)
     have HSd : Hid (∀ X : World, Below yd.heap.size yd X -> (fun wz : World => wz.cell? ⟨gi, 0, none⟩ = some (.int .u16 a0) /\ wz.cell? ⟨gi, 1, none⟩ = some (.int .u16 a1) /\ wz.cell? ⟨gi, 2, none⟩ = some (.int .u16 a2) /\ wz.cell? ⟨g, 6, none⟩ = some (.pointer (some ⟨b, 0, none⟩))) X) := fun X hX => HS.out X (HBd.out.trans (hX.mono HBd.out.size))
     clear HS HDL HRL HBK ODy6 ORy6 HBy6 HRC HBd
     have HMm : Hid (M.IsR yd F b v.m) := (HX0.out.below HByd.out).mem
     have HSb0 : Hid ((fun wz : World => wz.cell? ⟨gi, 0, none⟩ = some (.int .u16 a0) /\ wz.cell? ⟨gi, 1, none⟩ = some (.int .u16 a1) /\ wz.cell? ⟨gi, 2, none⟩ = some (.int .u16 a2) /\ wz.cell? ⟨g, 6, none⟩ = some (.pointer (some ⟨b, 0, none⟩))) yd) := HSd.out yd (Below.refl _ yd)
     have HSb : Hid _ := HSb0.out
     have ODyb : Hid _ := ODyd.out
     have ORyb : Hid _ := ORyd.out
     have HByb : Hid _ := HByd.out
     have kS := M.rplot_any b a0 a1 a2 hA0 hB0 hA1 hB1 yd HMm.out (by omega)
     refine wtk0 (is := [0, 1, 2, 3, 4, 5, 6, 7, 8, 9, 10, 11, 12]) ?_
     iterate 13
      refine wtk (v := ?_) rfl (by kernel_rfl) (by kernel_rfl) (by kernel_rfl) (fun c a w h => h) (Or.inl ⟨by rfl, ?_⟩) hHeld ?_
      rotate_left
      ·(intro w hSw; (try dsimp only at hSw); go_simp; try with_reducible rfl)
      simp only [Act.put, List.getElem_toArray, List.getElem_cons_zero, List.getElem_cons_succ, List.setIfInBounds_toArray, List.set_cons_zero, List.set_cons_succ]
     refine wtkE ?_
     refine wpAnyH_ready (rs := [13]) (by kernel_rfl) (by simp) ?_
     refine AllReadyH.cons rfl (fun K hK => ?_) AllReadyH.nil
     go_simp
     refine (kS).mono ?_
     rintro e ym ⟨rfl, hRD⟩
     dsimp only
     have HRD : Hid _ := hRD
     have hki : ym.heap[gi]? = yd.heap[gi]? := hRD.2.block gi (World.block_lt_of_cell? yd _ (HSb.out.1)) (fun f => by have h1 := HX0.out.fb gi f; have h2 := HGI.out; omega)
     have hkg : ym.heap[g]? = yd.heap[g]? := hRD.2.block g (World.block_lt_of_cell? yd _ (HSb.out.2.2.2)) (fun f => HX0.out.fv f)
     have HSm : Hid ((fun wz : World => wz.cell? ⟨gi, 0, none⟩ = some (.int .u16 a0) /\ wz.cell? ⟨gi, 1, none⟩ = some (.int .u16 a1) /\ wz.cell? ⟨gi, 2, none⟩ = some (.int .u16 a2) /\ wz.cell? ⟨g, 6, none⟩ = some (.pointer (some ⟨b, 0, none⟩))) ym) := ⟨(by show ym.cell? ⟨gi, 0, none⟩ = some (.int .u16 a0); rw [World.cell?_of_block (w := yd) (w' := ym) (a := ⟨gi, 0, none⟩) hki]; exact HSb.out.1), (by show ym.cell? ⟨gi, 1, none⟩ = some (.int .u16 a1); rw [World.cell?_of_block (w := yd) (w' := ym) (a := ⟨gi, 1, none⟩) hki]; exact HSb.out.2.1), (by show ym.cell? ⟨gi, 2, none⟩ = some (.int .u16 a2); rw [World.cell?_of_block (w := yd) (w' := ym) (a := ⟨gi, 2, none⟩) hki]; exact HSb.out.2.2.1), (by show ym.cell? ⟨g, 6, none⟩ = some (.pointer (some ⟨b, 0, none⟩)); rw [World.cell?_of_block (w := yd) (w' := ym) (a := ⟨g, 6, none⟩) hkg]; exact HSb.out.2.2.2)⟩
     clear hRD hki hkg
     refine hK.out _ _ HSm.out (fun hHeld => ?_)
     clear hK K
     try simp only [Act.put, List.getElem_toArray, List.getElem_cons_zero, List.getElem_cons_succ, List.setIfInBounds_toArray, List.set_cons_zero, List.set_cons_succ]
     refine wpAnyH_done (by kernel_rfl) ?_ _
     clear hHeld
     have HRA : Hid (RA W ym g b kv F { v with m := M.plt v.m a0 a1 a2 } (.slice pd rn cd1) (.slice pr nr cr1) (v.D.take rn) v.R) := RA.mem HX0.out HByb.out (S.own_sl S.hU (t := 23) (B := W.heap.size) (by rw [HTL.out]; exact ODyb.out)) (S.own_sl S.hK (t := 101) (B := W.heap.size) (by rw [HN.out.2.1]; exact ORyb.out)) (fun k e => e.elim (fun e => World.ownsRow.lt ODyb.out k e) (fun e => World.ownsRow.lt ORyb.out k e)) HRD.out
     clear HRD HSm HSb HSd HSb0 ODyb ORyb HByb HMm
     obtain ⟨u4, u5, u1, f4, g4, f5, g5, f1, g1, hY⟩ := HRA.out.fin (nx) (by rw [HTL.out]; have := HX0.out.dl; rw [HN.out.1] at this; have := HRN.out; omega) HX0.out.rl HPC.out HCD.out HCR.out
     have HY : Hid _ := hY
     have hSt : ({ (dn 60 x (beh v.pc 60) v).v with pc := (dn 60 x (beh v.pc 60) v).on } : VS) = { { v with m := M.plt v.m a0 a1 a2 } with D := v.D.take rn, R := v.R, pc := nx } := by
      have hpl : ({ (dn 60 x (beh v.pc 60) v).v with pc := (dn 60 x (beh v.pc 60) v).on } : VS) = _ := st_plain 60 (by decide) (by rfl) x (beh v.pc 60) v hf
      rw [hpl, <- HNX.out]
      have hrn' : v.D.length - tkN 60 = rn := by rw [HN.out.1, HN.out.2.2]; exact HRN.out
      have hII := HII.out
      simp only [tkN] at hrn'
      simp [P.nD, P.nR, P.nM, P.rw_, P.rest, P.xAt, P.tops, hrn', hII, P.putN, P.retN, P.memN, C.isUn, C.isBi]
     have HST : Hid _ := hSt
     clear hSt
     clear hY
     go_wp2
     go_ret
     refine ⟨rfl, ?_⟩
     rw [HST.out]
     exact HY.out
   ·as_aux_lemma =>
     have HOP : Hid (op = 62) := hop
     clear hop
     obtain rfl := HOP.out
     obtain ⟨a0, a1, hi⟩ : ∃ a0 a1, inn = [a0, a1] := by
      have h1 := HIL.out
      have h2 := HN.out.2.2
      simp only [tkN] at h2
      rw [<- h2] at h1
      match inn, h1 with
      | [c0, c1], _ => exact ⟨c0, c1, rfl⟩
     subst hi
     obtain rfl : 2 = tk := by have := HIL.out; simpa using this
     obtain ⟨gi, cq, hci, ce0⟩ := HRC.out.in 0 a0 rfl
     simp at hci
     obtain ⟨rfl, rfl⟩ := hci
     obtain ⟨gi1, cq1, hci1, ce1⟩ := HRC.out.in 1 a1 rfl
     simp at hci1
     obtain ⟨rfl, rfl⟩ := hci1
     obtain ⟨hA0, hB0⟩ := HCI.out a0 (by simp)
     obtain ⟨hA1, hB1⟩ := HCI.out a1 (by simp)
     have HGI : Hid (W.heap.size <= gi) := (World.ownsRow.lt HRC.out.i gi rfl).1
     have c6 : y6.cell? ⟨g, 6, none⟩ = some (.pointer (some ⟨b, 0, none⟩)) := (HX0.out.below HRC.out.bel).c6
     have HS : Hid (∀ X : World, Below y6.heap.size y6 X -> (fun wz : World => wz.cell? ⟨gi, 0, none⟩ = some (.int .u16 a0) /\ wz.cell? ⟨gi, 1, none⟩ = some (.int .u16 a1) /\ wz.cell? ⟨g, 6, none⟩ = some (.pointer (some ⟨b, 0, none⟩))) X) := fun X hX => ⟨(by show X.cell? ⟨gi, 0, none⟩ = some (.int .u16 a0); rw [hX.cell (World.block_lt_of_cell? y6 _ ce0)]; exact ce0), (by show X.cell? ⟨gi, 1, none⟩ = some (.int .u16 a1); rw [hX.cell (World.block_lt_of_cell? y6 _ ce1)]; exact ce1), (by show X.cell? ⟨g, 6, none⟩ = some (.pointer (some ⟨b, 0, none⟩)); rw [hX.cell (World.block_lt_of_cell? y6 _ c6)]; exact c6)⟩
     have HBd : Hid (Below y6.heap.size y6 y6.drew) := ⟨rfl, rfl, rfl, Nat.le_refl _, fun _ _ => rfl⟩
     clear ce0 ce1 c6
     go_upto_region 87 with fail
     refine wp_region_held_drew (S := (fun wz : World => wz.cell? ⟨gi, 0, none⟩ = some (.int .u16 a0) /\ wz.cell? ⟨gi, 1, none⟩ = some (.int .u16 a1) /\ wz.cell? ⟨g, 6, none⟩ = some (.pointer (some ⟨b, 0, none⟩)))) (by kernel_rfl) (HS.out _ HBd.out) (fun hHeld => ?_)
     generalize y6.drew = yd at *
     have ODyd : Hid (yd.ownsRow W.heap.size 23 1 (.slice pd rn cd1) rn (S.en S.eU (v.D.take rn))) := own_nw ODy6.out HBd.out
     have ORyd : Hid (yd.ownsRow W.heap.size 101 2 (.slice pr nr cr1) nr (S.en S.eK v.R)) := own_nw ORy6.out HBd.out
     have HByd : Hid (Below W.heap.size W yd) := HBy6.out.trans (HBd.out.mono HBy6.out.size)
     have HSd : Hid (∀ X : World, Below yd.heap.size yd X -> (fun wz : World => wz.cell? ⟨gi, 0, none⟩ = some (.int .u16 a0) /\ wz.cell? ⟨gi, 1, none⟩ = some (.int .u16 a1) /\ wz.cell? ⟨g, 6, none⟩ = some (.pointer (some ⟨b, 0, none⟩))) X) := fun X hX => HS.out X (HBd.out.trans (hX.mono HBd.out.size))
     clear HS HDL HRL HBK ODy6 ORy6 HBy6 HRC HBd
     have HMm : Hid (M.IsR yd F b v.m) := (HX0.out.below HByd.out).mem
     have HSb0 : Hid ((fun wz : World => wz.cell? ⟨gi, 0, none⟩ = some (.int .u16 a0) /\ wz.cell? ⟨gi, 1, none⟩ = some (.int .u16 a1) /\ wz.cell? ⟨g, 6, none⟩ = some (.pointer (some ⟨b, 0, none⟩))) yd) := HSd.out yd (Below.refl _ yd)
     have HSb : Hid _ := HSb0.out
     have ODyb : Hid _ := ODyd.out
     have ORyb : Hid _ := ORyd.out
     have HByb : Hid _ := HByd.out
     have wb8 : IntKind.u8.wrap a1 = M.bt (M.b8 a1) := by rw [M.u8_wrap, M.bt_b8]
     have kS := M.rplay_any b a0 hA0 hB0 (M.b8 a1) yd HMm.out (by omega)
     refine wtk0 (is := [0, 1, 2, 3, 4, 5, 6, 7, 8, 9, 10]) ?_
     iterate 11
      refine wtk (v := ?_) rfl (by kernel_rfl) (by kernel_rfl) (by kernel_rfl) (fun c a w h => h) (Or.inl ⟨by rfl, ?_⟩) hHeld ?_
      rotate_left
      ·(intro w hSw; (try dsimp only at hSw); go_simp; try with_reducible rfl)
      simp only [Act.put, List.getElem_toArray, List.getElem_cons_zero, List.getElem_cons_succ, List.setIfInBounds_toArray, List.set_cons_zero, List.set_cons_succ]
     refine wtkE ?_
     refine wpAnyH_ready (rs := [11]) (by kernel_rfl) (by simp) ?_
     refine AllReadyH.cons rfl (fun K hK => ?_) AllReadyH.nil
     go_simp
     refine (kS).mono ?_
     rintro e ym ⟨rfl, hRD⟩
     dsimp only
     have HRD : Hid _ := hRD
     have hki : ym.heap[gi]? = yd.heap[gi]? := hRD.2.block gi (World.block_lt_of_cell? yd _ (HSb.out.1)) (fun f => by have h1 := HX0.out.fb gi f; have h2 := HGI.out; omega)
     have hkg : ym.heap[g]? = yd.heap[g]? := hRD.2.block g (World.block_lt_of_cell? yd _ (HSb.out.2.2)) (fun f => HX0.out.fv f)
     have HSm : Hid ((fun wz : World => wz.cell? ⟨gi, 0, none⟩ = some (.int .u16 a0) /\ wz.cell? ⟨gi, 1, none⟩ = some (.int .u16 a1) /\ wz.cell? ⟨g, 6, none⟩ = some (.pointer (some ⟨b, 0, none⟩))) ym) := ⟨(by show ym.cell? ⟨gi, 0, none⟩ = some (.int .u16 a0); rw [World.cell?_of_block (w := yd) (w' := ym) (a := ⟨gi, 0, none⟩) hki]; exact HSb.out.1), (by show ym.cell? ⟨gi, 1, none⟩ = some (.int .u16 a1); rw [World.cell?_of_block (w := yd) (w' := ym) (a := ⟨gi, 1, none⟩) hki]; exact HSb.out.2.1), (by show ym.cell? ⟨g, 6, none⟩ = some (.pointer (some ⟨b, 0, none⟩)); rw [World.cell?_of_block (w := yd) (w' := ym) (a := ⟨g, 6, none⟩) hkg]; exact HSb.out.2.2)⟩
     clear hRD hki hkg
     refine hK.out _ _ HSm.out (fun hHeld => ?_)
     clear hK K
     try simp only [Act.put, List.getElem_toArray, List.getElem_cons_zero, List.getElem_cons_succ, List.setIfInBounds_toArray, List.set_cons_zero, List.set_cons_succ]
     refine wpAnyH_done (by kernel_rfl) ?_ _
     clear hHeld
     have HRA : Hid (RA W ym g b kv F { v with m := M.st (M.sc v.m 65284 a0) 65286 (M.b8 a1) } (.slice pd rn cd1) (.slice pr nr cr1) (v.D.take rn) v.R) := RA.mem HX0.out HByb.out (S.own_sl S.hU (t := 23) (B := W.heap.size) (by rw [HTL.out]; exact ODyb.out)) (S.own_sl S.hK (t := 101) (B := W.heap.size) (by rw [HN.out.2.1]; exact ORyb.out)) (fun k e => e.elim (fun e => World.ownsRow.lt ODyb.out k e) (fun e => World.ownsRow.lt ORyb.out k e)) HRD.out
     clear HRD HSm HSb HSd HSb0 ODyb ORyb HByb HMm
     obtain ⟨u4, u5, u1, f4, g4, f5, g5, f1, g1, hY⟩ := HRA.out.fin (nx) (by rw [HTL.out]; have := HX0.out.dl; rw [HN.out.1] at this; have := HRN.out; omega) HX0.out.rl HPC.out HCD.out HCR.out
     have HY : Hid _ := hY
     have hSt : ({ (dn 62 x (beh v.pc 62) v).v with pc := (dn 62 x (beh v.pc 62) v).on } : VS) = { { v with m := M.st (M.sc v.m 65284 a0) 65286 (M.b8 a1) } with D := v.D.take rn, R := v.R, pc := nx } := by
      have hpl : ({ (dn 62 x (beh v.pc 62) v).v with pc := (dn 62 x (beh v.pc 62) v).on } : VS) = _ := st_plain 62 (by decide) (by rfl) x (beh v.pc 62) v hf
      rw [hpl, <- HNX.out]
      have hrn' : v.D.length - tkN 62 = rn := by rw [HN.out.1, HN.out.2.2]; exact HRN.out
      have hII := HII.out
      simp only [tkN] at hrn'
      simp [P.nD, P.nR, P.nM, P.rw_, P.rest, P.xAt, P.tops, hrn', hII, P.putN, P.retN, P.memN, C.isUn, C.isBi]
     have HST : Hid _ := hSt
     clear hSt
     clear hY
     go_wp2
     go_ret
     refine ⟨rfl, ?_⟩
     rw [HST.out]
     exact HY.out
 
set_option maxHeartbeats 40000000
set_option maxRecDepth 100000
theorem rst_stop (g b : Nat) (kv dv rv : Value) (F : Nat -> Prop) (v : VS) (hst : v.st ≠ 1) (W : World) (h : RX W g b kv dv rv F v) :
  Calls Tryz.prog 38 #[.pointer (some ⟨g, 0, none⟩)] W fun e W' => e = .returned (.bool false) /\ RY W W' g b kv F (v) := by
 have c2 := h.c2
 have e1 : (v.st != 1) = true := by simp [hst]
 have HO : Hid (∀ k, (dv.ownBlock = some k \/ rv.ownBlock = some k) -> W.heap.size <= k \/ ∃ u, (W.cell? ⟨g, 4, none⟩ = some u \/ W.cell? ⟨g, 5, none⟩ = some u) /\ u.ownBlock = some k) := fun k e => .inr (e.elim (fun e => ⟨dv, .inl h.c4, e⟩) (fun e => ⟨rv, .inr h.c5, e⟩))
 have H : Hid _ := h
 clear h
 go_enter Tryz.func38, Tryz.ntmps38
 go_wp2
 go_ret
 exact ⟨rfl, ⟨⟨_, _, F, fun k q => .inl q, HO.out, H.out⟩, S.Tc.refl _ _⟩⟩
theorem rst_lk (g b : Nat) (kv dv rv : Value) (F : Nat -> Prop) (v : VS) (f : Int) (hst : v.st = 1) (hlk : (look v).f = f) (hf : f ≠ 0) (W : World) (h : RX W g b kv dv rv F v) :
  Calls Tryz.prog 38 #[.pointer (some ⟨g, 0, none⟩)] W fun e W' => e = .returned (.bool false) /\ RY W W' g b kv F (fail f v) := by
 have c2 := h.c2
 rw [hst] at c2
 have kL := rlook_any g b kv _ _ F v W h
 rw [look_no v (by rw [hlk]; exact hf), hlk] at kL
 have e0 : (f == 0) = false := by simp [hf]
 have e1 : (f != 0) = true := by simp [hf]
 have HO : Hid (∀ k, (dv.ownBlock = some k \/ rv.ownBlock = some k) -> W.heap.size <= k \/ ∃ u, (W.cell? ⟨g, 4, none⟩ = some u \/ W.cell? ⟨g, 5, none⟩ = some u) /\ u.ownBlock = some k) := fun k e => .inr (e.elim (fun e => ⟨dv, .inl h.c4, e⟩) (fun e => ⟨rv, .inr h.c5, e⟩))
 have H : Hid _ := h
 clear h hlk
 go_enter Tryz.func38, Tryz.ntmps38
 go_wp2_with fail
 refine kL.mono ?_
 rintro e w1 ⟨rfl, hbw⟩
 have hx1 := H.out.below hbw
 clear kL c2
 have a1 := hx1.num 2 (.int .i64 3) { v with st := 3 } rfl rfl rfl rfl rfl ⟨hx1.wf.pc0, hx1.wf.pc1, hx1.wf.d, hx1.wf.r⟩
 have a2 := a1.num 3 (.int .i64 f) { v with st := 3, fa := f } rfl rfl rfl rfl rfl ⟨hx1.wf.pc0, hx1.wf.pc1, hx1.wf.d, hx1.wf.r⟩
 have f2 := hx1.c2
 have g2 := S.frozen_of w1 g 2 _ _ hx1.blk
 have f3 := a1.c3
 have g3 := S.frozen_of _ g 3 _ _ a1.blk
 have HA : Hid _ := a2
 have HT : Hid (S.Tc (TX8 g F) W ((w1.setCell ⟨g, 2, none⟩ (.int .i64 3)).setCell ⟨g, 3, none⟩ (.int .i64 f))) := ((S.Tc.of_below (F := TX8 g F) hbw fun i h1 h2 => by omega).setCell g 2 (.inl rfl) _).setCell g 3 (.inl rfl) _
 clear a1 a2 hx1 hbw
 go_wp2
 go_ret
 exact ⟨rfl, ⟨⟨_, _, F, fun k q => .inl q, HO.out, HA.out⟩, HT.out⟩⟩
theorem rst_fa (g b : Nat) (kv dv rv : Value) (F : Nat -> Prop) (v : VS) (op : Nat) (x f : Int) (o1 : 1 <= op) (o2 : op <= 63) (hst : v.st = 1) (hlk : look v = ⟨op, x, 0⟩) (hrf : rfa op v.D v.R = f) (hf : f ≠ 0) (W : World) (h : RX W g b kv dv rv F v) :
  Calls Tryz.prog 38 #[.pointer (some ⟨g, 0, none⟩)] W fun e W' => e = .returned (.bool false) /\ RY W W' g b kv F (fail f v) := by
 have c2 := h.c2
 rw [hst] at c2
 have kL := rlook_any g b kv _ _ F v W h
 rw [hlk] at kL
 have e0 : (f == 0) = false := by simp [hf]
 have e1 : (f != 0) = true := by simp [hf]
 have HO : Hid (∀ k, (dv.ownBlock = some k \/ rv.ownBlock = some k) -> W.heap.size <= k \/ ∃ u, (W.cell? ⟨g, 4, none⟩ = some u \/ W.cell? ⟨g, 5, none⟩ = some u) /\ u.ownBlock = some k) := fun k e => .inr (e.elim (fun e => ⟨dv, .inl h.c4, e⟩) (fun e => ⟨rv, .inr h.c5, e⟩))
 have H : Hid _ := h
 have HR : Hid _ := hrf
 clear h hlk hrf
 go_enter Tryz.func38, Tryz.ntmps38
 go_wp2_with fail
 refine kL.mono ?_
 rintro e w0 ⟨rfl, hb0⟩
 have kF := faults_any g b kv _ _ F v op o1 o2 w0 (H.out.below hb0)
 rw [HR.out] at kF
 clear kL c2
 go_wp2_with fail
 refine kF.mono ?_
 rintro e w1 ⟨rfl, hb1⟩
 have hbw : Below W.heap.size W w1 := hb0.trans (hb1.mono hb0.size)
 have hx1 := H.out.below hbw
 clear kF hb0 hb1
 have a1 := hx1.num 2 (.int .i64 3) { v with st := 3 } rfl rfl rfl rfl rfl ⟨hx1.wf.pc0, hx1.wf.pc1, hx1.wf.d, hx1.wf.r⟩
 have a2 := a1.num 3 (.int .i64 f) { v with st := 3, fa := f } rfl rfl rfl rfl rfl ⟨hx1.wf.pc0, hx1.wf.pc1, hx1.wf.d, hx1.wf.r⟩
 have f2 := hx1.c2
 have g2 := S.frozen_of w1 g 2 _ _ hx1.blk
 have f3 := a1.c3
 have g3 := S.frozen_of _ g 3 _ _ a1.blk
 have HA : Hid _ := a2
 have HT : Hid (S.Tc (TX8 g F) W ((w1.setCell ⟨g, 2, none⟩ (.int .i64 3)).setCell ⟨g, 3, none⟩ (.int .i64 f))) := ((S.Tc.of_below (F := TX8 g F) hbw fun i h1 h2 => by omega).setCell g 2 (.inl rfl) _).setCell g 3 (.inl rfl) _
 clear a1 a2 hx1 hbw
 go_wp2
 go_ret
 exact ⟨rfl, ⟨⟨_, _, F, fun k q => .inl q, HO.out, HA.out⟩, HT.out⟩⟩
end Go.Proofs.YteldjmecomngeaaGreat.V
