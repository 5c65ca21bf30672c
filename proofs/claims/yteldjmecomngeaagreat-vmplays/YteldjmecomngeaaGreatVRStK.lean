import Derived.Test.YteldjmecomngeaaGreatVRFa
import Derived.Test.YteldjmecomngeaaGreatVRTwo
import Derived.Test.YteldjmecomngeaaGreatVLook
import Derived.Deep.SlicePairs
namespace Go.Proofs.YteldjmecomngeaaGreat.V
open Go.RowKit
open Go.Proofs
set_option linter.unusedVariables false
set_option linter.unusedSimpArgs false
set_option maxHeartbeats 40000000
set_option maxRecDepth 100000
theorem elU : Tryz.prog.underlying 43 = some (.slice (Tryz.prog.elem 43)) := by kernel_rfl
theorem szU (W : World) : (sizeOf (Tryz.prog.elem 43)).run Tryz.prog W = .ok 1 W := by
 have e : Tryz.prog.elem 43 = 23 := by kernel_rfl
 rw [e]
 simp [sizeOf]
 rfl
theorem su_from (W : World) (p : Option Addr) (n cap l : Nat) (z : Int) (hz : z = (l : Int)) (hc : l <= n) : (Instr.sliceAt 43 (.slice p n cap) (some (.int .i64 z)) none none).run Tryz.prog W = .ok (.slice (if cap = l then p else p.map (·.add l)) (n - l) (cap - l)) W := by
 subst hz
 rw [run_sliceAt_slice W 43 _ _ _ _ elU, run_slice_l W 43 p n cap elU .i64 (l : Int) (by omega) (by omega), szU]
 simp [Result.andThen, sliced]
theorem su_to (W : World) (p : Option Addr) (n cap h : Nat) (z : Int) (hz : z = (h : Int)) (hc : h <= cap) : (Instr.sliceAt 43 (.slice p n cap) none (some (.int .i64 z)) none).run Tryz.prog W = .ok (.slice p h cap) W := by
 subst hz
 have e0 : Option.map (fun x : Addr => x.add 0) p = p := by cases p <;> simp [Addr.add]
 rw [run_sliceAt_slice W 43 _ _ _ _ elU, run_slice_h W 43 p n cap elU .i64 (h : Int) (by omega) (by omega), szU]
 simp [Result.andThen, sliced, e0]
theorem elC : Tryz.prog.underlying 44 = some (.slice (Tryz.prog.elem 44)) := by kernel_rfl
theorem szC (W : World) : (sizeOf (Tryz.prog.elem 44)).run Tryz.prog W = .ok 2 W := by
 have e : Tryz.prog.elem 44 = 101 := by kernel_rfl
 rw [e]
 simp [sizeOf]
 rfl
theorem sk_to (W : World) (p : Option Addr) (n cap h : Nat) (z : Int) (hz : z = (h : Int)) (hc : h <= cap) : (Instr.sliceAt 44 (.slice p n cap) none (some (.int .i64 z)) none).run Tryz.prog W = .ok (.slice p h cap) W := by
 subst hz
 have e0 : Option.map (fun x : Addr => x.add 0) p = p := by cases p <;> simp [Addr.add]
 rw [run_sliceAt_slice W 44 _ _ _ _ elC, run_slice_h W 44 p n cap elC .i64 (h : Int) (by omega) (by omega), szC]
 simp [Result.andThen, sliced, e0]
theorem cs_to {W : World} {p : Option Addr} {cap : Nat} {l : List Int} (h : S.Ls S.eU 1 W (.slice p l.length cap) l) (k : Nat) (hk : k <= l.length) : S.Cs W (.slice p k cap) 1 k (S.en S.eU (l.take k)) := by
 rcases h with ⟨e, rfl⟩ | ⟨x, c, e, _, hs⟩
 ·cases e
  obtain rfl : k = 0 := by simpa using hk
  exact .inl ⟨rfl, rfl, rfl⟩
 ·cases e
  exact .inr ⟨x, cap, rfl, by rw [S.en_len S.hU, List.length_take]; congr 1; omega, fun j u hj => (hs.take k).news S.hU (by decide) j u hj, S.oneU _⟩
theorem cs_from {W : World} {p : Option Addr} {cap : Nat} {l : List Int} (h : S.Ls S.eU 1 W (.slice p l.length cap) l) (k : Nat) (hk : k <= l.length) : S.Cs W (.slice (if cap = k then p else p.map (·.add k)) (l.length - k) (cap - k)) 1 (l.length - k) (S.en S.eU (l.drop k)) := by
 rcases h with ⟨e, rfl⟩ | ⟨x, c, e, hc, hs⟩
 ·cases e
  obtain rfl : k = 0 := by simpa using hk
  exact .inl ⟨rfl, rfl, rfl⟩
 ·cases e
  by_cases e : cap = k
  ·rw [if_pos e]
   refine .inr ⟨x, _, rfl, ?_, ?_, S.oneU _⟩
   ·rw [S.en_len S.hU, List.length_drop]
   ·intro j u hj
    rw [List.drop_of_length_le (by omega)] at hj
    simp [S.en] at hj
  ·rw [if_neg e]
   refine .inr ⟨x.add k, _, rfl, ?_, ?_, S.oneU _⟩
   ·rw [S.en_len S.hU, List.length_drop]
   ·intro j u hj
    rw [Deep.add_add]; refine hs.news S.hU (by decide) (k + j) u ?_; rw [<- hj]; have := S.en_drop S.hU l k; rw [Nat.mul_one] at this; rw [<- this, List.getElem?_drop]
structure RC (W w : World) (iv dv rv : Value) (inn D : List Int) (R : List (Int × Int)) : Prop where
 bel : Below W.heap.size W w
 i : w.ownsRow W.heap.size 23 1 iv inn.length (S.en S.eU inn)
 d : w.ownsRow W.heap.size 23 1 dv D.length (S.en S.eU D)
 r : w.ownsRow W.heap.size 101 2 rv R.length (S.en S.eK R)
theorem own_nw {w w' : World} {B : Nat} {e : TypeId} {size : Nat} {v : Value} {n : Nat} {xs : List Value} (h : w.ownsRow B e size v n xs) (b : Below w.heap.size w w') : w'.ownsRow B e size v n xs := S.own_kept h fun g _ hg => b.block g hg
theorem own_fm {w : World} {B : Nat} {e : TypeId} {size : Nat} {v : Value} {n : Nat} {xs : List Value} (h : w.ownsRow B e size v n xs) : ∃ p cap, v = .slice p n cap := by
 rcases h.2 with ⟨h, e⟩ | ⟨g, cap, cur, h1, _⟩
 ·exact ⟨none, 0, by rw [h, e]⟩
 ·exact ⟨_, cap, h1⟩
theorem own_ty {w w' : World} {B B' : Nat} {e e' : TypeId} {s s' : Nat} {u x x' : Value} {n n' : Nat} {xs ys : List Value} (h : w.ownsRow B e s u n xs) (k : w.ownsRow B' e' s' x n' ys) (g : S.Grew w w' x x') (hne : e ≠ e') : w'.ownsRow B e s u n xs := by
 refine S.own_kept h fun i hi hl => g.block i hl fun c => ?_
 rcases h.2 with ⟨a, _⟩ | ⟨g1, c1, cu1, a, _, h1, _⟩
 ·rw [a] at hi; simp [Value.ownBlock] at hi
 ·rcases k.2 with ⟨a2, _⟩ | ⟨g2, c2, cu2, a2, _, h2, _⟩
  ·rw [a2] at c; simp [Value.ownBlock] at c
  ·rw [a] at hi; rw [a2] at c
   simp [Value.ownBlock] at hi c
   subst hi; subst c; rw [h1] at h2
   simp at h2
   exact hne h2.2
theorem RC.in {W w : World} {iv dv rv : Value} {inn D : List Int} {R : List (Int × Int)} (h : RC W w iv dv rv inn D R) (j : Nat) (x : Int) (hj : inn[j]? = some x) : ∃ gi ci, iv = .slice (some ⟨gi, 0, none⟩) inn.length ci /\ w.cell? ⟨gi, j, none⟩ = some (.int .u16 x) := by
 have hl : j < inn.length := (List.getElem?_eq_some_iff.1 hj).1
 obtain ⟨gi, ci, e⟩ := S.own_pos h.i (by omega)
 refine ⟨gi, ci, e, ?_⟩
 have := World.ownsRow.cells h.i (g := gi) (by rw [e]; rfl) j (.int .u16 x) (by have := S.en_get S.hU inn j 0 x hj (by decide); rw [Nat.mul_one, Nat.add_zero] at this; exact this)
 rw [Addr.add_lit, Nat.zero_add] at this
 exact this
theorem RC.top {W w : World} {iv dv rv : Value} {inn D : List Int} {R : List (Int × Int)} (h : RC W w iv dv rv inn D R) (j : Nat) (x : Int × Int) (hj : R[j]? = some x) : ∃ gr cr, rv = .slice (some ⟨gr, 0, none⟩) R.length cr /\ w.cell? ⟨gr, j * 2, none⟩ = some (.int .i64 x.1) /\ w.cell? ⟨gr, j * 2 + 1, none⟩ = some (.int .u16 x.2) := by
 have hl : j < R.length := (List.getElem?_eq_some_iff.1 hj).1
 obtain ⟨gr, cr, e⟩ := S.own_pos h.r (by omega)
 refine ⟨gr, cr, e, ?_, ?_⟩
 ·have := World.ownsRow.cells h.r (g := gr) (by rw [e]; rfl) (j * 2 + 0) (.int .i64 x.1) (by rw [S.en_get S.hK R j 0 x hj (by decide)]; rfl)
  rw [Addr.add_lit, Nat.zero_add] at this; exact this
 ·have := World.ownsRow.cells h.r (g := gr) (by rw [e]; rfl) (j * 2 + 1) (.int .u16 x.2) (by rw [S.en_get S.hK R j 1 x hj (by decide)]; rfl)
  rw [Addr.add_lit, Nat.zero_add] at this; exact this
structure RA (W y : World) (g b : Nat) (kv : Value) (F : Nat -> Prop) (vz : VS) (d r : Value) (D : List Int) (R : List (Int × Int)) : Prop where
 x : ∃ dv rv Fz, (∀ k, Fz k -> F k \/ W.heap.size <= k) /\ RX y g b kv dv rv Fz vz /\ ∀ k, (d.ownBlock = some k \/ r.ownBlock = some k) -> k < y.heap.size /\ k ≠ g /\ ¬ Fz k
 o : ∀ k, (d.ownBlock = some k \/ r.ownBlock = some k) -> W.heap.size <= k
 d : S.Ls S.eU 1 y d D
 r : S.Ls S.eK 2 y r R
 t : S.Tc (TX8 g F) W y
theorem RA.of {W y : World} {g b : Nat} {kv dv rv : Value} {F : Nat -> Prop} {v : VS} {d r : Value} {D : List Int} {R : List (Int × Int)} (h : RX W g b kv dv rv F v) (bel : Below W.heap.size W y) (hd : S.Ls S.eU 1 y d D) (hr : S.Ls S.eK 2 y r R) (hb : ∀ k, (d.ownBlock = some k \/ r.ownBlock = some k) -> W.heap.size <= k /\ k < y.heap.size) : RA W y g b kv F v d r D R := by
 have hl := h.lt
 refine ⟨⟨dv, rv, F, fun k f => .inl f, h.below bel, fun k e => ?_⟩, fun k e => (hb k e).1, hd, hr, S.Tc.of_below bel fun i h1 h2 => by omega⟩
 obtain ⟨a, c⟩ := hb k e
 exact ⟨c, by omega, fun f => by have := h.fb k f; omega⟩
theorem RA.mem {W y y' : World} {g b : Nat} {kv dv rv : Value} {F : Nat -> Prop} {v : VS} {d r : Value} {D : List Int} {R : List (Int × Int)} {m : M.MS} (h : RX W g b kv dv rv F v) (bel : Below W.heap.size W y) (hd : S.Ls S.eU 1 y d D) (hr : S.Ls S.eK 2 y r R) (hb : ∀ k, (d.ownBlock = some k \/ r.ownBlock = some k) -> W.heap.size <= k /\ k < y.heap.size) (k : M.RD y y' F b m) : RA W y' g b kv F { v with m := m } d r D R := by
 have hl := h.lt
 have kt : S.Tc F y y' := ⟨k.2.os, k.2.tape, k.2.output, k.2.size, k.2.block⟩
 have hz := bel.size
 have nF : ∀ i, (d.ownBlock = some i \/ r.ownBlock = some i) -> ¬ F i := fun i e f => by have := h.fb i f; have := (hb i e).1; omega
 refine ⟨⟨dv, rv, M.gr F y y', ?_, (h.below bel).goes k, fun i e => ?_⟩, fun k e => (hb k e).1, ls_tc hd kt fun i e => nF i (.inl e), ls_tc hr kt fun i e => nF i (.inr e), (S.Tc.of_below (F := TX8 g F) bel fun i h1 h2 => by omega).trans kt (fun _ f => f) fun i _ f => .inr f⟩
 ·rintro i (f | ⟨f, _⟩)
  ·exact .inl f
  ·exact .inr (by omega)
 ·obtain ⟨a, c⟩ := hb i e
  refine ⟨Nat.lt_of_lt_of_le c k.2.size, by omega, ?_⟩; rintro (f | ⟨f, _⟩)
  ·exact nF i e f
  ·omega
theorem RA.st2 {W y : World} {g b : Nat} {kv : Value} {F : Nat -> Prop} {v : VS} {d r : Value} {D : List Int} {R : List (Int × Int)} (h : RA W y g b kv F v d r D R) : RA W (y.setCell ⟨g, 2, none⟩ (.int .i64 2)) g b kv F { v with st := 2 } d r D R := by
 obtain ⟨dv, rv, Fz, h1, h2, h3⟩ := h.x
 have kt : S.Tc (fun k => k = g) y (y.setCell ⟨g, 2, none⟩ (.int .i64 2)) := (S.Tc.refl (fun k => k = g) y).setCell g 2 rfl _
 refine ⟨⟨dv, rv, Fz, h1, h2.num 2 _ { v with st := 2 } rfl rfl rfl rfl rfl ⟨h2.wf.pc0, h2.wf.pc1, h2.wf.d, h2.wf.r⟩, fun k e => by rw [S.setCell_size]; exact h3 k e⟩, h.o, ls_tc h.d kt fun k e c => (h3 k (.inl e)).2.1 c, ls_tc h.r kt fun k e c => (h3 k (.inr e)).2.1 c, h.t.setCell g 2 (.inl rfl) _⟩
theorem RA.c2 {W y : World} {g b : Nat} {kv : Value} {F : Nat -> Prop} {v : VS} {d r : Value} {D : List Int} {R : List (Int × Int)} (h : RA W y g b kv F v d r D R) : ∃ u, y.cell? ⟨g, 2, none⟩ = some u /\ y.frozen? ⟨g, 2, none⟩ = false := by
 obtain ⟨dv, rv, Fz, h1, h2, h3⟩ := h.x
 exact ⟨_, h2.c2, S.frozen_of y g 2 _ _ h2.blk⟩
theorem RA.fin {W y : World} {g b : Nat} {kv : Value} {F : Nat -> Prop} {v : VS} {d r : Value} {D : List Int} {R : List (Int × Int)} (h : RA W y g b kv F v d r D R) (pc : Int) (dl : D.length <= 256) (rl : R.length <= 128) (hpc : C.C pc) (hD : ∀ x ∈ D, C.C x) (hR : ∀ q ∈ R, C.C q.2) :
  ∃ u4 u5 u1, y.cell? ⟨g, 4, none⟩ = some u4 /\ y.frozen? ⟨g, 4, none⟩ = false /\ (y.setCell ⟨g, 4, none⟩ d).cell? ⟨g, 5, none⟩ = some u5 /\ (y.setCell ⟨g, 4, none⟩ d).frozen? ⟨g, 5, none⟩ = false /\ ((y.setCell ⟨g, 4, none⟩ d).setCell ⟨g, 5, none⟩ r).cell? ⟨g, 1, none⟩ = some u1 /\ ((y.setCell ⟨g, 4, none⟩ d).setCell ⟨g, 5, none⟩ r).frozen? ⟨g, 1, none⟩ = false /\
   RY W (((y.setCell ⟨g, 4, none⟩ d).setCell ⟨g, 5, none⟩ r).setCell ⟨g, 1, none⟩ (.int .u16 pc)) g b kv F { v with D := D, R := R, pc := pc } := by
 obtain ⟨dv, rv, Fz, h1, h2, h3⟩ := h.x
 obtain ⟨a1, a2, a3⟩ := h2.fin d r D R pc h.d h.r h3 dl rl hpc hD hR
 exact ⟨_, _, _, h2.c4, S.frozen_of y g 4 _ _ h2.blk, a1.c5, S.frozen_of _ g 5 _ _ a1.blk, a2.c1, S.frozen_of _ g 1 _ _ a2.blk, ⟨⟨_, _, _, h1, fun k e => .inl (h.o k e), a3⟩, ((h.t.setCell g 4 (.inl rfl) _).setCell g 5 (.inl rfl) _).setCell g 1 (.inl rfl) _⟩⟩
set_option maxRecDepth 100000
theorem kd_one {R : List (Int × Int)} {k : Int} (h : kdR false R 0 [k] = 0) : ∃ t s, R = t ++ [(k, s)] := by
 simp only [kdR] at h
 rcases last_cases R with e | ⟨t, ⟨k', s⟩, e⟩
 ·rw [e] at h; simp at h
 ·have h0 : ¬ R.length <= 0 := by rw [e]; simp
  have k0 : kAt R 0 = k' := by rw [e, kAt_0]
  simp [h0, k0] at h
  exact ⟨t, s, by rw [e, h]⟩
theorem rfa_7 {D : List Int} {R : List (Int × Int)} (h : rfa 7 D R = 0) : ∃ t l i, R = t ++ [(2, l)] ++ [(3, i)] := by
 have h := (rfa0 h).2.2.1
 simp only [ksO, lkL, kdR] at h
 rcases last_cases R with e | ⟨t, ⟨k, i⟩, e⟩
 ·rw [e] at h; simp [kdR] at h
 ·have h0 : ¬ R.length <= 0 := by rw [e]; simp
  have k0 : kAt R 0 = k := by rw [e, kAt_0]
  by_cases q : k = 3
  ·subst q
   rcases last_cases t with e2 | ⟨t2, ⟨k2, l⟩, e2⟩
   ·have h1 : R.length <= 1 := by rw [e, e2]; simp
    simp [h0, k0, h1, kdR] at h
   ·have h1 : ¬ R.length <= 1 := by rw [e, e2]; simp
    have k1 : kAt R 1 = k2 := by rw [e, e2, kAt_1]
    simp [h0, k0, h1, k1, kdR] at h
    exact ⟨t2, l, i, by rw [e, e2, h]⟩
  ·simp [h0, k0, q, kdR] at h
theorem rfa_8 {D : List Int} {R : List (Int × Int)} (h : rfa 8 D R = 0) : R = [] \/ ∃ t a, R = t ++ [(1, a)] := by
 have h := (rfa0 h).2.2.1
 by_cases q : 0 < R.length
 ·right
  have e : ksO 8 R = [1] := by unfold ksO; rw [if_pos ⟨rfl, q⟩]
  rw [e] at h; exact kd_one h
 ·left
  exact List.eq_nil_of_length_eq_zero (by omega)
theorem rfa_56 {D : List Int} {R : List (Int × Int)} (h : rfa 56 D R = 0) : ∃ t s, R = t ++ [(4, s)] := kd_one (rfa0 h).2.2.1
theorem rfa_57 {D : List Int} {R : List (Int × Int)} (h : rfa 57 D R = 0) : ∃ t s, R = t ++ [(4, s)] := kd_one (rfa0 h).2.2.1
theorem rfa_58 {D : List Int} {R : List (Int × Int)} (h : rfa 58 D R = 0) : ∃ t s, R = t ++ [(3, s)] := kd_one (rfa0 h).2.2.1
theorem rfa_59 {D : List Int} {R : List (Int × Int)} (h : rfa 59 D R = 0) : 3 <= R.length /\ ∃ s, R[R.length - 3]? = some (3, s) := by
 have h := (rfa0 h).2.2.1
 simp only [ksO, lkL, kdR] at h
 by_cases q : R.length <= 2
 ·simp [kdR, q] at h
 ·have hl : R.length - 3 < R.length := by omega
  refine ⟨by omega, (R[R.length - 3]'hl).2, ?_⟩; have e : R.length - 1 - 2 = R.length - 3 := by omega
  simp [kdR, q, kAt, e, List.getElem?_eq_getElem hl] at h
  rw [List.getElem?_eq_getElem hl, <- h]
theorem turn_is (v : VS) (t : List (Int × Int)) (l i : Int) (h : v.R = t ++ [(2, l)] ++ [(3, i)]) : turn v = if (i + 1) % 65536 ≠ l then ⟨true, 0, { v with R := t ++ [(2, l)] ++ [(3, (i + 1) % 65536)] }⟩ else ⟨false, 0, { v with R := t }⟩ := by
 unfold turn
 rw [h]
 simp
theorem ls_take {W : World} {p : Option Addr} {n cap : Nat} {l : List (Int × Int)} (h : S.Ls S.eK 2 W (.slice p n cap) l) (k : Nat) (hk : k <= l.length) : S.Ls S.eK 2 W (.slice p k cap) (l.take k) := by
 rcases h with ⟨e, rfl⟩ | ⟨x, c, e, hc, hs⟩
 ·cases e
  obtain rfl : k = 0 := by simpa using hk
  exact .inl ⟨rfl, rfl⟩
 ·cases e
  exact .inr ⟨x, _, by rw [List.length_take, Nat.min_eq_left hk], by rw [List.length_take]; omega, hs.take k⟩
theorem own_setc {w : World} {B : Nat} {e : TypeId} {s g n cap : Nat} {xs : List Value} (h : w.ownsRow B e s (.slice (some ⟨g, 0, none⟩) n cap) n xs) (i : Nat) (u : Value) : (w.setCell ⟨g, i, none⟩ u).ownsRow B e s (.slice (some ⟨g, 0, none⟩) n cap) n (xs.set i u) /\ w.frozen? ⟨g, i, none⟩ = false /\ (∀ k, k ≠ g -> (w.setCell ⟨g, i, none⟩ u).heap[k]? = w.heap[k]?) := by
 rcases h.2 with ⟨h', _⟩ | ⟨g', cap', cur, h', hb, hg, hnc, hcm, hcs, htake⟩
 ·simp at h'
 ·simp only [Value.slice.injEq, Option.some.injEq, Addr.mk.injEq, and_true, true_and] at h'
  obtain ⟨rfl, rfl⟩ := h'; have hg' : w.heap[g]? = some (.cells cur.toList.toArray e (0, 0)) := by simpa using hg
  refine ⟨⟨by rw [List.length_set]; exact h.1, .inr ⟨g, cap, (cur.toList.set i u).toArray, rfl, hb, S.setCell_heap w g i cur.toList e u hg', hnc, hcm, by simpa using hcs, ?_⟩⟩, S.frozen_of w g i cur.toList e hg', fun k hk => S.setCell_other w g i k u hk⟩; rw [<- htake]; exact List.take_set
theorem en_last (l : List (Int × Int)) (k a i : Int) : (S.en S.eK (l ++ [(k, a)])).set (l.length * 2 + 1) (.int .u16 i) = S.en S.eK (l ++ [(k, i)]) := by
 have e : (S.en S.eK l).length = l.length * 2 := S.en_len S.hK l
 rw [S.en_append, S.en_append, List.set_append_right _ _ (by omega), e]
 have : l.length * 2 + 1 - l.length * 2 = 1 := by omega
 rw [this]
 rfl
theorem ty_ne {w : World} {B B' : Nat} {e e' : TypeId} {s s' : Nat} {u x : Value} {n n' : Nat} {xs ys : List Value} (h : w.ownsRow B e s u n xs) (k : w.ownsRow B' e' s' x n' ys) (hne : e ≠ e') (i : Nat) (hi : u.ownBlock = some i) (c : x.ownBlock = some i) : False := by
 rcases h.2 with ⟨a, _⟩ | ⟨g1, c1, cu1, a, _, h1, _⟩
 ·rw [a] at hi; simp [Value.ownBlock] at hi
 ·rcases k.2 with ⟨a2, _⟩ | ⟨g2, c2, cu2, a2, _, h2, _⟩
  ·rw [a2] at c; simp [Value.ownBlock] at c
  ·rw [a] at hi; rw [a2] at c
   simp [Value.ownBlock] at hi c
   subst hi; subst c; rw [h1] at h2
   simp at h2
   exact hne h2.2
theorem own_cap {w : World} {B : Nat} {e : TypeId} {s : Nat} {p : Option Addr} {n m cap : Nat} {xs : List Value} (h : w.ownsRow B e s (.slice p n cap) m xs) : m <= cap := by
 rcases h.2 with ⟨a, b⟩ | ⟨g1, c1, cu1, a, _, h1, h2, _⟩
 ·omega
 ·simp at a
  omega
theorem rpad {w : World} {F : Nat -> Prop} {b : Nat} {m : M.MS} (hm : M.IsR w F b m) : w.cell? ⟨b, 4, none⟩ = some (.int .u8 m.pad) := by
 obtain ⟨hw, u, gr', gc, gs, tv, h⟩ := hm
 exact S.cell_of w b 4 _ _ _ h.blk rfl
theorem un_cases {op : Nat} (h : C.isUn op = true) : op = 28 \/ op = 29 \/ op = 32 \/ op = 33 \/ op = 34 \/ op = 35 \/ op = 39 \/ op = 48 \/ op = 49 := by
 simp only [C.isUn, Bool.or_eq_true, beq_iff_eq] at h
 omega
theorem bi_cases {op : Nat} (h : C.isBi op = true) : op = 21 \/ op = 22 \/ op = 23 \/ op = 24 \/ op = 25 \/ op = 26 \/ op = 27 \/ op = 30 \/ op = 31 \/ op = 36 \/ op = 37 \/ op = 38 \/ op = 40 \/ op = 41 \/ op = 42 \/ op = 43 \/ op = 44 \/ op = 45 \/ op = 46 \/ op = 47 := by
 simp only [C.isBi, Bool.or_eq_true, beq_iff_eq] at h
 omega
structure Pl1 (op : Nat) : Prop where
 pl : P.plain op = true
 rw : P.rw_ op = ⟨1, 1, 0, 0, 0⟩
 put : ∀ x y z s m, P.putN op x y z s m = [C.un op x]
 ret : ∀ x y R, P.retN op x y R = R
 mem : ∀ x y z m, P.memN op x y z m = m
 tk : tkN op = 1
 lv : lvN op = 1
theorem un_pl {op : Nat} (h : C.isUn op = true) : Pl1 op := by
 rcases un_cases h with rfl | rfl | rfl | rfl | rfl | rfl | rfl | rfl | rfl <;> exact ⟨rfl, rfl, fun _ _ _ _ _ => rfl, fun _ _ _ => rfl, fun _ _ _ _ => rfl, rfl, rfl⟩
structure Pl2 (op : Nat) : Prop where
 pl : P.plain op = true
 rw : P.rw_ op = ⟨2, 1, 0, 0, 0⟩
 put : ∀ x y z s m, P.putN op x y z s m = [C.bi op x y]
 ret : ∀ x y R, P.retN op x y R = R
 mem : ∀ x y z m, P.memN op x y z m = m
 tk : tkN op = 2
 lv : lvN op = 1
theorem bi_pl {op : Nat} (h : C.isBi op = true) : Pl2 op := by
 rcases bi_cases h with rfl | rfl | rfl | rfl | rfl | rfl | rfl | rfl | rfl | rfl | rfl | rfl | rfl | rfl | rfl | rfl | rfl | rfl | rfl | rfl <;> exact ⟨rfl, rfl, fun _ _ _ _ _ => rfl, fun _ _ _ => rfl, fun _ _ _ _ => rfl, rfl, rfl⟩
set_option maxHeartbeats 40000000
set_option maxRecDepth 100000
theorem rst_stop (g b : Nat) (kv dv rv : Value) (F : Nat -> Prop) (v : VS) (hst : v.st ≠ 1) (W : World) (h : RX W g b kv dv rv F v) :
  Calls Tryz.prog 38 #[.pointer (some ⟨g, 0, none⟩)] W fun e W' => e = .returned (.bool false) /\ RY W W' g b kv F (v) := by
 have c2 := h.c2
 have e1 : (v.st != 1) = true := by simp [hst]
 have HO : Hid (∀ k, (dv.ownBlock = some k \/ rv.ownBlock = some k) -> W.heap.size <= k \/ ∃ u, (W.cell? ⟨g, 4, none⟩ = some u \/ W.cell? ⟨g, 5, none⟩ = some u) /\ u.ownBlock = some k) := fun k e => .inr (e.elim (fun e => ⟨dv, .inl h.c4, e⟩) (fun e => ⟨rv, .inr h.c5, e⟩))
 have H : Hid _ := h
 clear h
 go_enter Tryz.func38, Tryz.ntmps38
 go_wp2
 go_ret
 exact ⟨rfl, ⟨⟨_, _, F, fun k q => .inl q, HO.out, H.out⟩, S.Tc.refl _ _⟩⟩
theorem rst_lk (g b : Nat) (kv dv rv : Value) (F : Nat -> Prop) (v : VS) (f : Int) (hst : v.st = 1) (hlk : (look v).f = f) (hf : f ≠ 0) (W : World) (h : RX W g b kv dv rv F v) :
  Calls Tryz.prog 38 #[.pointer (some ⟨g, 0, none⟩)] W fun e W' => e = .returned (.bool false) /\ RY W W' g b kv F (fail f v) := by
 have c2 := h.c2
 rw [hst] at c2
 have kL := rlook_any g b kv _ _ F v W h
 rw [look_no v (by rw [hlk]; exact hf), hlk] at kL
 have e0 : (f == 0) = false := by simp [hf]
 have e1 : (f != 0) = true := by simp [hf]
 have HO : Hid (∀ k, (dv.ownBlock = some k \/ rv.ownBlock = some k) -> W.heap.size <= k \/ ∃ u, (W.cell? ⟨g, 4, none⟩ = some u \/ W.cell? ⟨g, 5, none⟩ = some u) /\ u.ownBlock = some k) := fun k e => .inr (e.elim (fun e => ⟨dv, .inl h.c4, e⟩) (fun e => ⟨rv, .inr h.c5, e⟩))
 have H : Hid _ := h
 clear h hlk
 go_enter Tryz.func38, Tryz.ntmps38
 go_wp2_with fail
 refine kL.mono ?_
 rintro e w1 ⟨rfl, hbw⟩
 have hx1 := H.out.below hbw
 clear kL c2
 have a1 := hx1.num 2 (.int .i64 3) { v with st := 3 } rfl rfl rfl rfl rfl ⟨hx1.wf.pc0, hx1.wf.pc1, hx1.wf.d, hx1.wf.r⟩
 have a2 := a1.num 3 (.int .i64 f) { v with st := 3, fa := f } rfl rfl rfl rfl rfl ⟨hx1.wf.pc0, hx1.wf.pc1, hx1.wf.d, hx1.wf.r⟩
 have f2 := hx1.c2
 have g2 := S.frozen_of w1 g 2 _ _ hx1.blk
 have f3 := a1.c3
 have g3 := S.frozen_of _ g 3 _ _ a1.blk
 have HA : Hid _ := a2
 have HT : Hid (S.Tc (TX8 g F) W ((w1.setCell ⟨g, 2, none⟩ (.int .i64 3)).setCell ⟨g, 3, none⟩ (.int .i64 f))) := ((S.Tc.of_below (F := TX8 g F) hbw fun i h1 h2 => by omega).setCell g 2 (.inl rfl) _).setCell g 3 (.inl rfl) _
 clear a1 a2 hx1 hbw
 go_wp2
 go_ret
 exact ⟨rfl, ⟨⟨_, _, F, fun k q => .inl q, HO.out, HA.out⟩, HT.out⟩⟩
theorem rst_fa (g b : Nat) (kv dv rv : Value) (F : Nat -> Prop) (v : VS) (op : Nat) (x f : Int) (o1 : 1 <= op) (o2 : op <= 63) (hst : v.st = 1) (hlk : look v = ⟨op, x, 0⟩) (hrf : rfa op v.D v.R = f) (hf : f ≠ 0) (W : World) (h : RX W g b kv dv rv F v) :
  Calls Tryz.prog 38 #[.pointer (some ⟨g, 0, none⟩)] W fun e W' => e = .returned (.bool false) /\ RY W W' g b kv F (fail f v) := by
 have c2 := h.c2
 rw [hst] at c2
 have kL := rlook_any g b kv _ _ F v W h
 rw [hlk] at kL
 have e0 : (f == 0) = false := by simp [hf]
 have e1 : (f != 0) = true := by simp [hf]
 have HO : Hid (∀ k, (dv.ownBlock = some k \/ rv.ownBlock = some k) -> W.heap.size <= k \/ ∃ u, (W.cell? ⟨g, 4, none⟩ = some u \/ W.cell? ⟨g, 5, none⟩ = some u) /\ u.ownBlock = some k) := fun k e => .inr (e.elim (fun e => ⟨dv, .inl h.c4, e⟩) (fun e => ⟨rv, .inr h.c5, e⟩))
 have H : Hid _ := h
 have HR : Hid _ := hrf
 clear h hlk hrf
 go_enter Tryz.func38, Tryz.ntmps38
 go_wp2_with fail
 refine kL.mono ?_
 rintro e w0 ⟨rfl, hb0⟩
 have kF := faults_any g b kv _ _ F v op o1 o2 w0 (H.out.below hb0)
 rw [HR.out] at kF
 clear kL c2
 go_wp2_with fail
 refine kF.mono ?_
 rintro e w1 ⟨rfl, hb1⟩
 have hbw : Below W.heap.size W w1 := hb0.trans (hb1.mono hb0.size)
 have hx1 := H.out.below hbw
 clear kF hb0 hb1
 have a1 := hx1.num 2 (.int .i64 3) { v with st := 3 } rfl rfl rfl rfl rfl ⟨hx1.wf.pc0, hx1.wf.pc1, hx1.wf.d, hx1.wf.r⟩
 have a2 := a1.num 3 (.int .i64 f) { v with st := 3, fa := f } rfl rfl rfl rfl rfl ⟨hx1.wf.pc0, hx1.wf.pc1, hx1.wf.d, hx1.wf.r⟩
 have f2 := hx1.c2
 have g2 := S.frozen_of w1 g 2 _ _ hx1.blk
 have f3 := a1.c3
 have g3 := S.frozen_of _ g 3 _ _ a1.blk
 have HA : Hid _ := a2
 have HT : Hid (S.Tc (TX8 g F) W ((w1.setCell ⟨g, 2, none⟩ (.int .i64 3)).setCell ⟨g, 3, none⟩ (.int .i64 f))) := ((S.Tc.of_below (F := TX8 g F) hbw fun i h1 h2 => by omega).setCell g 2 (.inl rfl) _).setCell g 3 (.inl rfl) _
 clear a1 a2 hx1 hbw
 go_wp2
 go_ret
 exact ⟨rfl, ⟨⟨_, _, F, fun k q => .inl q, HO.out, HA.out⟩, HT.out⟩⟩
end Go.Proofs.YteldjmecomngeaaGreat.V
