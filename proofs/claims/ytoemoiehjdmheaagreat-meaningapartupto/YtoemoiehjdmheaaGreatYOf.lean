import Derived.Test.YtoemoiehjdmheaaGreatDDrop
import Derived.Test.YtoemoiehjdmheaaGreatYIter
import Derived.Test.YtoemoiehjdmheaaGreatSKit
namespace Go.Proofs.YtoemoiehjdmheaaGreat.Y
open Go.RowKit Go.Shelf
open Go.Proofs
set_option linter.unusedVariables false
set_option linter.unusedSimpArgs false
set_option maxHeartbeats 4000000
set_option maxRecDepth 100000
attribute [local go_sem] Oper.semAt_some
def pls (ds : List Df) : Nat -> List Pl
 | 0 => []
 | k + 1 => pls ds k ++ (match ds[k]? with | some d => [bt d (rms ds k) (rms ds (k + 1))] | none => [])
theorem pls_succ (ds : List Df) (k : Nat) (d : Df) (h : ds[k]? = some d) : pls ds (k + 1) = pls ds k ++ [bt d (rms ds k) (rms ds (k + 1))] := by rw [pls, h]
theorem pls_len (ds : List Df) : ∀ k, k <= ds.length -> (pls ds k).length = k
 | 0, _ => rfl
 | k + 1, h => by
  rw [pls_succ ds k _ (List.getElem?_eq_getElem (by omega)), List.length_append, pls_len ds k (by omega)]; rfl
theorem rms_one (ds : List Df) : ∀ k, k <= ds.length -> k <= 140737488355328 -> (rms ds k).1 = (k : Int)
 | 0, _, _ => rfl
 | k + 1, h, h2 => by
  rw [rms_succ ds k _ (List.getElem?_eq_getElem (by omega))]
  show wrap64 ((rms ds k).1 + 1) = _
  rw [rms_one ds k (by omega) (by omega), w_in _ (by omega)]; omega
theorem ps_words {r : Rm} (h : ps r = 0) : r.1 <= 512 /\ r.2.1 <= 16384 /\ r.2.2 <= 16384 := by
 unfold ps at h
 repeat' split at h
 all_goals first | omega | (refine ⟨?_, ?_, ?_⟩ <;> omega)
theorem onePl (l : List Pl) : ∀ u ∈ S.en plc l, u.oneCell' = true := by
 intro u hu
 simp [S.en, plc] at hu
 obtain ⟨a, _, h⟩ := hu
 rcases h with rfl | rfl | rfl | rfl <;> rfl
structure OI (W : World) (dv : Value) (ds : List Df) (k : Nat) (A : World) : Prop where
 bel : Below W.heap.size W A
 le : k <= ds.length
 fit : ∀ j, j < k -> ps (rms ds (j + 1)) = 0
 row : ∃ v, A.heap[W.heap.size + 1]? = some (.cells #[v] 92 (0, 0)) /\ A.ownsRow (W.heap.size + 12) 142 4 v k (S.en plc (pls ds k))
 b2 : A.heap[W.heap.size + 2]? = some (.cells #[.int .i64 0] 3 (0, 0))
 b3 : A.heap[W.heap.size + 3]? = some (.cells #[.int .i64 0] 3 (0, 0))
 b4 : A.heap[W.heap.size + 4]? = some (.cells #[.int .i64 0, .int .i64 0] 33 (0, 0))
 b5 : A.heap[W.heap.size + 5]? = some (.cells #[.int .i64 0] 29 (0, 0))
 b6 : A.heap[W.heap.size + 6]? = some (.cells (rmc (rms ds k)).toArray 136 (0, 0))
 b7 : A.heap[W.heap.size + 7]? = some (.cells (rmc (0, 128, 0)).toArray 136 (0, 0))
 b8 : A.heap[W.heap.size + 8]? = some (.cells #[dv] 44 (0, 0))
theorem own_ge {W : World} {B : Nat} {e : TypeId} {size : Nat} {v : Value} {n : Nat} {xs : List Value} (h : W.ownsRow B e size v n xs) : ∀ g, v.ownBlock = some g -> B <= g := by
 intro g hg
 rcases h.2 with ⟨rfl, _⟩ | ⟨g', cap, cur, rfl, h2, _⟩
 ·cases hg
 ·cases hg; exact h2
theorem own_slice {W : World} {B : Nat} {e : TypeId} {size : Nat} {v : Value} {n : Nat} {xs : List Value} (h : W.ownsRow B e size v n xs) : ∃ p m c, v = .slice p m c := by
 rcases h.2 with ⟨rfl, _⟩ | ⟨g', cap, cur, rfl, h2, _⟩
 ·exact ⟨_, _, _, rfl⟩
 ·exact ⟨_, _, _, rfl⟩
theorem OI.kept {W A A' : World} {dv : Value} {ds : List Df} {k : Nat} (h : OI W dv ds k A) (g : GN (W.heap.size + 9) A A') : OI W dv ds k A' := by
 obtain ⟨v, hv, ho⟩ := h.row
 have q : ∀ {i : Nat} {o : Obj}, A.heap[i]? = some o -> i < W.heap.size + 9 -> A'.heap[i]? = some o := fun h hi => (g.block _ (S.lt_of h) (by omega) (by omega) (by omega)).trans h
 refine ⟨⟨g.os.trans h.bel.os, g.tape.trans h.bel.tape, g.output.trans h.bel.output, Nat.le_trans h.bel.size g.size, fun i hi => ?_⟩, h.le, h.fit, ⟨v, q hv (by omega), S.own_kept ho fun g' hg hlt => ?_⟩, q h.b2 (by omega), q h.b3 (by omega), q h.b4 (by omega), q h.b5 (by omega), q h.b6 (by omega), q h.b7 (by omega), q h.b8 (by omega)⟩
 ·exact (g.block i (Nat.lt_of_lt_of_le hi h.bel.size) (by omega) (by omega) (by omega)).trans (h.bel.block i hi)
 ·have := own_ge ho g' hg
  exact g.block g' hlt (by omega) (by omega) (by omega)
structure OX (W : World) (ds : List Df) (k : Nat) (A : World) : Prop where
 bel : Below W.heap.size W A
 ex : ∃ d, ds[k - 1]? = some d /\ 1 <= k /\ (∀ j, j < k - 1 -> ps (rms ds (j + 1)) = 0) /\ ps (rms ds k) ≠ 0 /\ A.heap[W.heap.size + 4]? = some (.cells #[.int .i64 d.p.1, .int .i64 d.p.2] 33 (0, 0))
 b1 : A.heap[W.heap.size + 1]? = some (.cells #[.slice none 0 0] 92 (0, 0))
 b2 : A.heap[W.heap.size + 2]? = some (.cells #[.int .i64 0] 3 (0, 0))
 b3 : A.heap[W.heap.size + 3]? = some (.cells #[.int .i64 0] 3 (0, 0))
 b5 : A.heap[W.heap.size + 5]? = some (.cells #[.int .i64 (ps (rms ds k))] 29 (0, 0))
theorem OX.kept {W A A' : World} {ds : List Df} {k : Nat} (h : OX W ds k A) (g : GN (W.heap.size + 9) A A') : OX W ds k A' := by
 have q : ∀ {i : Nat} {o : Obj}, A.heap[i]? = some o -> i < W.heap.size + 9 -> A'.heap[i]? = some o := fun h hi => (g.block _ (S.lt_of h) (by omega) (by omega) (by omega)).trans h
 obtain ⟨d, h1, h2, h3, h4, h5⟩ := h.ex
 refine ⟨⟨g.os.trans h.bel.os, g.tape.trans h.bel.tape, g.output.trans h.bel.output, Nat.le_trans h.bel.size g.size, fun i hi => ?_⟩, ⟨d, h1, h2, h3, h4, q h5 (by omega)⟩, q h.b1 (by omega), q h.b2 (by omega), q h.b3 (by omega), q h.b5 (by omega)⟩
 exact (g.block i (Nat.lt_of_lt_of_le hi h.bel.size) (by omega) (by omega) (by omega)).trans (h.bel.block i hi)
structure Fin6 (W A A6 : World) (v : Value) (zc zr : Int) : Prop where
 z1 : A6.heap[W.heap.size + 1]? = some (.cells [v].toArray 92 (0, 0))
 z2 : A6.heap[W.heap.size + 2]? = some (.cells [.int .i64 zc].toArray 3 (0, 0))
 z3 : A6.heap[W.heap.size + 3]? = some (.cells [.int .i64 zr].toArray 3 (0, 0))
 z4 : A6.heap[W.heap.size + 4]? = some (.cells [.int .i64 0, .int .i64 0].toArray 33 (0, 0))
 z5 : A6.heap[W.heap.size + 5]? = some (.cells [.int .i64 0].toArray 29 (0, 0))
 zb : ∀ i, (i < W.heap.size + 1 \/ W.heap.size + 6 <= i) -> A6.heap[i]? = A.heap[i]?
 bel : Below W.heap.size W A6
theorem Fin6.drew {W A A6 : World} {v : Value} {zc zr : Int} (h : Fin6 W A A6 v zc zr) : Fin6 W A A6.drew v zc zr := ⟨h.z1, h.z2, h.z3, h.z4, h.z5, h.zb, h.bel.drew⟩
def OfR (W : World) (ds : List Df) (e : Ending) (w' : World) : Prop :=
 (∃ v, (∀ j, j < ds.length -> ps (rms ds (j + 1)) = 0) /\ e = .returned (.tuple #[v, .int .i64 (rms ds ds.length).2.1, .int .i64 (rms ds ds.length).2.2, .agg #[.int .i64 0, .int .i64 0], .int .i64 0]) /\ w'.ownsRow W.heap.size 142 4 v ds.length (S.en plc (pls ds ds.length))) \/
 (∃ (k : Nat) (d : Df), ds[k]? = some d /\ (∀ j, j < k -> ps (rms ds (j + 1)) = 0) /\ ps (rms ds (k + 1)) ≠ 0 /\ e = .returned (.tuple #[.slice none 0 0, .int .i64 0, .int .i64 0, .agg #[.int .i64 d.p.1, .int .i64 d.p.2], .int .i64 (ps (rms ds (k + 1)))]))
theorem infoPl : (Tryz.prog.info? 142).map (fun i => (i.zero, i.size, i.bytes)) = some (some (.agg #[.string ⟨#[]⟩, .int .u16 0, .int .i64 0, .int .u16 0]), 4, 40) := by kernel_rfl
theorem allocs_size : ∀ (l : List Obj) (W : World), (l.foldl World.alloc W).heap.size = W.heap.size + l.length
 | [], W => rfl
 | o :: l, W => by rw [List.foldl_cons, allocs_size l, World.size_alloc, List.length_cons]; omega
theorem allocs_below : ∀ (l : List Obj) (W : World), Below W.heap.size W (l.foldl World.alloc W)
 | [], W => Below.refl _ _
 | o :: l, W => by
  have h1 : Below W.heap.size W (W.alloc o) := (Below.refl _ W).alloc (Nat.le_refl _) o
  exact h1.trans ((allocs_below l (W.alloc o)).mono h1.size)
theorem allocs_get : ∀ (l : List Obj) (W : World) (i : Nat) (o : Obj), l[i]? = some o -> (l.foldl World.alloc W).heap[W.heap.size + i]? = some o
 | [], W, i, o, h => by simp at h
 | x :: l, W, 0, o, h => by
  simp at h
  subst h
  rw [List.foldl_cons, Nat.add_zero, (allocs_below l (W.alloc x)).block _ (by simp)]
  exact World.alloc_heap_new W x
 | x :: l, W, i + 1, o, h => by
  have := allocs_get l (W.alloc x) i o (by simpa using h)
  rw [World.size_alloc] at this
  rw [List.foldl_cons, show W.heap.size + (i + 1) = W.heap.size + 1 + i by omega]
  exact this
theorem of_any (ds : List Df) (dv bkv : Value) (hbk : ∃ p l c, bkv = .slice p l c) (O : Nat -> Prop) (W : World) (hO : ∀ i, O i -> i < W.heap.size) (hD : DV W O dv ds) :
  Calls Tryz.prog 32 #[.agg #[dv, bkv]] W fun e w' => OfR W ds e w' /\ Below W.heap.size W w' := by
 obtain ⟨p, l, c, rfl⟩ := hbk
 obtain ⟨q, c2, rfl, hl, hp⟩ := id hD
 refine (callsIn_wide (n := 9)).1 ?_
 refine callsIn_of_wp_marks Tryz.func32 rfl trivial ?_ rfl
 simp only [Tryz.ntmps32, List.size_toArray, List.length_cons, List.length_nil, Nat.reduceAdd, Nat.reduceSub, Array.replicate_succ, Array.replicate_zero, List.push_toArray, List.append_toArray, List.nil_append, List.cons_append]
 have HD := hid hD
 have HO := hid hO
 clear hD hO hp
 gi_wp2_with (refine ⟨trivial, ?_⟩; gi_at_call 48; refine (callsIn_wide.2 (filled_any (0, 128, 0) _ _ ⟨_, _, _, rfl⟩)).mono ?_; rintro e w' ⟨rfl, rfl⟩)
 simp only [Nat.add_assoc, Nat.reduceAdd]
 rename_i Q2 K2 hK2
 obtain ⟨w0, hw0⟩ : ∃ w0, List.foldl World.alloc W [.cells #[.slice q ds.length c2, .slice p l c] 47, .cells #[.slice none 0 0] 92, .cells #[.int .i64 0] 3, .cells #[.int .i64 0] 3, .cells #[.int .i64 0, .int .i64 0] 33, .cells #[.int .i64 0] 29, .cells #[.int .i64 0, .int .i64 128, .int .i64 0] 136, .cells (rmc (0, 128, 0)).toArray 136, .cells #[.slice q ds.length c2] 44] = w0 := ⟨_, rfl⟩
 have sz0 : w0.heap.size = W.heap.size + 9 := by rw [<- hw0, allocs_size]; rfl
 have hb0 : Below W.heap.size W w0 := by rw [<- hw0]; exact allocs_below _ W
 have gt : ∀ (i : Nat) (o : Obj), ([.cells #[.slice q ds.length c2, .slice p l c] 47, .cells #[.slice none 0 0] 92, .cells #[.int .i64 0] 3, .cells #[.int .i64 0] 3, .cells #[.int .i64 0, .int .i64 0] 33, .cells #[.int .i64 0] 29, .cells #[.int .i64 0, .int .i64 128, .int .i64 0] 136, .cells (rmc (0, 128, 0)).toArray 136, .cells #[.slice q ds.length c2] 44] : List Obj)[i]? = some o -> w0.heap[W.heap.size + i]? = some o := fun i o h => by rw [<- hw0]; exact allocs_get _ W i o h
 have hI0 : OI W (.slice q ds.length c2) ds 0 w0 := by
  refine ⟨hb0, by omega, fun j hj => by omega, ⟨.slice none 0 0, gt 1 _ rfl, ⟨rfl, .inl ⟨rfl, rfl⟩⟩⟩, gt 2 _ rfl, gt 3 _ rfl, gt 4 _ rfl, gt 5 _ rfl, gt 6 _ rfl, gt 7 _ rfl, gt 8 _ rfl⟩
 change Code.wpIn _ _ _ _ _ _ (List.foldl World.alloc W [.cells #[.slice q ds.length c2, .slice p l c] 47, .cells #[.slice none 0 0] 92, .cells #[.int .i64 0] 3, .cells #[.int .i64 0] 3, .cells #[.int .i64 0, .int .i64 0] 33, .cells #[.int .i64 0] 29, .cells #[.int .i64 0, .int .i64 128, .int .i64 0] 136, .cells (rmc (0, 128, 0)).toArray 136, .cells #[.slice q ds.length c2] 44])
 rw [hw0]
 clear gt hw0
 refine range_filled 9 (by omega) (W.heap.size + 7) (W.heap.size + 8) rfl rfl (.slice q ds.length c2) ds O (OI W (.slice q ds.length c2) ds) (OX W ds) (fun k A h => h.b7) (fun k A h => h.b8) (fun k A h => HD.out.below h.bel HO.out) (fun i hi => by have := HO.out i hi; omega)
  (fun k A A' h g => h.kept (by rw [sz0] at g; exact g)) (fun k A A' h g => h.kept (by rw [sz0] at g; exact g))
  (fun k d bv a' A => ∃ Bx, W.heap.size + 12 <= Bx /\ A.heap[Bx]? = some (.cells (dfc d bv).toArray 60 (0, 0)) /\ A.heap[Bx + 1]? = some (.cells (rmc (rms ds (k + 1))).toArray 136 (0, 0)) /\ a' = { tmps := #[.agg #[.slice q ds.length c2, .slice p l c], .pointer (some ⟨W.heap.size, 0, none⟩), .pointer (some ⟨W.heap.size + 1, 0, none⟩), .pointer (some ⟨W.heap.size + 2, 0, none⟩), .pointer (some ⟨W.heap.size + 3, 0, none⟩), .pointer (some ⟨W.heap.size + 4, 0, none⟩), .pointer (some ⟨W.heap.size + 5, 0, none⟩), .pointer (some ⟨W.heap.size + 6, 0, none⟩), .pointer (some ⟨Bx, 0, none⟩), .pointer (some ⟨Bx + 1, 0, none⟩), undef, .agg #[.int .i64 0, .int .i64 128, .int .i64 0], .agg #[.int .i64 0, .int .i64 128, .int .i64 0], .pointer (some ⟨W.heap.size, 0, none⟩), .slice q ds.length c2, .func (.func 62) #[] #[.pointer (some ⟨W.heap.size + 7, 0, none⟩), .pointer (some ⟨W.heap.size + 8, 0, none⟩)], .agg (dfc d bv).toArray, .agg (rmc (rms ds (k + 1))).toArray, undef, undef, undef, undef, undef, undef, undef, undef, undef, undef, undef, undef, undef, undef, undef, undef, undef, undef, undef, undef, undef], defers := [] })
  (fun k d bv a' A A' h g => by rw [sz0] at g; obtain ⟨Bx, h1, h2, h3, h4⟩ := h; exact ⟨Bx, h1, (g.block _ (S.lt_of h2) (by omega) (by omega) (by omega)).trans h2, (g.block _ (S.lt_of h3) (by omega) (by omega) (by omega)).trans h3, h4⟩)
  ?assign ?body hI0 ?done ?stop
 case assign =>
  intro l2 k d bv A K hd hn hI hlt hK
  obtain ⟨q1, d1, rfl, _, _⟩ := hn.ex
  obtain ⟨w1, hw1⟩ : ∃ w1, w1 = (A.alloc (.cells (dfc d (.slice q1 d.body.length d1)).toArray 60)).alloc (.cells (rmc (rms ds (k + 1))).toArray 136) := ⟨_, rfl⟩
  have hKK := hK { tmps := #[.agg #[.slice q ds.length c2, .slice p l c], .pointer (some ⟨W.heap.size, 0, none⟩), .pointer (some ⟨W.heap.size + 1, 0, none⟩), .pointer (some ⟨W.heap.size + 2, 0, none⟩), .pointer (some ⟨W.heap.size + 3, 0, none⟩), .pointer (some ⟨W.heap.size + 4, 0, none⟩), .pointer (some ⟨W.heap.size + 5, 0, none⟩), .pointer (some ⟨W.heap.size + 6, 0, none⟩), .pointer (some ⟨A.heap.size, 0, none⟩), .pointer (some ⟨A.heap.size + 1, 0, none⟩), undef, .agg #[.int .i64 0, .int .i64 128, .int .i64 0], .agg #[.int .i64 0, .int .i64 128, .int .i64 0], .pointer (some ⟨W.heap.size, 0, none⟩), .slice q ds.length c2, .func (.func 62) #[] #[.pointer (some ⟨W.heap.size + 7, 0, none⟩), .pointer (some ⟨W.heap.size + 8, 0, none⟩)], .agg (dfc d (.slice q1 d.body.length d1)).toArray, .agg (rmc (rms ds (k + 1))).toArray, undef, undef, undef, undef, undef, undef, undef, undef, undef, undef, undef, undef, undef, undef, undef, undef, undef, undef, undef, undef, undef], defers := [] } w1 (by rw [hw1]; exact ((Below.refl _ A).alloc (Nat.le_refl _) _).alloc (by simp) _)
   (hI.kept (by have hb : Below A.heap.size A w1 := (by rw [hw1]; exact ((Below.refl _ A).alloc (Nat.le_refl _) _).alloc (by simp) _); exact ⟨hb.os, hb.tape, hb.output, hb.size, fun i hi _ _ _ => hb.block i hi⟩))
   ⟨A.heap.size, by omega, (by rw [hw1]; exact (Below.heap_alloc _ _ _ (by simp)).trans (heap_alloc_new A _)), (by rw [hw1]; exact heap_alloc2_new A _ _), rfl⟩
  rw [hw1] at hKK
  unfold dfc rmc at hKK ⊢
  clear hK hI hn hw1 w1 hd HD HO hI0 hb0
  gi_wp2
  exact hKK
 case body =>
  intro l2 k d bv a' A hd hn hI hlt hAx
  obtain ⟨Bx, hBx, hX, hY, rfl⟩ := hAx
  obtain ⟨q1, d1, rfl, _, _⟩ := hn.ex
  obtain ⟨v, h1, ho⟩ := hI.row
  obtain ⟨vp, vm, vc, rfl⟩ := own_slice ho
  have a0 := S.cell_of A (Bx + 1) 0 _ 136 _ hY rfl
  have a1 := S.cell_of A (Bx + 1) 1 _ 136 _ hY rfl
  have a2 := S.cell_of A (Bx + 1) 2 _ 136 _ hY rfl
  have hps := passes_any (rms ds (k + 1)) A
  have HC := hid (And.intro hd (And.intro hn (And.intro hI (And.intro hX (And.intro hY (And.intro h1 (And.intro ho hBx)))))))
  unfold rmc at hps ⊢
  unfold dfc
  clear hI0 hb0 hK2 HD hd hn hI hX hY h1 ho
  by_cases hz : ps (rms ds (k + 1)) = 0
  ·have hz1 : (ps (rms ds (k + 1)) != 0) = false := by simpa using hz
   generalize hpe : ps (rms ds (k + 1)) = pe at *
   have HPE := hid (And.intro hpe hz)
   clear hpe
   gi_wp2_with (refine ⟨trivial, ?_⟩; gi_at_call 49; refine (CallsIn.inRound l2 (callsIn_wide.2 hps)).mono ?_; rintro e w1 ⟨rfl, hb⟩; clear hps a0 a1 a2)
   have hB : Below A.heap.size A w1.drew := hb.drew
   have mk : ∀ w' : World, w'.heap[Bx]? = some (.cells (dfc d (.slice q1 d.body.length d1)).toArray 60 (0, 0)) -> w'.heap[W.heap.size + 6]? = some (.cells (rmc (rms ds k)).toArray 136 (0, 0)) -> w'.heap[Bx + 1]? = some (.cells (rmc (rms ds (k + 1))).toArray 136 (0, 0)) -> (w'.cell? ⟨Bx, 0, none⟩ = some (.int .i64 d.k) /\ w'.cell? ⟨Bx, 1, none⟩ = some (.string d.nm) /\ w'.cell? ⟨Bx, 2, none⟩ = some (.int .u16 d.v) /\ w'.cell? ⟨Bx, 3, none⟩ = some (.slice q1 d.body.length d1) /\ w'.cell? ⟨Bx, 4, none⟩ = some (.int .i64 d.p.1) /\ w'.cell? ⟨Bx, 5, none⟩ = some (.int .i64 d.p.2) /\ w'.cell? ⟨W.heap.size + 6, 0, none⟩ = some (.int .i64 (rms ds k).1) /\ w'.cell? ⟨W.heap.size + 6, 1, none⟩ = some (.int .i64 (rms ds k).2.1) /\ w'.cell? ⟨W.heap.size + 6, 2, none⟩ = some (.int .i64 (rms ds k).2.2) /\ w'.cell? ⟨Bx + 1, 0, none⟩ = some (.int .i64 (rms ds (k + 1)).1) /\ w'.cell? ⟨Bx + 1, 1, none⟩ = some (.int .i64 (rms ds (k + 1)).2.1) /\ w'.cell? ⟨Bx + 1, 2, none⟩ = some (.int .i64 (rms ds (k + 1)).2.2)) := fun w' a b c => ⟨S.cell_of w' _ 0 _ 60 _ a rfl, S.cell_of w' _ 1 _ 60 _ a rfl, S.cell_of w' _ 2 _ 60 _ a rfl, S.cell_of w' _ 3 _ 60 _ a rfl, S.cell_of w' _ 4 _ 60 _ a rfl, S.cell_of w' _ 5 _ 60 _ a rfl, S.cell_of w' _ 0 _ 136 _ b rfl, S.cell_of w' _ 1 _ 136 _ b rfl, S.cell_of w' _ 2 _ 136 _ b rfl, S.cell_of w' _ 0 _ 136 _ c rfl, S.cell_of w' _ 1 _ 136 _ c rfl, S.cell_of w' _ 2 _ 136 _ c rfl⟩
   have x0 := (hB.block _ (S.lt_of HC.out.2.2.2.1)).trans HC.out.2.2.2.1
   have x6 := (hB.block _ (S.lt_of HC.out.2.2.1.b6)).trans HC.out.2.2.1.b6
   have x7 := (hB.block _ (S.lt_of HC.out.2.2.2.2.1)).trans HC.out.2.2.2.2.1
   have x1 : w1.drew.heap[W.heap.size + 1]? = some (.cells [.slice vp vm vc].toArray 92 (0, 0)) := (hB.block _ (S.lt_of HC.out.2.2.2.2.2.1)).trans HC.out.2.2.2.2.2.1
   refine region_in2 (S := fun w' => w'.cell? ⟨Bx, 0, none⟩ = some (.int .i64 d.k) /\ w'.cell? ⟨Bx, 1, none⟩ = some (.string d.nm) /\ w'.cell? ⟨Bx, 2, none⟩ = some (.int .u16 d.v) /\ w'.cell? ⟨Bx, 3, none⟩ = some (.slice q1 d.body.length d1) /\ w'.cell? ⟨Bx, 4, none⟩ = some (.int .i64 d.p.1) /\ w'.cell? ⟨Bx, 5, none⟩ = some (.int .i64 d.p.2) /\ w'.cell? ⟨W.heap.size + 6, 0, none⟩ = some (.int .i64 (rms ds k).1) /\ w'.cell? ⟨W.heap.size + 6, 1, none⟩ = some (.int .i64 (rms ds k).2.1) /\ w'.cell? ⟨W.heap.size + 6, 2, none⟩ = some (.int .i64 (rms ds k).2.2) /\ w'.cell? ⟨Bx + 1, 0, none⟩ = some (.int .i64 (rms ds (k + 1)).1) /\ w'.cell? ⟨Bx + 1, 1, none⟩ = some (.int .i64 (rms ds (k + 1)).2.1) /\ w'.cell? ⟨Bx + 1, 2, none⟩ = some (.int .i64 (rms ds (k + 1)).2.2)) (by kernel_rfl) (by kernel_rfl) (fun ⟨_, _, h⟩ => h) (mk _ x0 x6 x7) (fun hHeld => ?_)
   clear hb hHeld
   generalize w1.drew = wd at *
   have hHeld := mk wd x0 x6 x7
   have HMK := hid mk
   have HX := hid (And.intro x0 (And.intro x6 (And.intro x7 x1)))
   have HB := hid hB
   have hNV : NV wd O (.slice q1 d.body.length d1) d.body := HC.out.2.1.kept (fun i hi => hB.block i (by have := HO.out i hi; have := HC.out.2.2.1.bel.size; omega)) fun _ h => h
   have hbt := between_any d (.slice q1 d.body.length d1) (rms ds k) (rms ds (k + 1)) wd O hNV
   have g1 := S.cell_of wd (W.heap.size + 1) 0 _ 92 _ x1 rfl
   unfold dfc rmc plc at hbt
   generalize hpl : bt d (rms ds k) (rms ds (k + 1)) = pl at *
   have HPL := hid hpl
   clear x0 x6 x7 x1 mk hB hNV hpl
   refine D.zH (is := [1, 2, 3]) ?_
   iterate 3
    refine D.yH (v := ?_) rfl (by kernel_rfl) (fun c a w h => h) (by rfl) ?_ hHeld ?_
    rotate_left
    ·(intro w hSw; (try dsimp only at hSw); go_simp; try with_reducible rfl)
    simp only [D.pts]
   refine D.eH ?_
   refine wpAnyH_ready (rs := [0, 4]) (by kernel_rfl) (by simp) ?_
   refine AllReadyH.cons rfl (fun K hK => ?_) (AllReadyH.cons rfl (fun K hK => ?_) AllReadyH.nil)
   ·go_simp
    refine hK.out _ _ hHeld (fun hHeld2 => ?_)
    clear hK K hHeld2
    try simp only [D.pts]
    refine wpAnyH_ready (rs := [4]) (by kernel_rfl) (by simp) ?_
    refine AllReadyH.cons rfl (fun K hK => ?_) AllReadyH.nil
    go_simp
    refine hbt.mono ?_
    rintro e w2 ⟨rfl, hb2⟩
    have HB2 := hid hb2
    have t0 := (hb2.block _ (S.lt_of HX.out.1)).trans HX.out.1
    have t6 := (hb2.block _ (S.lt_of HX.out.2.1)).trans HX.out.2.1
    have t7 := (hb2.block _ (S.lt_of HX.out.2.2.1)).trans HX.out.2.2.1
    have t1 : w2.heap[W.heap.size + 1]? = some (.cells [.slice vp vm vc].toArray 92 (0, 0)) := (hb2.block _ (S.lt_of HX.out.2.2.2)).trans HX.out.2.2.2
    have m2 := HMK.out w2 t0 t6 t7
    have m3 := HMK.out (w2.alloc (.cells #[.string pl.nm, .int .u16 pl.at_, .int .i64 pl.sz, .int .u16 pl.ram] 142)) ((Below.heap_alloc _ _ _ (S.lt_of t0)).trans t0) ((Below.heap_alloc _ _ _ (S.lt_of t6)).trans t6) ((Below.heap_alloc _ _ _ (S.lt_of t7)).trans t7)
    have j1 := S.cell_of w2 (W.heap.size + 1) 0 _ 92 _ t1 rfl
    have j2 := S.cell_of (w2.alloc (.cells #[.string pl.nm, .int .u16 pl.at_, .int .i64 pl.sz, .int .u16 pl.ram] 142)) (W.heap.size + 1) 0 _ 92 _ ((Below.heap_alloc _ _ _ (S.lt_of t1)).trans t1) rfl
    have HM2 := hid m2
    have HM3 := hid m3
    clear hb2 t0 t6 t7 t1 m2 m3 hbt
    refine hK.out _ _ HM2.out (fun hHeld2 => ?_)
    clear hK K hHeld2 hHeld
    try simp only [D.pts]
    refine wpAnyH_ready (rs := [5]) (by kernel_rfl) (by simp) ?_
    refine AllReadyH.cons rfl (fun K hK => ?_) AllReadyH.nil
    go_simp
    refine hK.out _ _ HM3.out (fun hHeld2 => ?_)
    clear hK K hHeld2
    try simp only [D.pts]
    clear j1 j2
    have hal : Below w2.heap.size w2 (w2.alloc (.cells #[.string pl.nm, .int .u16 pl.at_, .int .i64 pl.sz, .int .u16 pl.ram] 142)) := (Below.refl _ _).alloc (Nat.le_refl _) _
    have hb3 : Below wd.heap.size wd (w2.alloc (.cells #[.string pl.nm, .int .u16 pl.at_, .int .i64 pl.sz, .int .u16 pl.ram] 142)) := HB2.out.trans (hal.mono HB2.out.size)
    have hbk : (w2.alloc (.cells #[.string pl.nm, .int .u16 pl.at_, .int .i64 pl.sz, .int .u16 pl.ram] 142)).heap[w2.heap.size]? = some (.cells (S.en plc [pl]).toArray 142 (0, 0)) := by rw [heap_alloc_new w2]; rfl
    generalize w2.alloc (.cells #[.string pl.nm, .int .u16 pl.at_, .int .i64 pl.sz, .int .u16 pl.ram] 142) = w3 at *
    have hA3 : Below A.heap.size A w3 := HB.out.trans (hb3.mono HB.out.size)
    have ho3 : w3.ownsRow (W.heap.size + 12) 142 4 (.slice vp vm vc) k (S.en plc (pls ds k)) := S.own_kept HC.out.2.2.2.2.2.2.1 fun g _ hg => hA3.block g hg
    have y0 := (hb3.block _ (S.lt_of HX.out.1)).trans HX.out.1
    have y6 := (hb3.block _ (S.lt_of HX.out.2.1)).trans HX.out.2.1
    have y7 := (hb3.block _ (S.lt_of HX.out.2.2.1)).trans HX.out.2.2.1
    have y1 := (hb3.block _ (S.lt_of HX.out.2.2.2)).trans HX.out.2.2.2
    have hk5 : k + 1 <= 512 := by
     have h1 := (List.getElem?_eq_some_iff.1 HC.out.1).1
     have h2 := rms_one ds (k + 1) (by omega) (by omega)
     have h3 := (ps_words (HPE.out.1.trans HPE.out.2)).1
     rw [h2] at h3
     omega
    have hcs : S.Cs w3 (.slice (some ⟨w2.heap.size, 0, none⟩) 1 1) 4 1 (S.en plc [pl]) := .inr ⟨⟨w2.heap.size, 0, none⟩, 1, rfl, rfl, fun j u hj => by rw [Addr.add_lit, Nat.zero_add]; exact S.cell_of w3 _ j _ 142 u hbk hj, onePl _⟩
    refine wpAnyH_ready (rs := [6]) (by kernel_rfl) (by simp) ?_
    refine AllReadyH.cons rfl (fun K hK => ?_) AllReadyH.nil
    rw [if_pos (by rfl)]
    refine S.wp_append_row _ _ _ 92 142 _ 4 40 Tryz.underlying92 infoPl rfl (by decide) rfl (W.heap.size + 12) (.slice vp vm vc) k (S.en plc (pls ds k)) rfl ho3 (.slice (some ⟨w2.heap.size, 0, none⟩) 1 1) 1 (S.en plc [pl]) rfl hcs (by unfold S.room; omega) (by unfold maxLen; omega) (by have := hA3.size; have := S.lt_of HC.out.2.2.2.1; omega) (fun v1 w4 hr1 hg1 => ?_)
    have gne : ∀ (b : Nat) (c : Array Value) (t : TypeId) (x : Nat × Nat), w3.heap[b]? = some (.cells c t x) -> t ≠ 142 -> w4.heap[b]? = w3.heap[b]? := fun b c t x hb ht => hg1.block b (S.lt_of hb) fun e => by
     rcases ho3.2 with ⟨e2, _⟩ | ⟨g, cap, cur, e2, h2, h3, h4⟩
     ·rw [e2] at e; cases e
     ·rw [e2] at e
      cases e
      rw [hb] at h3
      cases h3
      exact ht rfl
    have z0 := (gne _ _ _ _ y0 (by decide)).trans y0
    have z6 := (gne _ _ _ _ y6 (by decide)).trans y6
    have z7 := (gne _ _ _ _ y7 (by decide)).trans y7
    have z1 := (gne _ _ _ _ y1 (by decide)).trans y1
    have glow : ∀ i, i < W.heap.size + 12 -> w4.heap[i]? = w3.heap[i]? := fun i hi => hg1.block i (by have := hA3.size; have := S.lt_of HC.out.2.2.2.1; omega) fun e => by have := own_ge ho3 i e.symm; omega
    replace hr1 : w4.ownsRow (W.heap.size + 12) 142 4 v1 (k + 1) (S.en plc (pls ds (k + 1))) := by
     rw [pls_succ ds k d HC.out.1, HPL.out, S.en_append]; exact hr1
    obtain ⟨vp1, vm1, vc1, rfl⟩ := own_slice hr1
    have m4 := HMK.out w4 z0 z6 z7
    refine hK.out _ _ m4 (fun hHeld2 => ?_)
    clear hK K hHeld2
    try simp only [D.pts]
    have f1 := S.frozen_of w4 (W.heap.size + 1) 0 _ 92 z1
    have e1 := S.cell_of w4 (W.heap.size + 1) 0 _ 92 _ z1 rfl
    have u1 : (w4.setCell ⟨W.heap.size + 1, 0, none⟩ (.slice vp1 vm1 vc1)).heap[W.heap.size + 1]? = some (.cells [.slice vp1 vm1 vc1].toArray 92 (0, 0)) := S.setCell_heap w4 (W.heap.size + 1) 0 _ 92 (.slice vp1 vm1 vc1) z1
    have ub : ∀ i, i ≠ W.heap.size + 1 -> (w4.setCell ⟨W.heap.size + 1, 0, none⟩ (.slice vp1 vm1 vc1)).heap[i]? = w4.heap[i]? := fun i hi => S.setCell_other w4 _ _ _ _ hi
    have u0 := (ub Bx (by omega)).trans z0
    have u6 := (ub (W.heap.size + 6) (by omega)).trans z6
    have u7 := (ub (Bx + 1) (by omega)).trans z7
    have m5 := HMK.out _ u0 u6 u7
    have us : (w4.setCell ⟨W.heap.size + 1, 0, none⟩ (.slice vp1 vm1 vc1)).heap.size = w4.heap.size := by simp
    have bel4 : Below W.heap.size W w4 := ⟨hg1.os.trans (hA3.os.trans HC.out.2.2.1.bel.os), hg1.tape.trans (hA3.tape.trans HC.out.2.2.1.bel.tape), hg1.output.trans (hA3.output.trans HC.out.2.2.1.bel.output), Nat.le_trans HC.out.2.2.1.bel.size (Nat.le_trans hA3.size hg1.size), fun i hi => (glow i (by omega)).trans ((hA3.block i (by have := HC.out.2.2.1.bel.size; omega)).trans (HC.out.2.2.1.bel.block i hi))⟩
    have ur : (w4.setCell ⟨W.heap.size + 1, 0, none⟩ (.slice vp1 vm1 vc1)).ownsRow (W.heap.size + 12) 142 4 (.slice vp1 vm1 vc1) (k + 1) (S.en plc (pls ds (k + 1))) := S.own_kept hr1 fun g hg _ => ub g (by have := own_ge hr1 g hg; omega)
    have belu := bel4.setCell (p := ⟨W.heap.size + 1, 0, none⟩) (by show W.heap.size <= W.heap.size + 1; omega) (.slice vp1 vm1 vc1)
    have low : ∀ i, i < W.heap.size + 12 -> i ≠ W.heap.size + 1 -> (w4.setCell ⟨W.heap.size + 1, 0, none⟩ (.slice vp1 vm1 vc1)).heap[i]? = A.heap[i]? := fun i hi hne => (ub i hne).trans ((glow i hi).trans (hA3.block i (by have := S.lt_of HC.out.2.2.2.1; omega)))
    have HU := hid (And.intro u1 (And.intro u6 (And.intro u7 (And.intro ur (And.intro belu low)))))
    have HM5 := hid m5
    clear m4 m5 u0 u6 u7 u1 ub us bel4 ur belu low z0 z6 z7 z1 y0 y1 y6 y7 hcs hk5 gne glow hr1 hg1 ho3 hA3 hb3 hal hbk
    refine wpAnyH_ready (rs := [7]) (by kernel_rfl) (by simp) ?_
    refine AllReadyH.cons rfl (fun K hK => ?_) AllReadyH.nil
    go_simp
    refine hK.out _ _ HM5.out (fun hHeld => ?_)
    clear hK K
    try simp only [D.pts]
    refine wpAnyH_done (by kernel_rfl) ?_ _
    clear e1 f1
    generalize w4.setCell ⟨W.heap.size + 1, 0, none⟩ (.slice vp1 vm1 vc1) = A5 at HU ⊢
    have c0 := S.cell_of A5 (Bx + 1) 0 _ 136 _ HU.out.2.2.1 rfl
    have c1 := S.cell_of A5 (Bx + 1) 1 _ 136 _ HU.out.2.2.1 rfl
    have c2 := S.cell_of A5 (Bx + 1) 2 _ 136 _ HU.out.2.2.1 rfl
    have d0 := S.cell_of A5 (W.heap.size + 6) 0 _ 136 _ HU.out.2.1 rfl
    have d1' := S.cell_of A5 (W.heap.size + 6) 1 _ 136 _ HU.out.2.1 rfl
    have d2 := S.cell_of A5 (W.heap.size + 6) 2 _ 136 _ HU.out.2.1 rfl
    have f0 := S.frozen_of A5 (W.heap.size + 6) 0 _ 136 HU.out.2.1
    have f1 := S.frozen_of A5 (W.heap.size + 6) 1 _ 136 HU.out.2.1
    have f2 := S.frozen_of A5 (W.heap.size + 6) 2 _ 136 HU.out.2.1
    gi_wp2
    have v6 := S.setCell_heap _ (W.heap.size + 6) 2 _ 136 (.int .i64 (rms ds (k + 1)).2.2) (S.setCell_heap _ (W.heap.size + 6) 1 _ 136 (.int .i64 (rms ds (k + 1)).2.1) (S.setCell_heap A5 (W.heap.size + 6) 0 _ 136 (.int .i64 (rms ds (k + 1)).1) HU.out.2.1))
    have vb : ∀ i, i ≠ W.heap.size + 6 -> (((A5.setCell ⟨W.heap.size + 6, 0, none⟩ (.int .i64 (rms ds (k + 1)).1)).setCell ⟨W.heap.size + 6, 1, none⟩ (.int .i64 (rms ds (k + 1)).2.1)).setCell ⟨W.heap.size + 6, 2, none⟩ (.int .i64 (rms ds (k + 1)).2.2)).heap[i]? = A5.heap[i]? := fun i hi => by
     rw [S.setCell_other _ _ _ _ _ hi, S.setCell_other _ _ _ _ _ hi, S.setCell_other _ _ _ _ _ hi]
    have belv := ((HU.out.2.2.2.2.1.setCell (p := ⟨W.heap.size + 6, 0, none⟩) (by show W.heap.size <= W.heap.size + 6; omega) (.int .i64 (rms ds (k + 1)).1)).setCell (p := ⟨W.heap.size + 6, 1, none⟩) (by show W.heap.size <= W.heap.size + 6; omega) (.int .i64 (rms ds (k + 1)).2.1)).setCell (p := ⟨W.heap.size + 6, 2, none⟩) (by show W.heap.size <= W.heap.size + 6; omega) (.int .i64 (rms ds (k + 1)).2.2)
    have hI := HC.out.2.2.1
    have lo : ∀ (i : Nat) (o : Obj), A.heap[i]? = some o -> i < W.heap.size + 12 -> i ≠ W.heap.size + 1 -> i ≠ W.heap.size + 6 -> (((A5.setCell ⟨W.heap.size + 6, 0, none⟩ (.int .i64 (rms ds (k + 1)).1)).setCell ⟨W.heap.size + 6, 1, none⟩ (.int .i64 (rms ds (k + 1)).2.1)).setCell ⟨W.heap.size + 6, 2, none⟩ (.int .i64 (rms ds (k + 1)).2.2)).heap[i]? = some o := fun i o h h1 h2 h3 => (vb i h3).trans ((HU.out.2.2.2.2.2 i h1 h2).trans h)
    refine ⟨fun i h1 h2 => (vb i (by omega)).trans (HU.out.2.2.2.2.2 i (by omega) (by omega)), belv, (List.getElem?_eq_some_iff.1 HC.out.1).1, fun j hj => ?_, ⟨_, (vb _ (by omega)).trans HU.out.1, S.own_kept HU.out.2.2.2.1 fun g hg _ => vb g (by have := own_ge HU.out.2.2.2.1 g hg; omega)⟩, lo _ _ hI.b2 (by omega) (by omega) (by omega), lo _ _ hI.b3 (by omega) (by omega) (by omega), lo _ _ hI.b4 (by omega) (by omega) (by omega), lo _ _ hI.b5 (by omega) (by omega) (by omega), v6, lo _ _ hI.b7 (by omega) (by omega) (by omega), lo _ _ hI.b8 (by omega) (by omega) (by omega)⟩
    by_cases e : j = k
    ·subst e; exact HPE.out.1.trans HPE.out.2
    ·exact hI.fit j (by omega)
   ·go_simp
    refine hbt.mono ?_
    rintro e w2 ⟨rfl, hb2⟩
    have HB2 := hid hb2
    have t0 := (hb2.block _ (S.lt_of HX.out.1)).trans HX.out.1
    have t6 := (hb2.block _ (S.lt_of HX.out.2.1)).trans HX.out.2.1
    have t7 := (hb2.block _ (S.lt_of HX.out.2.2.1)).trans HX.out.2.2.1
    have t1 : w2.heap[W.heap.size + 1]? = some (.cells [.slice vp vm vc].toArray 92 (0, 0)) := (hb2.block _ (S.lt_of HX.out.2.2.2)).trans HX.out.2.2.2
    have m2 := HMK.out w2 t0 t6 t7
    have m3 := HMK.out (w2.alloc (.cells #[.string pl.nm, .int .u16 pl.at_, .int .i64 pl.sz, .int .u16 pl.ram] 142)) ((Below.heap_alloc _ _ _ (S.lt_of t0)).trans t0) ((Below.heap_alloc _ _ _ (S.lt_of t6)).trans t6) ((Below.heap_alloc _ _ _ (S.lt_of t7)).trans t7)
    have j1 := S.cell_of w2 (W.heap.size + 1) 0 _ 92 _ t1 rfl
    have j2 := S.cell_of (w2.alloc (.cells #[.string pl.nm, .int .u16 pl.at_, .int .i64 pl.sz, .int .u16 pl.ram] 142)) (W.heap.size + 1) 0 _ 92 _ ((Below.heap_alloc _ _ _ (S.lt_of t1)).trans t1) rfl
    have HM2 := hid m2
    have HM3 := hid m3
    clear hb2 t0 t6 t7 t1 m2 m3 hbt
    refine hK.out _ _ HM2.out (fun hHeld2 => ?_)
    clear hK K hHeld2 hHeld
    try simp only [D.pts]
    refine wpAnyH_ready (rs := [0, 5]) (by kernel_rfl) (by simp) ?_
    refine AllReadyH.cons rfl (fun K hK => ?_) (AllReadyH.cons rfl (fun K hK => ?_) AllReadyH.nil)
    ·go_simp
     refine hK.out _ _ HM2.out (fun hHeld2 => ?_)
     clear hK K hHeld2
     try simp only [D.pts]
     refine wpAnyH_ready (rs := [5]) (by kernel_rfl) (by simp) ?_
     refine AllReadyH.cons rfl (fun K hK => ?_) AllReadyH.nil
     go_simp
     refine hK.out _ _ HM3.out (fun hHeld2 => ?_)
     clear hK K hHeld2
     try simp only [D.pts]
     clear j1 j2
     have hal : Below w2.heap.size w2 (w2.alloc (.cells #[.string pl.nm, .int .u16 pl.at_, .int .i64 pl.sz, .int .u16 pl.ram] 142)) := (Below.refl _ _).alloc (Nat.le_refl _) _
     have hb3 : Below wd.heap.size wd (w2.alloc (.cells #[.string pl.nm, .int .u16 pl.at_, .int .i64 pl.sz, .int .u16 pl.ram] 142)) := HB2.out.trans (hal.mono HB2.out.size)
     have hbk : (w2.alloc (.cells #[.string pl.nm, .int .u16 pl.at_, .int .i64 pl.sz, .int .u16 pl.ram] 142)).heap[w2.heap.size]? = some (.cells (S.en plc [pl]).toArray 142 (0, 0)) := by rw [heap_alloc_new w2]; rfl
     generalize w2.alloc (.cells #[.string pl.nm, .int .u16 pl.at_, .int .i64 pl.sz, .int .u16 pl.ram] 142) = w3 at *
     have hA3 : Below A.heap.size A w3 := HB.out.trans (hb3.mono HB.out.size)
     have ho3 : w3.ownsRow (W.heap.size + 12) 142 4 (.slice vp vm vc) k (S.en plc (pls ds k)) := S.own_kept HC.out.2.2.2.2.2.2.1 fun g _ hg => hA3.block g hg
     have y0 := (hb3.block _ (S.lt_of HX.out.1)).trans HX.out.1
     have y6 := (hb3.block _ (S.lt_of HX.out.2.1)).trans HX.out.2.1
     have y7 := (hb3.block _ (S.lt_of HX.out.2.2.1)).trans HX.out.2.2.1
     have y1 := (hb3.block _ (S.lt_of HX.out.2.2.2)).trans HX.out.2.2.2
     have hk5 : k + 1 <= 512 := by
      have h1 := (List.getElem?_eq_some_iff.1 HC.out.1).1
      have h2 := rms_one ds (k + 1) (by omega) (by omega)
      have h3 := (ps_words (HPE.out.1.trans HPE.out.2)).1
      rw [h2] at h3
      omega
     have hcs : S.Cs w3 (.slice (some ⟨w2.heap.size, 0, none⟩) 1 1) 4 1 (S.en plc [pl]) := .inr ⟨⟨w2.heap.size, 0, none⟩, 1, rfl, rfl, fun j u hj => by rw [Addr.add_lit, Nat.zero_add]; exact S.cell_of w3 _ j _ 142 u hbk hj, onePl _⟩
     refine wpAnyH_ready (rs := [6]) (by kernel_rfl) (by simp) ?_
     refine AllReadyH.cons rfl (fun K hK => ?_) AllReadyH.nil
     rw [if_pos (by rfl)]
     refine S.wp_append_row _ _ _ 92 142 _ 4 40 Tryz.underlying92 infoPl rfl (by decide) rfl (W.heap.size + 12) (.slice vp vm vc) k (S.en plc (pls ds k)) rfl ho3 (.slice (some ⟨w2.heap.size, 0, none⟩) 1 1) 1 (S.en plc [pl]) rfl hcs (by unfold S.room; omega) (by unfold maxLen; omega) (by have := hA3.size; have := S.lt_of HC.out.2.2.2.1; omega) (fun v1 w4 hr1 hg1 => ?_)
     have gne : ∀ (b : Nat) (c : Array Value) (t : TypeId) (x : Nat × Nat), w3.heap[b]? = some (.cells c t x) -> t ≠ 142 -> w4.heap[b]? = w3.heap[b]? := fun b c t x hb ht => hg1.block b (S.lt_of hb) fun e => by
      rcases ho3.2 with ⟨e2, _⟩ | ⟨g, cap, cur, e2, h2, h3, h4⟩
      ·rw [e2] at e; cases e
      ·rw [e2] at e
       cases e
       rw [hb] at h3
       cases h3
       exact ht rfl
     have z0 := (gne _ _ _ _ y0 (by decide)).trans y0
     have z6 := (gne _ _ _ _ y6 (by decide)).trans y6
     have z7 := (gne _ _ _ _ y7 (by decide)).trans y7
     have z1 := (gne _ _ _ _ y1 (by decide)).trans y1
     have glow : ∀ i, i < W.heap.size + 12 -> w4.heap[i]? = w3.heap[i]? := fun i hi => hg1.block i (by have := hA3.size; have := S.lt_of HC.out.2.2.2.1; omega) fun e => by have := own_ge ho3 i e.symm; omega
     replace hr1 : w4.ownsRow (W.heap.size + 12) 142 4 v1 (k + 1) (S.en plc (pls ds (k + 1))) := by
      rw [pls_succ ds k d HC.out.1, HPL.out, S.en_append]; exact hr1
     obtain ⟨vp1, vm1, vc1, rfl⟩ := own_slice hr1
     have m4 := HMK.out w4 z0 z6 z7
     refine hK.out _ _ m4 (fun hHeld2 => ?_)
     clear hK K hHeld2
     try simp only [D.pts]
     have f1 := S.frozen_of w4 (W.heap.size + 1) 0 _ 92 z1
     have e1 := S.cell_of w4 (W.heap.size + 1) 0 _ 92 _ z1 rfl
     have u1 : (w4.setCell ⟨W.heap.size + 1, 0, none⟩ (.slice vp1 vm1 vc1)).heap[W.heap.size + 1]? = some (.cells [.slice vp1 vm1 vc1].toArray 92 (0, 0)) := S.setCell_heap w4 (W.heap.size + 1) 0 _ 92 (.slice vp1 vm1 vc1) z1
     have ub : ∀ i, i ≠ W.heap.size + 1 -> (w4.setCell ⟨W.heap.size + 1, 0, none⟩ (.slice vp1 vm1 vc1)).heap[i]? = w4.heap[i]? := fun i hi => S.setCell_other w4 _ _ _ _ hi
     have u0 := (ub Bx (by omega)).trans z0
     have u6 := (ub (W.heap.size + 6) (by omega)).trans z6
     have u7 := (ub (Bx + 1) (by omega)).trans z7
     have m5 := HMK.out _ u0 u6 u7
     have us : (w4.setCell ⟨W.heap.size + 1, 0, none⟩ (.slice vp1 vm1 vc1)).heap.size = w4.heap.size := by simp
     have bel4 : Below W.heap.size W w4 := ⟨hg1.os.trans (hA3.os.trans HC.out.2.2.1.bel.os), hg1.tape.trans (hA3.tape.trans HC.out.2.2.1.bel.tape), hg1.output.trans (hA3.output.trans HC.out.2.2.1.bel.output), Nat.le_trans HC.out.2.2.1.bel.size (Nat.le_trans hA3.size hg1.size), fun i hi => (glow i (by omega)).trans ((hA3.block i (by have := HC.out.2.2.1.bel.size; omega)).trans (HC.out.2.2.1.bel.block i hi))⟩
     have ur : (w4.setCell ⟨W.heap.size + 1, 0, none⟩ (.slice vp1 vm1 vc1)).ownsRow (W.heap.size + 12) 142 4 (.slice vp1 vm1 vc1) (k + 1) (S.en plc (pls ds (k + 1))) := S.own_kept hr1 fun g hg _ => ub g (by have := own_ge hr1 g hg; omega)
     have belu := bel4.setCell (p := ⟨W.heap.size + 1, 0, none⟩) (by show W.heap.size <= W.heap.size + 1; omega) (.slice vp1 vm1 vc1)
     have low : ∀ i, i < W.heap.size + 12 -> i ≠ W.heap.size + 1 -> (w4.setCell ⟨W.heap.size + 1, 0, none⟩ (.slice vp1 vm1 vc1)).heap[i]? = A.heap[i]? := fun i hi hne => (ub i hne).trans ((glow i hi).trans (hA3.block i (by have := S.lt_of HC.out.2.2.2.1; omega)))
     have HU := hid (And.intro u1 (And.intro u6 (And.intro u7 (And.intro ur (And.intro belu low)))))
     have HM5 := hid m5
     clear m4 m5 u0 u6 u7 u1 ub us bel4 ur belu low z0 z6 z7 z1 y0 y1 y6 y7 hcs hk5 gne glow hr1 hg1 ho3 hA3 hb3 hal hbk
     refine wpAnyH_ready (rs := [7]) (by kernel_rfl) (by simp) ?_
     refine AllReadyH.cons rfl (fun K hK => ?_) AllReadyH.nil
     go_simp
     refine hK.out _ _ HM5.out (fun hHeld => ?_)
     clear hK K
     try simp only [D.pts]
     refine wpAnyH_done (by kernel_rfl) ?_ _
     clear e1 f1
     generalize w4.setCell ⟨W.heap.size + 1, 0, none⟩ (.slice vp1 vm1 vc1) = A5 at HU ⊢
     have c0 := S.cell_of A5 (Bx + 1) 0 _ 136 _ HU.out.2.2.1 rfl
     have c1 := S.cell_of A5 (Bx + 1) 1 _ 136 _ HU.out.2.2.1 rfl
     have c2 := S.cell_of A5 (Bx + 1) 2 _ 136 _ HU.out.2.2.1 rfl
     have d0 := S.cell_of A5 (W.heap.size + 6) 0 _ 136 _ HU.out.2.1 rfl
     have d1' := S.cell_of A5 (W.heap.size + 6) 1 _ 136 _ HU.out.2.1 rfl
     have d2 := S.cell_of A5 (W.heap.size + 6) 2 _ 136 _ HU.out.2.1 rfl
     have f0 := S.frozen_of A5 (W.heap.size + 6) 0 _ 136 HU.out.2.1
     have f1 := S.frozen_of A5 (W.heap.size + 6) 1 _ 136 HU.out.2.1
     have f2 := S.frozen_of A5 (W.heap.size + 6) 2 _ 136 HU.out.2.1
     gi_wp2
     have v6 := S.setCell_heap _ (W.heap.size + 6) 2 _ 136 (.int .i64 (rms ds (k + 1)).2.2) (S.setCell_heap _ (W.heap.size + 6) 1 _ 136 (.int .i64 (rms ds (k + 1)).2.1) (S.setCell_heap A5 (W.heap.size + 6) 0 _ 136 (.int .i64 (rms ds (k + 1)).1) HU.out.2.1))
     have vb : ∀ i, i ≠ W.heap.size + 6 -> (((A5.setCell ⟨W.heap.size + 6, 0, none⟩ (.int .i64 (rms ds (k + 1)).1)).setCell ⟨W.heap.size + 6, 1, none⟩ (.int .i64 (rms ds (k + 1)).2.1)).setCell ⟨W.heap.size + 6, 2, none⟩ (.int .i64 (rms ds (k + 1)).2.2)).heap[i]? = A5.heap[i]? := fun i hi => by
      rw [S.setCell_other _ _ _ _ _ hi, S.setCell_other _ _ _ _ _ hi, S.setCell_other _ _ _ _ _ hi]
     have belv := ((HU.out.2.2.2.2.1.setCell (p := ⟨W.heap.size + 6, 0, none⟩) (by show W.heap.size <= W.heap.size + 6; omega) (.int .i64 (rms ds (k + 1)).1)).setCell (p := ⟨W.heap.size + 6, 1, none⟩) (by show W.heap.size <= W.heap.size + 6; omega) (.int .i64 (rms ds (k + 1)).2.1)).setCell (p := ⟨W.heap.size + 6, 2, none⟩) (by show W.heap.size <= W.heap.size + 6; omega) (.int .i64 (rms ds (k + 1)).2.2)
     have hI := HC.out.2.2.1
     have lo : ∀ (i : Nat) (o : Obj), A.heap[i]? = some o -> i < W.heap.size + 12 -> i ≠ W.heap.size + 1 -> i ≠ W.heap.size + 6 -> (((A5.setCell ⟨W.heap.size + 6, 0, none⟩ (.int .i64 (rms ds (k + 1)).1)).setCell ⟨W.heap.size + 6, 1, none⟩ (.int .i64 (rms ds (k + 1)).2.1)).setCell ⟨W.heap.size + 6, 2, none⟩ (.int .i64 (rms ds (k + 1)).2.2)).heap[i]? = some o := fun i o h h1 h2 h3 => (vb i h3).trans ((HU.out.2.2.2.2.2 i h1 h2).trans h)
     refine ⟨fun i h1 h2 => (vb i (by omega)).trans (HU.out.2.2.2.2.2 i (by omega) (by omega)), belv, (List.getElem?_eq_some_iff.1 HC.out.1).1, fun j hj => ?_, ⟨_, (vb _ (by omega)).trans HU.out.1, S.own_kept HU.out.2.2.2.1 fun g hg _ => vb g (by have := own_ge HU.out.2.2.2.1 g hg; omega)⟩, lo _ _ hI.b2 (by omega) (by omega) (by omega), lo _ _ hI.b3 (by omega) (by omega) (by omega), lo _ _ hI.b4 (by omega) (by omega) (by omega), lo _ _ hI.b5 (by omega) (by omega) (by omega), v6, lo _ _ hI.b7 (by omega) (by omega) (by omega), lo _ _ hI.b8 (by omega) (by omega) (by omega)⟩
     by_cases e : j = k
     ·subst e; exact HPE.out.1.trans HPE.out.2
     ·exact hI.fit j (by omega)
    ·go_simp
     refine hK.out _ _ HM3.out (fun hHeld2 => ?_)
     clear hK K hHeld2
     try simp only [D.pts]
     refine wpAnyH_ready (rs := [0]) (by kernel_rfl) (by simp) ?_
     refine AllReadyH.cons rfl (fun K hK => ?_) AllReadyH.nil
     go_simp
     refine hK.out _ _ HM3.out (fun hHeld2 => ?_)
     clear hK K hHeld2
     try simp only [D.pts]
     clear j1 j2
     have hal : Below w2.heap.size w2 (w2.alloc (.cells #[.string pl.nm, .int .u16 pl.at_, .int .i64 pl.sz, .int .u16 pl.ram] 142)) := (Below.refl _ _).alloc (Nat.le_refl _) _
     have hb3 : Below wd.heap.size wd (w2.alloc (.cells #[.string pl.nm, .int .u16 pl.at_, .int .i64 pl.sz, .int .u16 pl.ram] 142)) := HB2.out.trans (hal.mono HB2.out.size)
     have hbk : (w2.alloc (.cells #[.string pl.nm, .int .u16 pl.at_, .int .i64 pl.sz, .int .u16 pl.ram] 142)).heap[w2.heap.size]? = some (.cells (S.en plc [pl]).toArray 142 (0, 0)) := by rw [heap_alloc_new w2]; rfl
     generalize w2.alloc (.cells #[.string pl.nm, .int .u16 pl.at_, .int .i64 pl.sz, .int .u16 pl.ram] 142) = w3 at *
     have hA3 : Below A.heap.size A w3 := HB.out.trans (hb3.mono HB.out.size)
     have ho3 : w3.ownsRow (W.heap.size + 12) 142 4 (.slice vp vm vc) k (S.en plc (pls ds k)) := S.own_kept HC.out.2.2.2.2.2.2.1 fun g _ hg => hA3.block g hg
     have y0 := (hb3.block _ (S.lt_of HX.out.1)).trans HX.out.1
     have y6 := (hb3.block _ (S.lt_of HX.out.2.1)).trans HX.out.2.1
     have y7 := (hb3.block _ (S.lt_of HX.out.2.2.1)).trans HX.out.2.2.1
     have y1 := (hb3.block _ (S.lt_of HX.out.2.2.2)).trans HX.out.2.2.2
     have hk5 : k + 1 <= 512 := by
      have h1 := (List.getElem?_eq_some_iff.1 HC.out.1).1
      have h2 := rms_one ds (k + 1) (by omega) (by omega)
      have h3 := (ps_words (HPE.out.1.trans HPE.out.2)).1
      rw [h2] at h3
      omega
     have hcs : S.Cs w3 (.slice (some ⟨w2.heap.size, 0, none⟩) 1 1) 4 1 (S.en plc [pl]) := .inr ⟨⟨w2.heap.size, 0, none⟩, 1, rfl, rfl, fun j u hj => by rw [Addr.add_lit, Nat.zero_add]; exact S.cell_of w3 _ j _ 142 u hbk hj, onePl _⟩
     refine wpAnyH_ready (rs := [6]) (by kernel_rfl) (by simp) ?_
     refine AllReadyH.cons rfl (fun K hK => ?_) AllReadyH.nil
     rw [if_pos (by rfl)]
     refine S.wp_append_row _ _ _ 92 142 _ 4 40 Tryz.underlying92 infoPl rfl (by decide) rfl (W.heap.size + 12) (.slice vp vm vc) k (S.en plc (pls ds k)) rfl ho3 (.slice (some ⟨w2.heap.size, 0, none⟩) 1 1) 1 (S.en plc [pl]) rfl hcs (by unfold S.room; omega) (by unfold maxLen; omega) (by have := hA3.size; have := S.lt_of HC.out.2.2.2.1; omega) (fun v1 w4 hr1 hg1 => ?_)
     have gne : ∀ (b : Nat) (c : Array Value) (t : TypeId) (x : Nat × Nat), w3.heap[b]? = some (.cells c t x) -> t ≠ 142 -> w4.heap[b]? = w3.heap[b]? := fun b c t x hb ht => hg1.block b (S.lt_of hb) fun e => by
      rcases ho3.2 with ⟨e2, _⟩ | ⟨g, cap, cur, e2, h2, h3, h4⟩
      ·rw [e2] at e; cases e
      ·rw [e2] at e
       cases e
       rw [hb] at h3
       cases h3
       exact ht rfl
     have z0 := (gne _ _ _ _ y0 (by decide)).trans y0
     have z6 := (gne _ _ _ _ y6 (by decide)).trans y6
     have z7 := (gne _ _ _ _ y7 (by decide)).trans y7
     have z1 := (gne _ _ _ _ y1 (by decide)).trans y1
     have glow : ∀ i, i < W.heap.size + 12 -> w4.heap[i]? = w3.heap[i]? := fun i hi => hg1.block i (by have := hA3.size; have := S.lt_of HC.out.2.2.2.1; omega) fun e => by have := own_ge ho3 i e.symm; omega
     replace hr1 : w4.ownsRow (W.heap.size + 12) 142 4 v1 (k + 1) (S.en plc (pls ds (k + 1))) := by
      rw [pls_succ ds k d HC.out.1, HPL.out, S.en_append]; exact hr1
     obtain ⟨vp1, vm1, vc1, rfl⟩ := own_slice hr1
     have m4 := HMK.out w4 z0 z6 z7
     refine hK.out _ _ m4 (fun hHeld2 => ?_)
     clear hK K hHeld2
     try simp only [D.pts]
     have f1 := S.frozen_of w4 (W.heap.size + 1) 0 _ 92 z1
     have e1 := S.cell_of w4 (W.heap.size + 1) 0 _ 92 _ z1 rfl
     have u1 : (w4.setCell ⟨W.heap.size + 1, 0, none⟩ (.slice vp1 vm1 vc1)).heap[W.heap.size + 1]? = some (.cells [.slice vp1 vm1 vc1].toArray 92 (0, 0)) := S.setCell_heap w4 (W.heap.size + 1) 0 _ 92 (.slice vp1 vm1 vc1) z1
     have ub : ∀ i, i ≠ W.heap.size + 1 -> (w4.setCell ⟨W.heap.size + 1, 0, none⟩ (.slice vp1 vm1 vc1)).heap[i]? = w4.heap[i]? := fun i hi => S.setCell_other w4 _ _ _ _ hi
     have u0 := (ub Bx (by omega)).trans z0
     have u6 := (ub (W.heap.size + 6) (by omega)).trans z6
     have u7 := (ub (Bx + 1) (by omega)).trans z7
     have m5 := HMK.out _ u0 u6 u7
     have us : (w4.setCell ⟨W.heap.size + 1, 0, none⟩ (.slice vp1 vm1 vc1)).heap.size = w4.heap.size := by simp
     have bel4 : Below W.heap.size W w4 := ⟨hg1.os.trans (hA3.os.trans HC.out.2.2.1.bel.os), hg1.tape.trans (hA3.tape.trans HC.out.2.2.1.bel.tape), hg1.output.trans (hA3.output.trans HC.out.2.2.1.bel.output), Nat.le_trans HC.out.2.2.1.bel.size (Nat.le_trans hA3.size hg1.size), fun i hi => (glow i (by omega)).trans ((hA3.block i (by have := HC.out.2.2.1.bel.size; omega)).trans (HC.out.2.2.1.bel.block i hi))⟩
     have ur : (w4.setCell ⟨W.heap.size + 1, 0, none⟩ (.slice vp1 vm1 vc1)).ownsRow (W.heap.size + 12) 142 4 (.slice vp1 vm1 vc1) (k + 1) (S.en plc (pls ds (k + 1))) := S.own_kept hr1 fun g hg _ => ub g (by have := own_ge hr1 g hg; omega)
     have belu := bel4.setCell (p := ⟨W.heap.size + 1, 0, none⟩) (by show W.heap.size <= W.heap.size + 1; omega) (.slice vp1 vm1 vc1)
     have low : ∀ i, i < W.heap.size + 12 -> i ≠ W.heap.size + 1 -> (w4.setCell ⟨W.heap.size + 1, 0, none⟩ (.slice vp1 vm1 vc1)).heap[i]? = A.heap[i]? := fun i hi hne => (ub i hne).trans ((glow i hi).trans (hA3.block i (by have := S.lt_of HC.out.2.2.2.1; omega)))
     have HU := hid (And.intro u1 (And.intro u6 (And.intro u7 (And.intro ur (And.intro belu low)))))
     have HM5 := hid m5
     clear m4 m5 u0 u6 u7 u1 ub us bel4 ur belu low z0 z6 z7 z1 y0 y1 y6 y7 hcs hk5 gne glow hr1 hg1 ho3 hA3 hb3 hal hbk
     refine wpAnyH_ready (rs := [7]) (by kernel_rfl) (by simp) ?_
     refine AllReadyH.cons rfl (fun K hK => ?_) AllReadyH.nil
     go_simp
     refine hK.out _ _ HM5.out (fun hHeld => ?_)
     clear hK K
     try simp only [D.pts]
     refine wpAnyH_done (by kernel_rfl) ?_ _
     clear e1 f1
     generalize w4.setCell ⟨W.heap.size + 1, 0, none⟩ (.slice vp1 vm1 vc1) = A5 at HU ⊢
     have c0 := S.cell_of A5 (Bx + 1) 0 _ 136 _ HU.out.2.2.1 rfl
     have c1 := S.cell_of A5 (Bx + 1) 1 _ 136 _ HU.out.2.2.1 rfl
     have c2 := S.cell_of A5 (Bx + 1) 2 _ 136 _ HU.out.2.2.1 rfl
     have d0 := S.cell_of A5 (W.heap.size + 6) 0 _ 136 _ HU.out.2.1 rfl
     have d1' := S.cell_of A5 (W.heap.size + 6) 1 _ 136 _ HU.out.2.1 rfl
     have d2 := S.cell_of A5 (W.heap.size + 6) 2 _ 136 _ HU.out.2.1 rfl
     have f0 := S.frozen_of A5 (W.heap.size + 6) 0 _ 136 HU.out.2.1
     have f1 := S.frozen_of A5 (W.heap.size + 6) 1 _ 136 HU.out.2.1
     have f2 := S.frozen_of A5 (W.heap.size + 6) 2 _ 136 HU.out.2.1
     gi_wp2
     have v6 := S.setCell_heap _ (W.heap.size + 6) 2 _ 136 (.int .i64 (rms ds (k + 1)).2.2) (S.setCell_heap _ (W.heap.size + 6) 1 _ 136 (.int .i64 (rms ds (k + 1)).2.1) (S.setCell_heap A5 (W.heap.size + 6) 0 _ 136 (.int .i64 (rms ds (k + 1)).1) HU.out.2.1))
     have vb : ∀ i, i ≠ W.heap.size + 6 -> (((A5.setCell ⟨W.heap.size + 6, 0, none⟩ (.int .i64 (rms ds (k + 1)).1)).setCell ⟨W.heap.size + 6, 1, none⟩ (.int .i64 (rms ds (k + 1)).2.1)).setCell ⟨W.heap.size + 6, 2, none⟩ (.int .i64 (rms ds (k + 1)).2.2)).heap[i]? = A5.heap[i]? := fun i hi => by
      rw [S.setCell_other _ _ _ _ _ hi, S.setCell_other _ _ _ _ _ hi, S.setCell_other _ _ _ _ _ hi]
     have belv := ((HU.out.2.2.2.2.1.setCell (p := ⟨W.heap.size + 6, 0, none⟩) (by show W.heap.size <= W.heap.size + 6; omega) (.int .i64 (rms ds (k + 1)).1)).setCell (p := ⟨W.heap.size + 6, 1, none⟩) (by show W.heap.size <= W.heap.size + 6; omega) (.int .i64 (rms ds (k + 1)).2.1)).setCell (p := ⟨W.heap.size + 6, 2, none⟩) (by show W.heap.size <= W.heap.size + 6; omega) (.int .i64 (rms ds (k + 1)).2.2)
     have hI := HC.out.2.2.1
     have lo : ∀ (i : Nat) (o : Obj), A.heap[i]? = some o -> i < W.heap.size + 12 -> i ≠ W.heap.size + 1 -> i ≠ W.heap.size + 6 -> (((A5.setCell ⟨W.heap.size + 6, 0, none⟩ (.int .i64 (rms ds (k + 1)).1)).setCell ⟨W.heap.size + 6, 1, none⟩ (.int .i64 (rms ds (k + 1)).2.1)).setCell ⟨W.heap.size + 6, 2, none⟩ (.int .i64 (rms ds (k + 1)).2.2)).heap[i]? = some o := fun i o h h1 h2 h3 => (vb i h3).trans ((HU.out.2.2.2.2.2 i h1 h2).trans h)
     refine ⟨fun i h1 h2 => (vb i (by omega)).trans (HU.out.2.2.2.2.2 i (by omega) (by omega)), belv, (List.getElem?_eq_some_iff.1 HC.out.1).1, fun j hj => ?_, ⟨_, (vb _ (by omega)).trans HU.out.1, S.own_kept HU.out.2.2.2.1 fun g hg _ => vb g (by have := own_ge HU.out.2.2.2.1 g hg; omega)⟩, lo _ _ hI.b2 (by omega) (by omega) (by omega), lo _ _ hI.b3 (by omega) (by omega) (by omega), lo _ _ hI.b4 (by omega) (by omega) (by omega), lo _ _ hI.b5 (by omega) (by omega) (by omega), v6, lo _ _ hI.b7 (by omega) (by omega) (by omega), lo _ _ hI.b8 (by omega) (by omega) (by omega)⟩
     by_cases e : j = k
     ·subst e; exact HPE.out.1.trans HPE.out.2
     ·exact hI.fit j (by omega)
  ·have hz1 : (ps (rms ds (k + 1)) != 0) = true := by simpa using hz
   generalize hpe : ps (rms ds (k + 1)) = pe at *
   have HPE := hid (And.intro hpe hz)
   clear hpe hz
   gi_wp2_with (refine ⟨trivial, ?_⟩; gi_at_call 49; refine (CallsIn.inRound l2 (callsIn_wide.2 hps)).mono ?_; rintro e w1 ⟨rfl, hb⟩; clear hps a0 a1 a2)
   have hB : Below A.heap.size A w1.drew := hb.drew
   have hX1 := (hB.block _ (S.lt_of HC.out.2.2.2.1)).trans HC.out.2.2.2.1
   have s4 := S.cell_of w1.drew Bx 4 _ 60 _ hX1 rfl
   have s5 := S.cell_of w1.drew Bx 5 _ 60 _ hX1 rfl
   refine region_in2 (S := fun w' => w'.cell? ⟨Bx, 4, none⟩ = some (.int .i64 d.p.1) /\ w'.cell? ⟨Bx, 5, none⟩ = some (.int .i64 d.p.2)) (by kernel_rfl) (by kernel_rfl) (fun ⟨_, _, h⟩ => h) ⟨s4, s5⟩ (fun hHeld => ?_)
   clear s4 s5 hHeld hb
   generalize w1.drew = wd at *
   have hI := HC.out.2.2.1
   have k1 : wd.heap[W.heap.size + 1]? = some (.cells [.slice vp vm vc].toArray 92 (0, 0)) := (hB.block _ (S.lt_of HC.out.2.2.2.2.2.1)).trans HC.out.2.2.2.2.2.1
   have k2 : wd.heap[W.heap.size + 2]? = some (.cells [.int .i64 0].toArray 3 (0, 0)) := (hB.block _ (S.lt_of hI.b2)).trans hI.b2
   have k3 : wd.heap[W.heap.size + 3]? = some (.cells [.int .i64 0].toArray 3 (0, 0)) := (hB.block _ (S.lt_of hI.b3)).trans hI.b3
   have k4 : wd.heap[W.heap.size + 4]? = some (.cells [.int .i64 0, .int .i64 0].toArray 33 (0, 0)) := (hB.block _ (S.lt_of hI.b4)).trans hI.b4
   have k5 : wd.heap[W.heap.size + 5]? = some (.cells [.int .i64 0].toArray 29 (0, 0)) := (hB.block _ (S.lt_of hI.b5)).trans hI.b5
   have mk : ∀ w' : World, w'.heap[Bx]? = some (.cells (dfc d (.slice q1 d.body.length d1)).toArray 60 (0, 0)) -> (w'.cell? ⟨Bx, 4, none⟩ = some (.int .i64 d.p.1) /\ w'.cell? ⟨Bx, 5, none⟩ = some (.int .i64 d.p.2)) := fun w' a => ⟨S.cell_of w' _ 4 _ 60 _ a rfl, S.cell_of w' _ 5 _ 60 _ a rfl⟩
   have q0 := hX1
   have hHeld := mk wd q0
   have qq1 := (S.setCell_other wd (W.heap.size + 1) 0 Bx (.slice none 0 0) (by omega)).trans q0
   have m1 := mk _ qq1
   have q2 := (S.setCell_other (wd.setCell ⟨W.heap.size + 1, 0, none⟩ (.slice none 0 0)) (W.heap.size + 2) 0 Bx (.int .i64 0) (by omega)).trans qq1
   have m2 := mk _ q2
   have q3 := (S.setCell_other ((wd.setCell ⟨W.heap.size + 1, 0, none⟩ (.slice none 0 0)).setCell ⟨W.heap.size + 2, 0, none⟩ (.int .i64 0)) (W.heap.size + 3) 0 Bx (.int .i64 0) (by omega)).trans q2
   have m3 := mk _ q3
   have q4 := (S.setCell_other (((wd.setCell ⟨W.heap.size + 1, 0, none⟩ (.slice none 0 0)).setCell ⟨W.heap.size + 2, 0, none⟩ (.int .i64 0)).setCell ⟨W.heap.size + 3, 0, none⟩ (.int .i64 0)) (W.heap.size + 4) 0 Bx (.int .i64 d.p.1) (by omega)).trans q3
   have m4 := mk _ q4
   have q5 := (S.setCell_other ((((wd.setCell ⟨W.heap.size + 1, 0, none⟩ (.slice none 0 0)).setCell ⟨W.heap.size + 2, 0, none⟩ (.int .i64 0)).setCell ⟨W.heap.size + 3, 0, none⟩ (.int .i64 0)).setCell ⟨W.heap.size + 4, 0, none⟩ (.int .i64 d.p.1)) (W.heap.size + 4) 1 Bx (.int .i64 d.p.2) (by omega)).trans q4
   have m5 := mk _ q5
   have q6 := (S.setCell_other (((((wd.setCell ⟨W.heap.size + 1, 0, none⟩ (.slice none 0 0)).setCell ⟨W.heap.size + 2, 0, none⟩ (.int .i64 0)).setCell ⟨W.heap.size + 3, 0, none⟩ (.int .i64 0)).setCell ⟨W.heap.size + 4, 0, none⟩ (.int .i64 d.p.1)).setCell ⟨W.heap.size + 4, 1, none⟩ (.int .i64 d.p.2)) (W.heap.size + 5) 0 Bx (.int .i64 pe) (by omega)).trans q5
   have m6 := mk _ q6
   have x1 : ((((((wd.setCell ⟨W.heap.size + 1, 0, none⟩ (.slice none 0 0)).setCell ⟨W.heap.size + 2, 0, none⟩ (.int .i64 0)).setCell ⟨W.heap.size + 3, 0, none⟩ (.int .i64 0)).setCell ⟨W.heap.size + 4, 0, none⟩ (.int .i64 d.p.1)).setCell ⟨W.heap.size + 4, 1, none⟩ (.int .i64 d.p.2)).setCell ⟨W.heap.size + 5, 0, none⟩ (.int .i64 pe)).heap[W.heap.size + 1]? = some (.cells [.slice none 0 0].toArray 92 (0, 0)) := ((S.setCell_other _ (W.heap.size + 5) 0 (W.heap.size + 1) (.int .i64 pe) (by omega)).trans ((S.setCell_other _ (W.heap.size + 4) 1 (W.heap.size + 1) (.int .i64 d.p.2) (by omega)).trans ((S.setCell_other _ (W.heap.size + 4) 0 (W.heap.size + 1) (.int .i64 d.p.1) (by omega)).trans ((S.setCell_other _ (W.heap.size + 3) 0 (W.heap.size + 1) (.int .i64 0) (by omega)).trans ((S.setCell_other _ (W.heap.size + 2) 0 (W.heap.size + 1) (.int .i64 0) (by omega)).trans (S.setCell_heap _ (W.heap.size + 1) 0 _ 92 (.slice none 0 0) k1))))))
   have x2 : ((((((wd.setCell ⟨W.heap.size + 1, 0, none⟩ (.slice none 0 0)).setCell ⟨W.heap.size + 2, 0, none⟩ (.int .i64 0)).setCell ⟨W.heap.size + 3, 0, none⟩ (.int .i64 0)).setCell ⟨W.heap.size + 4, 0, none⟩ (.int .i64 d.p.1)).setCell ⟨W.heap.size + 4, 1, none⟩ (.int .i64 d.p.2)).setCell ⟨W.heap.size + 5, 0, none⟩ (.int .i64 pe)).heap[W.heap.size + 2]? = some (.cells [.int .i64 0].toArray 3 (0, 0)) := ((S.setCell_other _ (W.heap.size + 5) 0 (W.heap.size + 2) (.int .i64 pe) (by omega)).trans ((S.setCell_other _ (W.heap.size + 4) 1 (W.heap.size + 2) (.int .i64 d.p.2) (by omega)).trans ((S.setCell_other _ (W.heap.size + 4) 0 (W.heap.size + 2) (.int .i64 d.p.1) (by omega)).trans ((S.setCell_other _ (W.heap.size + 3) 0 (W.heap.size + 2) (.int .i64 0) (by omega)).trans (S.setCell_heap _ (W.heap.size + 2) 0 _ 3 (.int .i64 0) ((S.setCell_other _ (W.heap.size + 1) 0 (W.heap.size + 2) (.slice none 0 0) (by omega)).trans k2))))))
   have x3 : ((((((wd.setCell ⟨W.heap.size + 1, 0, none⟩ (.slice none 0 0)).setCell ⟨W.heap.size + 2, 0, none⟩ (.int .i64 0)).setCell ⟨W.heap.size + 3, 0, none⟩ (.int .i64 0)).setCell ⟨W.heap.size + 4, 0, none⟩ (.int .i64 d.p.1)).setCell ⟨W.heap.size + 4, 1, none⟩ (.int .i64 d.p.2)).setCell ⟨W.heap.size + 5, 0, none⟩ (.int .i64 pe)).heap[W.heap.size + 3]? = some (.cells [.int .i64 0].toArray 3 (0, 0)) := ((S.setCell_other _ (W.heap.size + 5) 0 (W.heap.size + 3) (.int .i64 pe) (by omega)).trans ((S.setCell_other _ (W.heap.size + 4) 1 (W.heap.size + 3) (.int .i64 d.p.2) (by omega)).trans ((S.setCell_other _ (W.heap.size + 4) 0 (W.heap.size + 3) (.int .i64 d.p.1) (by omega)).trans (S.setCell_heap _ (W.heap.size + 3) 0 _ 3 (.int .i64 0) ((S.setCell_other _ (W.heap.size + 2) 0 (W.heap.size + 3) (.int .i64 0) (by omega)).trans ((S.setCell_other _ (W.heap.size + 1) 0 (W.heap.size + 3) (.slice none 0 0) (by omega)).trans k3))))))
   have x4 : ((((((wd.setCell ⟨W.heap.size + 1, 0, none⟩ (.slice none 0 0)).setCell ⟨W.heap.size + 2, 0, none⟩ (.int .i64 0)).setCell ⟨W.heap.size + 3, 0, none⟩ (.int .i64 0)).setCell ⟨W.heap.size + 4, 0, none⟩ (.int .i64 d.p.1)).setCell ⟨W.heap.size + 4, 1, none⟩ (.int .i64 d.p.2)).setCell ⟨W.heap.size + 5, 0, none⟩ (.int .i64 pe)).heap[W.heap.size + 4]? = some (.cells [.int .i64 d.p.1, .int .i64 d.p.2].toArray 33 (0, 0)) := ((S.setCell_other _ (W.heap.size + 5) 0 (W.heap.size + 4) (.int .i64 pe) (by omega)).trans (S.setCell_heap _ (W.heap.size + 4) 1 _ 33 (.int .i64 d.p.2) (S.setCell_heap _ (W.heap.size + 4) 0 _ 33 (.int .i64 d.p.1) ((S.setCell_other _ (W.heap.size + 3) 0 (W.heap.size + 4) (.int .i64 0) (by omega)).trans ((S.setCell_other _ (W.heap.size + 2) 0 (W.heap.size + 4) (.int .i64 0) (by omega)).trans ((S.setCell_other _ (W.heap.size + 1) 0 (W.heap.size + 4) (.slice none 0 0) (by omega)).trans k4))))))
   have x5 : ((((((wd.setCell ⟨W.heap.size + 1, 0, none⟩ (.slice none 0 0)).setCell ⟨W.heap.size + 2, 0, none⟩ (.int .i64 0)).setCell ⟨W.heap.size + 3, 0, none⟩ (.int .i64 0)).setCell ⟨W.heap.size + 4, 0, none⟩ (.int .i64 d.p.1)).setCell ⟨W.heap.size + 4, 1, none⟩ (.int .i64 d.p.2)).setCell ⟨W.heap.size + 5, 0, none⟩ (.int .i64 pe)).heap[W.heap.size + 5]? = some (.cells [.int .i64 pe].toArray 29 (0, 0)) := (S.setCell_heap _ (W.heap.size + 5) 0 _ 29 (.int .i64 pe) ((S.setCell_other _ (W.heap.size + 4) 1 (W.heap.size + 5) (.int .i64 d.p.2) (by omega)).trans ((S.setCell_other _ (W.heap.size + 4) 0 (W.heap.size + 5) (.int .i64 d.p.1) (by omega)).trans ((S.setCell_other _ (W.heap.size + 3) 0 (W.heap.size + 5) (.int .i64 0) (by omega)).trans ((S.setCell_other _ (W.heap.size + 2) 0 (W.heap.size + 5) (.int .i64 0) (by omega)).trans ((S.setCell_other _ (W.heap.size + 1) 0 (W.heap.size + 5) (.slice none 0 0) (by omega)).trans k5))))))
   have xb : ∀ i, (i < W.heap.size + 1 \/ W.heap.size + 6 <= i) -> ((((((wd.setCell ⟨W.heap.size + 1, 0, none⟩ (.slice none 0 0)).setCell ⟨W.heap.size + 2, 0, none⟩ (.int .i64 0)).setCell ⟨W.heap.size + 3, 0, none⟩ (.int .i64 0)).setCell ⟨W.heap.size + 4, 0, none⟩ (.int .i64 d.p.1)).setCell ⟨W.heap.size + 4, 1, none⟩ (.int .i64 d.p.2)).setCell ⟨W.heap.size + 5, 0, none⟩ (.int .i64 pe)).heap[i]? = wd.heap[i]? := fun i hi => by
    rw [S.setCell_other _ _ _ _ _ (by omega), S.setCell_other _ _ _ _ _ (by omega), S.setCell_other _ _ _ _ _ (by omega), S.setCell_other _ _ _ _ _ (by omega), S.setCell_other _ _ _ _ _ (by omega), S.setCell_other _ _ _ _ _ (by omega)]
   have bw : Below W.heap.size W wd := hI.bel.trans (hB.mono hI.bel.size)
   have b1 : Below W.heap.size W ((((((wd.setCell ⟨W.heap.size + 1, 0, none⟩ (.slice none 0 0)).setCell ⟨W.heap.size + 2, 0, none⟩ (.int .i64 0)).setCell ⟨W.heap.size + 3, 0, none⟩ (.int .i64 0)).setCell ⟨W.heap.size + 4, 0, none⟩ (.int .i64 d.p.1)).setCell ⟨W.heap.size + 4, 1, none⟩ (.int .i64 d.p.2)).setCell ⟨W.heap.size + 5, 0, none⟩ (.int .i64 pe)) := ((((((bw.setCell (p := ⟨W.heap.size + 1, 0, none⟩) (by show W.heap.size <= W.heap.size + 1; omega) (.slice none 0 0)).setCell (p := ⟨W.heap.size + 2, 0, none⟩) (by show W.heap.size <= W.heap.size + 2; omega) (.int .i64 0)).setCell (p := ⟨W.heap.size + 3, 0, none⟩) (by show W.heap.size <= W.heap.size + 3; omega) (.int .i64 0)).setCell (p := ⟨W.heap.size + 4, 0, none⟩) (by show W.heap.size <= W.heap.size + 4; omega) (.int .i64 d.p.1)).setCell (p := ⟨W.heap.size + 4, 1, none⟩) (by show W.heap.size <= W.heap.size + 4; omega) (.int .i64 d.p.2)).setCell (p := ⟨W.heap.size + 5, 0, none⟩) (by show W.heap.size <= W.heap.size + 5; omega) (.int .i64 pe))
   have hox : OX W ds (k + 1) ((((((wd.setCell ⟨W.heap.size + 1, 0, none⟩ (.slice none 0 0)).setCell ⟨W.heap.size + 2, 0, none⟩ (.int .i64 0)).setCell ⟨W.heap.size + 3, 0, none⟩ (.int .i64 0)).setCell ⟨W.heap.size + 4, 0, none⟩ (.int .i64 d.p.1)).setCell ⟨W.heap.size + 4, 1, none⟩ (.int .i64 d.p.2)).setCell ⟨W.heap.size + 5, 0, none⟩ (.int .i64 pe)) := ⟨b1, ⟨d, HC.out.1, by omega, hI.fit, by rw [HPE.out.1]; exact HPE.out.2, x4⟩, x1, x2, x3, by rw [HPE.out.1]; exact x5⟩
   have hkeep : ∀ i, w0.heap.size <= i -> i <= w0.heap.size + 2 -> ((((((wd.setCell ⟨W.heap.size + 1, 0, none⟩ (.slice none 0 0)).setCell ⟨W.heap.size + 2, 0, none⟩ (.int .i64 0)).setCell ⟨W.heap.size + 3, 0, none⟩ (.int .i64 0)).setCell ⟨W.heap.size + 4, 0, none⟩ (.int .i64 d.p.1)).setCell ⟨W.heap.size + 4, 1, none⟩ (.int .i64 d.p.2)).setCell ⟨W.heap.size + 5, 0, none⟩ (.int .i64 pe)).heap[i]? = A.heap[i]? := fun i h1 h2 => (xb i (by omega)).trans (hB.block i (by omega))
   have HOX := hid hox
   have HKP := hid hkeep
   have f1 := S.frozen_of wd (W.heap.size + 1) 0 _ 92 k1
   have f2 := S.frozen_of wd (W.heap.size + 2) 0 _ 3 k2
   have f3 := S.frozen_of wd (W.heap.size + 3) 0 _ 3 k3
   have f4 := S.frozen_of wd (W.heap.size + 4) 0 _ 33 k4
   have f5 := S.frozen_of wd (W.heap.size + 4) 1 _ 33 k4
   have f6 := S.frozen_of wd (W.heap.size + 5) 0 _ 29 k5
   have e1 := S.cell_of wd (W.heap.size + 1) 0 _ 92 _ k1 rfl
   have e2 := S.cell_of wd (W.heap.size + 2) 0 _ 3 _ k2 rfl
   have e3 := S.cell_of wd (W.heap.size + 3) 0 _ 3 _ k3 rfl
   have e4 := S.cell_of wd (W.heap.size + 4) 0 _ 33 _ k4 rfl
   have e5 := S.cell_of wd (W.heap.size + 4) 1 _ 33 _ k4 rfl
   have e6 := S.cell_of wd (W.heap.size + 5) 0 _ 29 _ k5 rfl
   have HM := hid (And.intro m1 (And.intro m2 (And.intro m3 (And.intro m5 m6))))
   clear q0 qq1 q2 q3 q4 q5 q6 m1 m2 m3 m4 m5 m6 x1 x2 x3 x4 x5 xb bw b1 hox hkeep k1 k2 k3 k4 k5 mk hI hX1 hB
   refine D.zH (is := [0, 1, 2]) ?_
   iterate 3
    refine D.yH (v := ?_) rfl (by kernel_rfl) (fun c a w h => h) (by rfl) ?_ hHeld ?_
    rotate_left
    ·(intro w hSw; (try dsimp only at hSw); go_simp; try with_reducible rfl)
    simp only [D.pts]
   refine D.eH ?_
   refine wpAnyH_ready (rs := [3]) (by kernel_rfl) (by simp) ?_
   refine AllReadyH.cons rfl (fun K hK => ?_) AllReadyH.nil
   go_simp
   refine hK.out _ _ (by exact HM.out.1) (fun hHeld => ?_)
   clear hK K
   try simp only [D.pts]
   refine wpAnyH_ready (rs := [4]) (by kernel_rfl) (by simp) ?_
   refine AllReadyH.cons rfl (fun K hK => ?_) AllReadyH.nil
   go_simp
   refine hK.out _ _ (by exact HM.out.2.1) (fun hHeld => ?_)
   clear hK K
   try simp only [D.pts]
   refine wpAnyH_ready (rs := [5]) (by kernel_rfl) (by simp) ?_
   refine AllReadyH.cons rfl (fun K hK => ?_) AllReadyH.nil
   go_simp
   refine hK.out _ _ (by exact HM.out.2.2.1) (fun hHeld => ?_)
   clear hK K
   try simp only [D.pts]
   refine wpAnyH_ready (rs := [6]) (by kernel_rfl) (by simp) ?_
   refine AllReadyH.cons rfl (fun K hK => ?_) AllReadyH.nil
   go_simp
   refine hK.out _ _ (by exact HM.out.2.2.2.1) (fun hHeld => ?_)
   clear hK K
   try simp only [D.pts]
   refine wpAnyH_ready (rs := [7]) (by kernel_rfl) (by simp) ?_
   refine AllReadyH.cons rfl (fun K hK => ?_) AllReadyH.nil
   go_simp
   refine hK.out _ _ (by exact HM.out.2.2.2.2) (fun hHeld => ?_)
   clear hK K
   try simp only [D.pts]
   refine wpAnyH_done (by kernel_rfl) ?_ _
   clear e1 e2 e3 e4 e5 e6 f1 f2 f3 f4 f5 f6 hHeld
   generalize ((((((wd.setCell ⟨W.heap.size + 1, 0, none⟩ (.slice none 0 0)).setCell ⟨W.heap.size + 2, 0, none⟩ (.int .i64 0)).setCell ⟨W.heap.size + 3, 0, none⟩ (.int .i64 0)).setCell ⟨W.heap.size + 4, 0, none⟩ (.int .i64 d.p.1)).setCell ⟨W.heap.size + 4, 1, none⟩ (.int .i64 d.p.2)).setCell ⟨W.heap.size + 5, 0, none⟩ (.int .i64 pe)) = A7 at HOX HKP ⊢
   gi_wp2
   exact ⟨HKP.out, HOX.out⟩
 case done =>
  intro A hI hK
  refine hK2 _ _ ?_
  refine wpIn_wide.2 ?_
  obtain ⟨v, h1, ho⟩ := hI.row
  obtain ⟨vp, vm, vc, rfl⟩ := own_slice ho
  have h1' : A.heap[W.heap.size + 1]? = some (.cells [.slice vp vm vc].toArray 92 (0, 0)) := h1
  have g1 := S.cell_of A (W.heap.size + 1) 0 [.slice vp vm vc] 92 _ h1 rfl
  have g6 := S.cell_of A (W.heap.size + 6) 1 _ 136 _ hI.b6 rfl
  have g7 := S.cell_of A (W.heap.size + 6) 2 _ 136 _ hI.b6 rfl
  have f1 := S.frozen_of A (W.heap.size + 1) 0 [.slice vp vm vc] 92 h1
  have f2 := S.frozen_of A (W.heap.size + 2) 0 [_] 3 hI.b2
  have f3 := S.frozen_of A (W.heap.size + 3) 0 [_] 3 hI.b3
  have f4 := S.frozen_of A (W.heap.size + 4) 0 [_, _] 33 hI.b4
  have f5 := S.frozen_of A (W.heap.size + 4) 1 [_, _] 33 hI.b4
  have f6 := S.frozen_of A (W.heap.size + 5) 0 [_] 29 hI.b5
  have e2 := S.cell_of A (W.heap.size + 2) 0 [_] 3 _ hI.b2 rfl
  have e3 := S.cell_of A (W.heap.size + 3) 0 [_] 3 _ hI.b3 rfl
  have e4 := S.cell_of A (W.heap.size + 4) 0 [_, _] 33 _ hI.b4 rfl
  have e5 := S.cell_of A (W.heap.size + 4) 1 [_, _] 33 _ hI.b4 rfl
  have e6 := S.cell_of A (W.heap.size + 5) 0 [_] 29 _ hI.b5 rfl
  have HI := hid hI
  have HR := hid ho
  have HK := hid hK
  have H1 := hid h1
  have h6 : A.heap[W.heap.size + 6]? = some (.cells [.int .i64 (rms ds ds.length).1, .int .i64 (rms ds ds.length).2.1, .int .i64 (rms ds ds.length).2.2].toArray 136 (0, 0)) := hI.b6
  have hb2 : A.heap[W.heap.size + 2]? = some (.cells [.int .i64 0].toArray 3 (0, 0)) := hI.b2
  have hb3 : A.heap[W.heap.size + 3]? = some (.cells [.int .i64 0].toArray 3 (0, 0)) := hI.b3
  have hb4 : A.heap[W.heap.size + 4]? = some (.cells [.int .i64 0, .int .i64 0].toArray 33 (0, 0)) := hI.b4
  have hb5 : A.heap[W.heap.size + 5]? = some (.cells [.int .i64 0].toArray 29 (0, 0)) := hI.b5
  clear hI ho hK h1 hK2 HD hb0 hI0
  generalize hzc : (rms ds ds.length).2.1 = zc at *
  generalize hzr : (rms ds ds.length).2.2 = zr at *
  have HZC := hid (And.intro hzc hzr)
  clear hzc hzr
  have mk : ∀ w' : World, w'.heap[W.heap.size + 1]? = some (.cells [.slice vp vm vc].toArray 92 (0, 0)) -> w'.heap[W.heap.size + 6]? = some (.cells [.int .i64 (rms ds ds.length).1, .int .i64 zc, .int .i64 zr].toArray 136 (0, 0)) -> (w'.drew.cell? ⟨W.heap.size + 1, 0, none⟩ = some (.slice vp vm vc) /\ w'.drew.cell? ⟨W.heap.size + 6, 1, none⟩ = some (.int .i64 zc) /\ w'.drew.cell? ⟨W.heap.size + 6, 2, none⟩ = some (.int .i64 zr)) := fun w' a b => ⟨S.cell_of w' _ 0 [_] 92 _ a rfl, S.cell_of w' _ 1 [_, _, _] 136 _ b rfl, S.cell_of w' _ 2 [_, _, _] 136 _ b rfl⟩
  have p0 := h1'
  have q0 : A.heap[W.heap.size + 6]? = some (.cells [.int .i64 (rms ds ds.length).1, .int .i64 zc, .int .i64 zr].toArray 136 (0, 0)) := h6
  have m0 := mk A p0 q0
  have p1 : (A.setCell ⟨W.heap.size + 1, 0, none⟩ (.slice vp vm vc)).heap[W.heap.size + 1]? = some (.cells [.slice vp vm vc].toArray 92 (0, 0)) := S.setCell_heap A (W.heap.size + 1) 0 [.slice vp vm vc] 92 (.slice vp vm vc) p0
  have q1 := (S.setCell_other A (W.heap.size + 1) 0 (W.heap.size + 6) (.slice vp vm vc) (by omega)).trans q0
  have m1 := mk _ p1 q1
  have p2 := (S.setCell_other (A.setCell ⟨W.heap.size + 1, 0, none⟩ (.slice vp vm vc)) (W.heap.size + 2) 0 (W.heap.size + 1) (.int .i64 zc) (by omega)).trans p1
  have q2 := (S.setCell_other (A.setCell ⟨W.heap.size + 1, 0, none⟩ (.slice vp vm vc)) (W.heap.size + 2) 0 (W.heap.size + 6) (.int .i64 zc) (by omega)).trans q1
  have m2 := mk _ p2 q2
  have p3 := (S.setCell_other ((A.setCell ⟨W.heap.size + 1, 0, none⟩ (.slice vp vm vc)).setCell ⟨W.heap.size + 2, 0, none⟩ (.int .i64 zc)) (W.heap.size + 3) 0 (W.heap.size + 1) (.int .i64 zr) (by omega)).trans p2
  have q3 := (S.setCell_other ((A.setCell ⟨W.heap.size + 1, 0, none⟩ (.slice vp vm vc)).setCell ⟨W.heap.size + 2, 0, none⟩ (.int .i64 zc)) (W.heap.size + 3) 0 (W.heap.size + 6) (.int .i64 zr) (by omega)).trans q2
  have m3 := mk _ p3 q3
  have p4 := (S.setCell_other (((A.setCell ⟨W.heap.size + 1, 0, none⟩ (.slice vp vm vc)).setCell ⟨W.heap.size + 2, 0, none⟩ (.int .i64 zc)).setCell ⟨W.heap.size + 3, 0, none⟩ (.int .i64 zr)) (W.heap.size + 4) 0 (W.heap.size + 1) (.int .i64 0) (by omega)).trans p3
  have q4 := (S.setCell_other (((A.setCell ⟨W.heap.size + 1, 0, none⟩ (.slice vp vm vc)).setCell ⟨W.heap.size + 2, 0, none⟩ (.int .i64 zc)).setCell ⟨W.heap.size + 3, 0, none⟩ (.int .i64 zr)) (W.heap.size + 4) 0 (W.heap.size + 6) (.int .i64 0) (by omega)).trans q3
  have m4 := mk _ p4 q4
  have p5 := (S.setCell_other ((((A.setCell ⟨W.heap.size + 1, 0, none⟩ (.slice vp vm vc)).setCell ⟨W.heap.size + 2, 0, none⟩ (.int .i64 zc)).setCell ⟨W.heap.size + 3, 0, none⟩ (.int .i64 zr)).setCell ⟨W.heap.size + 4, 0, none⟩ (.int .i64 0)) (W.heap.size + 4) 1 (W.heap.size + 1) (.int .i64 0) (by omega)).trans p4
  have q5 := (S.setCell_other ((((A.setCell ⟨W.heap.size + 1, 0, none⟩ (.slice vp vm vc)).setCell ⟨W.heap.size + 2, 0, none⟩ (.int .i64 zc)).setCell ⟨W.heap.size + 3, 0, none⟩ (.int .i64 zr)).setCell ⟨W.heap.size + 4, 0, none⟩ (.int .i64 0)) (W.heap.size + 4) 1 (W.heap.size + 6) (.int .i64 0) (by omega)).trans q4
  have m5 := mk _ p5 q5
  have p6 := (S.setCell_other (((((A.setCell ⟨W.heap.size + 1, 0, none⟩ (.slice vp vm vc)).setCell ⟨W.heap.size + 2, 0, none⟩ (.int .i64 zc)).setCell ⟨W.heap.size + 3, 0, none⟩ (.int .i64 zr)).setCell ⟨W.heap.size + 4, 0, none⟩ (.int .i64 0)).setCell ⟨W.heap.size + 4, 1, none⟩ (.int .i64 0)) (W.heap.size + 5) 0 (W.heap.size + 1) (.int .i64 0) (by omega)).trans p5
  have q6 := (S.setCell_other (((((A.setCell ⟨W.heap.size + 1, 0, none⟩ (.slice vp vm vc)).setCell ⟨W.heap.size + 2, 0, none⟩ (.int .i64 zc)).setCell ⟨W.heap.size + 3, 0, none⟩ (.int .i64 zr)).setCell ⟨W.heap.size + 4, 0, none⟩ (.int .i64 0)).setCell ⟨W.heap.size + 4, 1, none⟩ (.int .i64 0)) (W.heap.size + 5) 0 (W.heap.size + 6) (.int .i64 0) (by omega)).trans q5
  have m6 := mk _ p6 q6
  have z2 : ((((((A.setCell ⟨W.heap.size + 1, 0, none⟩ (.slice vp vm vc)).setCell ⟨W.heap.size + 2, 0, none⟩ (.int .i64 zc)).setCell ⟨W.heap.size + 3, 0, none⟩ (.int .i64 zr)).setCell ⟨W.heap.size + 4, 0, none⟩ (.int .i64 0)).setCell ⟨W.heap.size + 4, 1, none⟩ (.int .i64 0)).setCell ⟨W.heap.size + 5, 0, none⟩ (.int .i64 0)).heap[W.heap.size + 2]? = some (.cells [.int .i64 zc].toArray 3 (0, 0)) := ((S.setCell_other _ (W.heap.size + 5) 0 (W.heap.size + 2) (.int .i64 0) (by omega)).trans ((S.setCell_other _ (W.heap.size + 4) 1 (W.heap.size + 2) (.int .i64 0) (by omega)).trans ((S.setCell_other _ (W.heap.size + 4) 0 (W.heap.size + 2) (.int .i64 0) (by omega)).trans ((S.setCell_other _ (W.heap.size + 3) 0 (W.heap.size + 2) (.int .i64 zr) (by omega)).trans (S.setCell_heap _ (W.heap.size + 2) 0 _ 3 (.int .i64 zc) ((S.setCell_other _ (W.heap.size + 1) 0 (W.heap.size + 2) (.slice vp vm vc) (by omega)).trans hb2))))))
  have z3 : ((((((A.setCell ⟨W.heap.size + 1, 0, none⟩ (.slice vp vm vc)).setCell ⟨W.heap.size + 2, 0, none⟩ (.int .i64 zc)).setCell ⟨W.heap.size + 3, 0, none⟩ (.int .i64 zr)).setCell ⟨W.heap.size + 4, 0, none⟩ (.int .i64 0)).setCell ⟨W.heap.size + 4, 1, none⟩ (.int .i64 0)).setCell ⟨W.heap.size + 5, 0, none⟩ (.int .i64 0)).heap[W.heap.size + 3]? = some (.cells [.int .i64 zr].toArray 3 (0, 0)) := ((S.setCell_other _ (W.heap.size + 5) 0 (W.heap.size + 3) (.int .i64 0) (by omega)).trans ((S.setCell_other _ (W.heap.size + 4) 1 (W.heap.size + 3) (.int .i64 0) (by omega)).trans ((S.setCell_other _ (W.heap.size + 4) 0 (W.heap.size + 3) (.int .i64 0) (by omega)).trans (S.setCell_heap _ (W.heap.size + 3) 0 _ 3 (.int .i64 zr) ((S.setCell_other _ (W.heap.size + 2) 0 (W.heap.size + 3) (.int .i64 zc) (by omega)).trans ((S.setCell_other _ (W.heap.size + 1) 0 (W.heap.size + 3) (.slice vp vm vc) (by omega)).trans hb3))))))
  have z4 : ((((((A.setCell ⟨W.heap.size + 1, 0, none⟩ (.slice vp vm vc)).setCell ⟨W.heap.size + 2, 0, none⟩ (.int .i64 zc)).setCell ⟨W.heap.size + 3, 0, none⟩ (.int .i64 zr)).setCell ⟨W.heap.size + 4, 0, none⟩ (.int .i64 0)).setCell ⟨W.heap.size + 4, 1, none⟩ (.int .i64 0)).setCell ⟨W.heap.size + 5, 0, none⟩ (.int .i64 0)).heap[W.heap.size + 4]? = some (.cells [.int .i64 0, .int .i64 0].toArray 33 (0, 0)) := ((S.setCell_other _ (W.heap.size + 5) 0 (W.heap.size + 4) (.int .i64 0) (by omega)).trans (S.setCell_heap _ (W.heap.size + 4) 1 _ 33 (.int .i64 0) (S.setCell_heap _ (W.heap.size + 4) 0 _ 33 (.int .i64 0) ((S.setCell_other _ (W.heap.size + 3) 0 (W.heap.size + 4) (.int .i64 zr) (by omega)).trans ((S.setCell_other _ (W.heap.size + 2) 0 (W.heap.size + 4) (.int .i64 zc) (by omega)).trans ((S.setCell_other _ (W.heap.size + 1) 0 (W.heap.size + 4) (.slice vp vm vc) (by omega)).trans hb4))))))
  have z5 : ((((((A.setCell ⟨W.heap.size + 1, 0, none⟩ (.slice vp vm vc)).setCell ⟨W.heap.size + 2, 0, none⟩ (.int .i64 zc)).setCell ⟨W.heap.size + 3, 0, none⟩ (.int .i64 zr)).setCell ⟨W.heap.size + 4, 0, none⟩ (.int .i64 0)).setCell ⟨W.heap.size + 4, 1, none⟩ (.int .i64 0)).setCell ⟨W.heap.size + 5, 0, none⟩ (.int .i64 0)).heap[W.heap.size + 5]? = some (.cells [.int .i64 0].toArray 29 (0, 0)) := (S.setCell_heap _ (W.heap.size + 5) 0 _ 29 (.int .i64 0) ((S.setCell_other _ (W.heap.size + 4) 1 (W.heap.size + 5) (.int .i64 0) (by omega)).trans ((S.setCell_other _ (W.heap.size + 4) 0 (W.heap.size + 5) (.int .i64 0) (by omega)).trans ((S.setCell_other _ (W.heap.size + 3) 0 (W.heap.size + 5) (.int .i64 zr) (by omega)).trans ((S.setCell_other _ (W.heap.size + 2) 0 (W.heap.size + 5) (.int .i64 zc) (by omega)).trans ((S.setCell_other _ (W.heap.size + 1) 0 (W.heap.size + 5) (.slice vp vm vc) (by omega)).trans hb5))))))
  have zb : ∀ i, (i < W.heap.size + 1 \/ W.heap.size + 6 <= i) -> ((((((A.setCell ⟨W.heap.size + 1, 0, none⟩ (.slice vp vm vc)).setCell ⟨W.heap.size + 2, 0, none⟩ (.int .i64 zc)).setCell ⟨W.heap.size + 3, 0, none⟩ (.int .i64 zr)).setCell ⟨W.heap.size + 4, 0, none⟩ (.int .i64 0)).setCell ⟨W.heap.size + 4, 1, none⟩ (.int .i64 0)).setCell ⟨W.heap.size + 5, 0, none⟩ (.int .i64 0)).heap[i]? = A.heap[i]? := fun i hi => by
   rw [S.setCell_other _ _ _ _ _ (by omega), S.setCell_other _ _ _ _ _ (by omega), S.setCell_other _ _ _ _ _ (by omega), S.setCell_other _ _ _ _ _ (by omega), S.setCell_other _ _ _ _ _ (by omega), S.setCell_other _ _ _ _ _ (by omega)]
  have b1 : Below W.heap.size W ((((((A.setCell ⟨W.heap.size + 1, 0, none⟩ (.slice vp vm vc)).setCell ⟨W.heap.size + 2, 0, none⟩ (.int .i64 zc)).setCell ⟨W.heap.size + 3, 0, none⟩ (.int .i64 zr)).setCell ⟨W.heap.size + 4, 0, none⟩ (.int .i64 0)).setCell ⟨W.heap.size + 4, 1, none⟩ (.int .i64 0)).setCell ⟨W.heap.size + 5, 0, none⟩ (.int .i64 0)) := ((((((HI.out.bel.setCell (p := ⟨W.heap.size + 1, 0, none⟩) (by show W.heap.size <= W.heap.size + 1; omega) (.slice vp vm vc)).setCell (p := ⟨W.heap.size + 2, 0, none⟩) (by show W.heap.size <= W.heap.size + 2; omega) (.int .i64 zc)).setCell (p := ⟨W.heap.size + 3, 0, none⟩) (by show W.heap.size <= W.heap.size + 3; omega) (.int .i64 zr)).setCell (p := ⟨W.heap.size + 4, 0, none⟩) (by show W.heap.size <= W.heap.size + 4; omega) (.int .i64 0)).setCell (p := ⟨W.heap.size + 4, 1, none⟩) (by show W.heap.size <= W.heap.size + 4; omega) (.int .i64 0)).setCell (p := ⟨W.heap.size + 5, 0, none⟩) (by show W.heap.size <= W.heap.size + 5; omega) (.int .i64 0))
  have fin6 : Fin6 W A ((((((A.setCell ⟨W.heap.size + 1, 0, none⟩ (.slice vp vm vc)).setCell ⟨W.heap.size + 2, 0, none⟩ (.int .i64 zc)).setCell ⟨W.heap.size + 3, 0, none⟩ (.int .i64 zr)).setCell ⟨W.heap.size + 4, 0, none⟩ (.int .i64 0)).setCell ⟨W.heap.size + 4, 1, none⟩ (.int .i64 0)).setCell ⟨W.heap.size + 5, 0, none⟩ (.int .i64 0)) (.slice vp vm vc) zc zr := ⟨p6, z2, z3, z4, z5, zb, b1⟩
  have HP := hid fin6.drew
  clear p0 p1 p2 p3 p4 p5 p6 q0 q1 q2 q3 q4 q5 q6 z2 z3 z4 z5 zb b1 fin6 mk hb2 hb3 hb4 hb5 h6 h1'
  go_wp2_with fail
  refine wp_region_noPanic ?_
  go_region_held (fun w' => w'.cell? ⟨W.heap.size + 1, 0, none⟩ = some (.slice vp vm vc) /\ w'.cell? ⟨W.heap.size + 6, 1, none⟩ = some (.int .i64 zc) /\ w'.cell? ⟨W.heap.size + 6, 2, none⟩ = some (.int .i64 zr)) (first | (with_reducible exact m0) | (with_reducible exact m1) | (with_reducible exact m2) | (with_reducible exact m3) | (with_reducible exact m4) | (with_reducible exact m5) | (with_reducible exact m6)) (fail)
  refine NoPanic.normal ?_
  clear m0 m1 m2 m3 m4 m5 m6 g1 g6 g7 f1 f2 f3 f4 f5 f6 e2 e3 e4 e5 e6
  generalize ((((((A.setCell ⟨W.heap.size + 1, 0, none⟩ (.slice vp vm vc)).setCell ⟨W.heap.size + 2, 0, none⟩ (.int .i64 zc)).setCell ⟨W.heap.size + 3, 0, none⟩ (.int .i64 zr)).setCell ⟨W.heap.size + 4, 0, none⟩ (.int .i64 0)).setCell ⟨W.heap.size + 4, 1, none⟩ (.int .i64 0)).setCell ⟨W.heap.size + 5, 0, none⟩ (.int .i64 0)).drew = A6 at HP ⊢
  go_wp2
  have HK3 : A6.heap[(W.heap.size + 9)]? = some (.deferred (some [])) := (HP.out.zb _ (by omega)).trans (by rw [<- sz0]; exact HK.out)
  have gp : ∀ i, i ≠ (W.heap.size + 9) -> (A6.putObj (W.heap.size + 9) (.deferred none)).heap[i]? = A6.heap[i]? := fun i hi => World.putObj_heap_other hi
  have k1 := S.cell_of (A6.putObj (W.heap.size + 9) (.deferred none)) (W.heap.size + 1) 0 [_] 92 _ ((gp _ (by omega)).trans HP.out.z1) rfl
  have k2 := S.cell_of (A6.putObj (W.heap.size + 9) (.deferred none)) (W.heap.size + 2) 0 [_] 3 _ ((gp _ (by omega)).trans HP.out.z2) rfl
  have k3 := S.cell_of (A6.putObj (W.heap.size + 9) (.deferred none)) (W.heap.size + 3) 0 [_] 3 _ ((gp _ (by omega)).trans HP.out.z3) rfl
  have k4 := S.cell_of (A6.putObj (W.heap.size + 9) (.deferred none)) (W.heap.size + 4) 0 [_, _] 33 _ ((gp _ (by omega)).trans HP.out.z4) rfl
  have k5 := S.cell_of (A6.putObj (W.heap.size + 9) (.deferred none)) (W.heap.size + 4) 1 [_, _] 33 _ ((gp _ (by omega)).trans HP.out.z4) rfl
  have k6 := S.cell_of (A6.putObj (W.heap.size + 9) (.deferred none)) (W.heap.size + 5) 0 [_] 29 _ ((gp _ (by omega)).trans HP.out.z5) rfl
  have hB1 : Below W.heap.size W (A6.putObj (W.heap.size + 9) (.deferred none)) := by
   have b1 := HP.out.bel
   exact ⟨b1.os, b1.tape, b1.output, by rw [World.putObj_size]; exact b1.size, fun i hi => (gp i (by omega)).trans (b1.block i hi)⟩
  refine ⟨by simp, .inl ⟨_, _, rfl, run_takeDeferred HK3, ?_⟩⟩
  refine ⟨.tuple #[.slice vp vm vc, .int .i64 zc, .int .i64 zr, .agg #[.int .i64 0, .int .i64 0], .int .i64 0], ?_, .inl ⟨.slice vp vm vc, HI.out.fit, by rw [HZC.out.1, HZC.out.2], ?_⟩, hB1⟩
  ·simp [results, Tryz.results32, go_sem, k1, k2, k3, k4, k5, k6]
  ·refine S.own_mono (S.own_kept HR.out fun g hg hlt => ?_) (by omega : W.heap.size <= W.heap.size + 12)
   have := own_ge HR.out g hg
   exact (gp g (by omega)).trans (HP.out.zb g (by omega))
 case stop =>
  intro k A hk hX hK
  gi_wp2
  have hX2 := hX.kept (A' := A.putObj w0.heap.size (.deferred none)) (GN.put _ _ _ _ (by omega))
  obtain ⟨d, hd, _, hf, hp, h4⟩ := hX2.ex
  have g1 := S.cell_of _ (W.heap.size + 1) 0 [_] 92 _ hX2.b1 rfl
  have g2 := S.cell_of _ (W.heap.size + 2) 0 [_] 3 _ hX2.b2 rfl
  have g3 := S.cell_of _ (W.heap.size + 3) 0 [_] 3 _ hX2.b3 rfl
  have g4 := S.cell_of _ (W.heap.size + 4) 0 [_, _] 33 _ h4 rfl
  have g5 := S.cell_of _ (W.heap.size + 4) 1 [_, _] 33 _ h4 rfl
  have g6 := S.cell_of _ (W.heap.size + 5) 0 [_] 29 _ hX2.b5 rfl
  refine ⟨by simp, .inl ⟨_, _, rfl, run_takeDeferred hK, ?_⟩⟩
  refine ⟨.tuple #[.slice none 0 0, .int .i64 0, .int .i64 0, .agg #[.int .i64 d.p.1, .int .i64 d.p.2], .int .i64 (ps (rms ds (k + 1)))], ?_, .inr ⟨k, d, hd, hf, hp, rfl⟩, hX2.bel⟩
  simp [results, Tryz.results32, go_sem, g1, g2, g3, g4, g5, g6]
end Go.Proofs.YtoemoiehjdmheaaGreat.Y
