import Derived.Test.YteeanomkbclinaaYNamM
import Derived.Deep.RegionHeld3
/-! LayoutNames, walked. -/
namespace Go.Proofs.Yteeanomkbclinaa.Y
open Go.RowKit
open Go.Proofs
set_option linter.unusedVariables false
set_option linter.unusedSimpArgs false
set_option maxHeartbeats 4000000
set_option maxRecDepth 100000
theorem cut_dv {W : World} {O : Nat → Prop} {p : Option Addr} {c : Nat} {ds : List Df} (h : DV W O (.slice p ds.length c) ds) (k : Nat) (hk : k ≤ ds.length) : DV W O (.slice p k c) (ds.take k) := by
  obtain ⟨p', c', e, hl, hp⟩ := h
  cases e
  refine ⟨p, c, by rw [List.length_take, Nat.min_eq_left hk], by rw [List.length_take]; omega, fun i d hi => ?_⟩
  rw [List.getElem?_take] at hi
  split at hi
  · exact hp i d hi
  · cases hi
/-- What lies in the world: the place 'there' and what was found. -/
structure NI (W w : World) (a b : Nat) : Prop where
  bel : Below W.heap.size W w
  ge : W.heap.size ≤ a ∧ W.heap.size ≤ b
  t : w.heap[a]? = some (.cells [.int .i64 7, .int .i64 3].toArray 25 (0, 0))
  p : w.heap[b]? = some (.cells [.int .i64 7, .int .i64 3].toArray 25 (0, 0))
theorem NI.next {W w w' : World} {a b : Nat} (h : NI W w a b) {B : Nat} (k : Below B w w') (ha : a < B) (hb : b < B) : NI W w' a b :=
  ⟨h.bel.trans (k.mono (by have := h.ge; omega)), h.ge, (k.block a ha).trans h.t, (k.block b hb).trans h.p⟩
theorem NI.on {W w w' : World} {a b : Nat} (h : NI W w a b) (k : Below w.heap.size w w') : NI W w' a b := h.next k (S.lt_of h.t) (S.lt_of h.p)
/-- .. and the place of the definition that is too many. -/
structure NJ (W w : World) (a b c : Nat) : Prop where
  i : NI W w a b
  ge : W.heap.size ≤ c
  q : w.heap[c]? = some (.cells [.int .i64 512, .int .i64 0].toArray 25 (0, 0))
theorem NJ.next {W w w' : World} {a b c : Nat} (h : NJ W w a b c) {B : Nat} (k : Below B w w') (ha : a < B) (hb : b < B) (hc : c < B) : NJ W w' a b c := ⟨h.i.next k ha hb, h.ge, (k.block c hc).trans h.q⟩
theorem NJ.on {W w w' : World} {a b c : Nat} (h : NJ W w a b c) (k : Below w.heap.size w w') : NJ W w' a b c := ⟨h.i.on k, h.ge, (k.block c (S.lt_of h.q)).trans h.q⟩
theorem sizePs : (Try.prog.info? 25).map (·.size) = some 2 := by kernel_rfl
theorem NV.less {W : World} {O : Nat → Prop} {v : Value} {l : List Nd} (h : NV W O v l) {O' : Nat → Prop} (m : ∀ i, O i → O' i) : NV W O' v l := h.kept (fun _ _ => rfl) m
theorem dup_plain (n : Nat) : ∀ m ∈ List.replicate n nDup, m.th = [] ∧ m.el = [] := fun m hm => by rw [List.eq_of_mem_replicate hm]; exact ⟨rfl, rfl⟩
theorem nv_of {B n : Nat} (W : World) {v : Value} (h : W.ownsRow B 38 9 v (n + 1) (S.en nz (List.replicate (n + 1) nDup))) (hn : n + 1 ≤ 140737488355328 := by omega) : (∃ q c, v = .slice q (n + 1) c) ∧ NV W (· < W.heap.size) v (List.replicate (n + 1) nDup) := by
  obtain ⟨g, cap, rfl⟩ := S.own_pos h (by omega)
  refine ⟨⟨_, _, rfl⟩, own_nv (l := List.replicate (n + 1) nDup) (by rw [List.length_replicate]; exact h) (nc_plain _ _ _ (dup_plain _)) (by rw [List.length_replicate]; exact hn) fun g' hg => ?_⟩
  rcases h.2 with ⟨e, _⟩ | ⟨g', cap, cur, e, h2, h3, _⟩
  · cases e
  · cases e; cases hg; exact S.lt_of h3
theorem dv_one {W : World} {n g : Nat} {p : Ps} {bv : Value} (h : W.heap[g]? = some (.cells (dfc (dwrd n p) bv).toArray 36 (0, 0))) (hn : NV W (· < W.heap.size) bv (List.replicate n nDup)) : DV W (· < W.heap.size) (.slice (some ⟨g, 0, none⟩) 1 1) [dwrd n p] := by
  refine ⟨_, _, rfl, by simp, fun i d hi => ⟨g, 0, rfl, S.lt_of h, ?_⟩⟩
  match i, hi with
  | 0, hi => cases hi; exact d1_of h rfl hn
  | i + 1, hi => simp at hi
theorem wrong_any (g : Nat) (W : World) (h : DV W (· < W.heap.size) (.slice (some ⟨g, 0, none⟩) 1 1) [dwrd 8127 (7, 3)]) : Calls Try.prog 8 #[.agg #[.slice (some ⟨g, 0, none⟩) 1 1, .slice none 0 0]] W fun e w' => e = .returned (.tuple #[.slice none 0 0, .int .i64 0, .int .i64 0, .agg #[.int .i64 7, .int .i64 3], .int .i64 111]) ∧ Below W.heap.size W w' := by
  refine (of_any _ _ (.slice none 0 0) ⟨_, _, _, rfl⟩ (· < W.heap.size) W (fun _ h => h) h).mono ?_
  rintro e w ⟨hR, k⟩
  refine ⟨?_, k⟩
  rcases hR with ⟨v, hf, _⟩ | ⟨k, d, hk, hf, hn, rfl⟩
  · exact absurd (hf 0 (by simp)) (by rw [wrd_no]; decide)
  · match k, hk with
    | 0, hk => cases hk; rw [wrd_no]; rfl
    | k + 1, hk => simp at hk
/-- An append that finds no room in the row: a new row. -/
theorem wp_append_grow {w : World} {o : Oper} {a : Act} {K : Act → World → Prop} {Q : Exit → Act → World → Prop} (s x : Operand) (ho : o.op = .call { callee := .builtin .append, args := #[s, x], argTypes := #[34, 34] })
    (g n cap : Nat) (hown : w.ownsRow g 38 9 (.slice (some ⟨g, 0, none⟩) n cap) n (S.en nz (List.replicate n nDup)))
    (g4 c4 : Nat) (h4 : w.heap[g4]? = some (.cells (nz nDup).toArray 38 (0, 0)))
    (hs : a.eval s = .slice (some ⟨g, 0, none⟩) n cap) (hx : a.eval x = .slice (some ⟨g4, 0, none⟩) 1 c4)
    (hcap : cap < n + 1) (hn : n ≤ 1000000) 
    (h : ∀ v' w', w'.ownsRow w.heap.size 38 9 v' (n + 1) (S.en nz (List.replicate (n + 1) nDup)) → Below w.heap.size w w' → K (a.put o.dst v') w') : o.wp Try.prog a w K Q := by
  obtain ⟨i0, hi, hz0, hz1, hz2⟩ := info_parts infoNd
  have holds := World.ownsRow.cells hown (g := g) rfl
  obtain ⟨v', w', hr, r1, r2⟩ := run_append_arg_grows (P := Try.prog) w 34 o.type 38 i0 _ 9 112 Try.underlying34 hi hz0 hz1 hz2 rfl (by decide) ⟨g, 0, none⟩ n cap (S.en nz (List.replicate n nDup)) hown.1 holds ⟨g4, 0, none⟩ 1 c4 (nz nDup) rfl (fun j u hj => by rw [Addr.add_lit, Nat.zero_add]; exact S.cell_of w _ j _ _ u h4 hj) hcap (by unfold maxLen; omega) (by omega)
  unfold Oper.wp execOp
  simp only [ho, resolve, invoke, builtin, Sem.run_bind, Sem.run_pure, Result.andThen_ok, List.map_toArray, List.map_cons, List.map_nil, hs, hx, hr]
  refine h v' w' ?_ ⟨r2.os, r2.tape, r2.output, r2.size, fun i hi => r2.block i hi (by simp)⟩
  rw [List.replicate_succ', S.en_append, S.en_cons, S.en_nil, List.append_nil]
  exact r1
/-- All that lies there while the last question is asked. -/
structure RF (W X : World) (a b c g : Nat) : Prop where
  j : NJ W X a b c
  row : X.ownsRow g 38 9 (.slice (some ⟨g, 0, none⟩) 8126 8126) 8126 (S.en nz (List.replicate 8126 nDup))
  l1 : a < g
  l2 : b < g
  l3 : c < g
theorem RF.next {W X X' : World} {a b c g B : Nat} (h : RF W X a b c g) (k : Below B X X') (hB : g < B) : RF W X' a b c g :=
  ⟨h.j.next k (Nat.lt_trans h.l1 hB) (Nat.lt_trans h.l2 hB) (Nat.lt_trans h.l3 hB), S.own_kept h.row fun g' hg _ => k.block g' (by cases hg; exact hB), h.l1, h.l2, h.l3⟩
theorem RF.g {W X : World} {a b c g : Nat} (h : RF W X a b c g) : g < X.heap.size := (World.ownsRow.lt h.row g rfl).2
theorem RF.on {W X X' : World} {a b c g : Nat} (h : RF W X a b c g) (k : Below X.heap.size X X') : RF W X' a b c g := h.next k h.g
theorem RF.lt {W X : World} {a b c g : Nat} (h : RF W X a b c g) : a < X.heap.size ∧ b < X.heap.size ∧ c < X.heap.size ∧ g < X.heap.size := by
  have := h.g; have := h.l1; have := h.l2; have := h.l3
  exact ⟨by omega, by omega, by omega, by omega⟩
theorem RF.drew {W X : World} {a b c g : Nat} (h : RF W X a b c g) : RF W X.drew a b c g := h.on (Below.refl _ X).drew
theorem RF.s {W X : World} {a b c g : Nat} (h : RF W X a b c g) : X.cell? ⟨g, 0, none⟩ = some (.int .i64 1) ∧ X.cell? ⟨g, 1, none⟩ = some (.int .i64 12) ∧ X.cell? ⟨g, 2, none⟩ = some (.int .u16 0) ∧ X.cell? ⟨g, 3, none⟩ = some (.string ⟨#[]⟩) ∧ X.cell? ⟨g, 4, none⟩ = some (.slice none 0 0) ∧ X.cell? ⟨g, 5, none⟩ = some (.slice none 0 0) ∧ X.cell? ⟨g, 6, none⟩ = some (.bool false) ∧ X.cell? ⟨g, 7, none⟩ = some (.int .i64 0) ∧ X.cell? ⟨g, 8, none⟩ = some (.int .i64 0) ∧ X.cell? ⟨a, 0, none⟩ = some (.int .i64 7) ∧ X.cell? ⟨a, 1, none⟩ = some (.int .i64 3) := by
  have q : ∀ (j : Nat) (u : Value), (nz nDup)[j]? = some u → X.cell? ⟨g, j, none⟩ = some u := fun j u hj => by
    have hl : j < 9 := by rw [← hNz nDup]; exact (List.getElem?_eq_some_iff.1 hj).1
    have e := S.en_get hNz (List.replicate 8126 nDup) 0 j nDup (by rw [List.getElem?_replicate]; rfl) hl
    rw [Nat.zero_mul, Nat.zero_add] at e
    have := World.ownsRow.cells h.row (g := g) rfl j u (by rw [e]; exact hj)
    rw [Addr.add_lit, Nat.zero_add] at this
    exact this
  exact ⟨q 0 _ rfl, q 1 _ rfl, q 2 _ rfl, q 3 _ rfl, q 4 _ rfl, q 5 _ rfl, q 6 _ rfl, q 7 _ rfl, q 8 _ rfl, S.cell_of X a 0 _ _ _ h.j.i.t rfl, S.cell_of X a 1 _ _ _ h.j.i.t rfl⟩
theorem RF.store {W X : World} {a b c g A : Nat} (h : RF W X a b c g) (hA : X.heap[A]? = some (.cells [.int .i64 0, .int .i64 0].toArray 25 (0, 0)) ∧ a < A ∧ b < A ∧ c < A ∧ g < A) : RF W (X.setRow A #[.int .i64 7, .int .i64 3]) a b c g ∧ (X.setRow A #[.int .i64 7, .int .i64 3]).heap[A]? = some (.cells [.int .i64 7, .int .i64 3].toArray 25 (0, 0)) :=
  ⟨h.next (B := A) ⟨rfl, rfl, rfl, by rw [size_setRow]; exact Nat.le_refl _, fun k hk => setRow_other X A k _ (by omega)⟩ hA.2.2.2.2, setRow_heap X A _ _ _ _ hA.1⟩
theorem infoDf : (Try.prog.info? 36).map (fun i => (i.zero, i.size, i.bytes)) = some (some (.agg #[.int .i64 0, .string ⟨#[]⟩, .int .u16 0, .slice none 0 0, .int .i64 0, .int .i64 0]), 6, 72) := by kernel_rfl
theorem names_walk (W : World) : Calls Try.prog 3 #[] W fun e w' => e = .returned (.bool true) ∧ Below W.heap.size W w' := by
  go_enter Try.func3, Try.ntmps3
  go_wp2_with fail
  refine (fixed_any _).mono ?_
  rintro e w0 ⟨rfl, k0⟩
  have H0 := hid k0
  clear k0
  go_wp2_with fail
  refine (of_any [] _ (.slice none 0 0) ⟨_, _, _, rfl⟩ (· < w0.heap.size) w0 (fun _ h => h) ⟨none, 0, rfl, by simp, fun i d hi => by simp at hi⟩).mono ?_
  rintro e w1 ⟨hR, k1⟩
  rcases hR with ⟨v, _, rfl, ho⟩ | ⟨k, d, hk, _⟩
  case inr => simp at hk
  have hv : ∃ p c, v = .slice p 0 c := by
    rcases ho.2 with ⟨rfl, e⟩ | ⟨g, cap, cur, rfl, _⟩
    · exact ⟨none, 0, rfl⟩
    · exact ⟨_, _, rfl⟩
  obtain ⟨vp, vc, rfl⟩ := hv
  have e1 : (rms [] ([] : List Df).length).2.1 = 128 := rfl
  have e2 : (rms [] ([] : List Df).length).2.2 = 0 := rfl
  rw [e1, e2]
  have H1 := hid (H0.out.trans (k1.mono H0.out.size))
  clear ho e1 e2 H0 k1
  go_wp2_with fail
  simp only [Nat.add_assoc, Nat.reduceAdd]
  obtain ⟨w2, hw2⟩ : ∃ w2, ((w1.alloc (.cells #[.int .i64 0, .int .i64 0] 25)).alloc (.cells #[.int .i64 7, .int .i64 3] 25)).alloc (.cells #[.int .i64 3, .string ⟨#[]⟩, .int .u16 16384, .slice none 0 0, .int .i64 0, .int .i64 0, .int .i64 3, .string ⟨#[]⟩, .int .u16 1, .slice none 0 0, .int .i64 7, .int .i64 3] 36) = w2 := ⟨_, rfl⟩
  have sz2 : w2.heap.size = w1.heap.size + 3 := by rw [← hw2]; simp
  have b2 : Below w1.heap.size w1 w2 := by rw [← hw2]; exact (((Below.refl _ w1).alloc (Nat.le_refl _) _).alloc (by simp) _).alloc (by simp; omega) _
  have x1 : w2.heap[w1.heap.size + 1]? = some (.cells [.int .i64 7, .int .i64 3].toArray 25 (0, 0)) := by
    rw [← hw2]; exact (((Below.refl _ _).alloc (Nat.le_refl _) _).block _ (by simp)).trans (heap_alloc2_new w1 _ _)
  have x2 : w2.heap[w1.heap.size + 2]? = some (.cells [.int .i64 3, .string ⟨#[]⟩, .int .u16 16384, .slice none 0 0, .int .i64 0, .int .i64 0, .int .i64 3, .string ⟨#[]⟩, .int .u16 1, .slice none 0 0, .int .i64 7, .int .i64 3].toArray 36 (0, 0)) := by
    rw [← hw2]
    have := heap_alloc_new ((w1.alloc (.cells #[.int .i64 0, .int .i64 0] 25)).alloc (.cells #[.int .i64 7, .int .i64 3] 25)) (.cells #[.int .i64 3, .string ⟨#[]⟩, .int .u16 16384, .slice none 0 0, .int .i64 0, .int .i64 0, .int .i64 3, .string ⟨#[]⟩, .int .u16 1, .slice none 0 0, .int .i64 7, .int .i64 3] 36)
    simpa [World.size_alloc, Nat.add_assoc] using this
  have dv2 : DV w2 (· < w2.heap.size) (.slice (some ⟨w1.heap.size + 2, 0, none⟩) 2 2) over := by
    refine ⟨_, _, rfl, by decide, fun i d hi => ⟨w1.heap.size + 2, 0, rfl, by show w1.heap.size + 2 < w2.heap.size; omega, ?_⟩⟩
    match i, hi with
    | 0, hi => cases hi; exact d1_of x2 rfl (nv_nil _ _)
    | 1, hi => cases hi; exact d1_of x2 rfl (nv_nil _ _)
    | i + 2, hi => simp [over] at hi
  rw [hw2]
  refine (of_any over _ (.slice none 0 0) ⟨_, _, _, rfl⟩ (· < w2.heap.size) w2 (fun _ h => h) dv2).mono ?_
  rintro e w3 ⟨hR, k3⟩
  have hR : e = .returned (.tuple #[.slice none 0 0, .int .i64 0, .int .i64 0, .agg #[.int .i64 7, .int .i64 3], .int .i64 112]) := by
    rcases hR with ⟨v, hf, _⟩ | ⟨k, d, hk, hf, hn, rfl⟩
    · exact absurd (hf 1 (by decide)) (by rw [over_2]; decide)
    · match k, hk, hn with
      | 0, _, hn => exact absurd over_1 hn
      | 1, hk, hn => cases hk; rw [over_2]
      | k + 2, hk, _ => simp [over] at hk
  subst hR
  have b3 : Below w1.heap.size w1 w3 := b2.trans (k3.mono b2.size)
  have x3 : w3.heap[w1.heap.size + 1]? = _ := (k3.block _ (S.lt_of x1)).trans x1
  have hle : W.heap.size ≤ w1.heap.size + 1 := Nat.le_succ_of_le H1.out.size
  have H3 := hid (And.intro (H1.out.trans (b3.mono H1.out.size)) (And.intro x3 (And.intro hle (Nat.le_trans H1.out.size b3.size))))
  clear hle hw2 sz2 b2 x1 x2 dv2 k3 b3 x3 H1
  generalize w1.heap.size + 1 = a at *
  go_wp2
  obtain ⟨b, hb⟩ : ∃ b, b = w3.heap.size := ⟨_, rfl⟩
  obtain ⟨w4, hw4⟩ : ∃ w4, w4 = w3.alloc (.cells #[.int .i64 7, .int .i64 3] 25) := ⟨_, rfl⟩
  have hI : NI W w4 a b := by
    have b4 : Below w3.heap.size w3 w4 := by rw [hw4]; exact (Below.refl _ w3).alloc (Nat.le_refl _) _
    refine ⟨H3.out.1.trans (b4.mono H3.out.1.size), ⟨?_, ?_⟩, (b4.block _ (S.lt_of H3.out.2.1)).trans H3.out.2.1, by rw [hw4, hb]; exact heap_alloc_new w3 _⟩
    · have := H3.out.2.2.1; omega
    · have := H3.out.2.2; omega
  rw [← hb, ← hw4]
  have HI := hid hI
  clear hw4 hb hI H3
  go_loopw [13, 14] (fun v i wr => ∃ k : Nat, k ≤ 513 ∧ i = .int .i64 (k : Int) ∧ wr.ownsRow w4.heap.size 36 6 v k (S.en dz (many k)) ∧ Below w4.heap.size w4 wr) (fun _ i _ => 513 - (intOf i).toNat)
  case atStart => exact ⟨0, by omega, rfl, World.ownsRow_nil w4 _ _ _, Below.refl _ _⟩
  case round =>
    obtain ⟨k, hk, rfl, ho, hb⟩ := hrel
    by_cases hlt : k < 513
    · have i1 : (k : Int) < 513 := by omega
      obtain ⟨p, m, c, rfl⟩ := own_slice ho
      obtain ⟨wa, hwa⟩ : ∃ wa, wa = wr.alloc (.cells (dz (dcon k)).toArray 36) := ⟨_, rfl⟩
      have ba : Below wr.heap.size wr wa := by rw [hwa]; exact (Below.refl _ wr).alloc (Nat.le_refl _) _
      have xa : wa.heap[wr.heap.size]? = some (.cells (dz (dcon k)).toArray 36 (0, 0)) := by rw [hwa]; exact heap_alloc_new wr _
      have oa := S.own_kept ho fun g _ hg => ba.block g hg
      have hcs : S.Cs wa (.slice (some ⟨wr.heap.size, 0, none⟩) 1 1) 6 1 (dz (dcon k)) := .inr ⟨_, _, rfl, rfl, fun j u hj => by rw [Addr.add_lit, Nat.zero_add]; exact S.cell_of wa _ j _ _ u xa hj, by intro u hu; simp [dz, dfc, dcon] at hu; rcases hu with rfl | rfl | rfl | rfl | rfl | rfl <;> rfl⟩
      have hwz : wr.alloc (.cells #[.int .i64 2, .string ⟨#[]⟩, .int .u16 0, .slice none 0 0, .int .i64 (k : Int), .int .i64 0] 36) = wa := by rw [hwa]; rfl
      have hsz : w4.heap.size ≤ wa.heap.size := Nat.le_trans hb.size ba.size
      have HB := hid (And.intro hb (And.intro ba (And.intro ho hwz)))
      clear hb ba ho hwa xa hwz
      go_wp2_with (rw [HB.out.2.2.2]; refine S.wpList_append_row wa rfl _ _ 29 36 _ 6 72 Try.underlying29 infoDf rfl (by decide) rfl w4.heap.size _ k (S.en dz (many k)) rfl oa _ 1 (dz (dcon k)) rfl hcs (by unfold S.room; omega) (by unfold maxLen; omega) hsz (fun v1 w5 hr1 hg1 => ?_); have HG := hid (And.intro hr1 hg1); clear hr1 hg1)
      refine ⟨⟨k + 1, by omega, by rw [Int.natCast_add]; rfl, ?_, ?_⟩, by simp only [intOf]; omega⟩
      · have := HG.out.1
        rw [many_succ, S.en_append, S.en_cons, S.en_nil, List.append_nil]
        exact this
      · exact HB.out.1.trans ((HB.out.2.1.mono HB.out.1.size).trans (HG.out.2.below (B := w4.heap.size) (fun g hg => own_ge oa g hg) hsz))
    · obtain rfl : k = 513 := by omega
      obtain ⟨g, cap, rfl⟩ := S.own_pos ho (by omega)
      have hcap : 513 ≤ cap := by
        rcases ho.2 with ⟨h', _⟩ | ⟨g', cap', cur, h', _, _, hnc, _⟩
        · simp at h'
        · cases h'; exact hnc
      have hcap1 : (512 : Int) ≤ (cap : Int) := by omega
      have hcap2 : 512 ≤ cap := by omega
      have ml : (many 513).length = 513 := many_len 513
      have nb : ∀ d ∈ many 513, d.body = [] := by
        intro d hd
        simp only [many, List.mem_map] at hd
        obtain ⟨i, _, rfl⟩ := hd
        rfl
      have dv := own_dv (ds := many 513) (by rw [ml]; exact ho) nb (by rw [ml]; omega)
      have hJ := HI.out.next hb (S.lt_of HI.out.t) (S.lt_of HI.out.p)
      have HD := hid (And.intro dv hJ)
      clear dv hJ ho hb HI nb
      go_wp2_with fail
      refine (of_any (many 513) _ (.slice none 0 0) ⟨_, _, _, rfl⟩ (· < wr.heap.size) wr (fun _ h => h) HD.out.1).mono ?_
      rintro e w6 ⟨hR, k6⟩
      have hR : e = .returned (.tuple #[.slice none 0 0, .int .i64 0, .int .i64 0, .agg #[.int .i64 512, .int .i64 0], .int .i64 110]) := by
        rcases hR with ⟨v, hf, _⟩ | ⟨k, d, hk, hf, hn, rfl⟩
        · exact absurd (hf 512 (by rw [ml]; omega)) (by rw [many_513]; decide)
        · have hk2 : k < 513 := by rw [← ml]; exact (List.getElem?_eq_some_iff.1 hk).1
          by_cases h5 : k = 512
          · subst h5
            rw [many_get 513 512 (by omega)] at hk
            cases hk
            rw [many_513]; rfl
          · exact absurd (many_ps 513 (k + 1) (by omega) (by omega)) hn
      subst hR
      have HD := hid (And.intro (HD.out.1.below k6 (fun _ h => h)) (And.intro k6.size (HD.out.2.on k6)))
      clear k6
      go_wp2_with fail
      obtain ⟨cc, hcc⟩ : ∃ cc, cc = w6.heap.size := ⟨_, rfl⟩
      obtain ⟨w7, hw7⟩ : ∃ w7, w7 = w6.alloc (.cells #[.int .i64 512, .int .i64 0] 25) := ⟨_, rfl⟩
      have b7 : Below w6.heap.size w6 w7 := by rw [hw7]; exact (Below.refl _ w6).alloc (Nat.le_refl _) _
      have hJ : NJ W w7 a b cc := ⟨HD.out.2.2.on b7, by rw [hcc]; exact HD.out.2.2.bel.size, by rw [hw7, hcc]; exact heap_alloc_new w6 _⟩
      have dv7 := cut_dv (ds := many 513) (k := 512) (p := some ⟨g, 0, none⟩) (c := cap) (O := (· < w7.heap.size)) (W := w7) (by
        rw [ml]
        exact DV.kept HD.out.1 (fun i hi => b7.block i (Nat.lt_of_lt_of_le hi HD.out.2.1)) (fun i hi => Nat.lt_of_lt_of_le (Nat.lt_of_lt_of_le hi HD.out.2.1) b7.size)) (by rw [ml]; omega)
      rw [many_take 513 512 (by omega)] at dv7
      rw [← hw7, ← hcc]
      have HJ := hid hJ
      clear hw7 hcc hJ b7 HD
      refine (of_any (many 512) _ (.slice none 0 0) ⟨_, _, _, rfl⟩ (· < w7.heap.size) w7 (fun _ h => h) dv7).mono ?_
      rintro e w8 ⟨hR, k8⟩
      have ml2 : (many 512).length = 512 := many_len 512
      have hR : ∃ p c, e = .returned (.tuple #[.slice p 512 c, .int .i64 2176, .int .i64 0, .agg #[.int .i64 0, .int .i64 0], .int .i64 0]) := by
        rcases hR with ⟨v, hf, rfl, ho⟩ | ⟨k, d, hk, hf, hn, rfl⟩
        · rw [ml2] at ho
          obtain ⟨g2, c2, rfl⟩ := S.own_pos ho (by omega)
          refine ⟨some ⟨g2, 0, none⟩, c2, ?_⟩
          rw [ml2, many_rms 512 512 (by omega) (by omega)]
          rfl
        · have hk2 : k < 512 := by rw [← ml2]; exact (List.getElem?_eq_some_iff.1 hk).1
          exact absurd (many_ps 512 (k + 1) (by omega) (by omega)) hn
      obtain ⟨lp, lc, rfl⟩ := hR
      have HJ := hid (HJ.out.on k8)
      clear k8 dv7 ml ml2 hcap hcap1 hcap2
      obtain ⟨zr, hzr⟩ : ∃ zr, zr = madeCells zN.cells (8126 * 9) := ⟨_, rfl⟩
      have hmk : ∀ W : World, (Instr.makeSlice 34 (.int .i64 8126) (.int .i64 8126)).run Try.prog W = .ok (.slice (some ⟨W.heap.size, 0, none⟩) 8126 8126) (W.alloc (.cells zr 38)) := fun W => by
        rw [hzr]; exact run_make_any W 34 38 zN 9 112 Try.underlying34 infoNd 8126 (by omega) (by decide)
      have HZ := hid hzr
      clear hzr
      go_wp2
      obtain ⟨w9, hw9⟩ : ∃ w9, w9 = w8.alloc (.cells #[.int .i64 0, .int .i64 0] 25) := ⟨_, rfl⟩
      have b9 : Below w8.heap.size w8 w9 := by rw [hw9]; exact (Below.refl _ w8).alloc (Nat.le_refl _) _
      have sz9 : w8.heap.size + 1 = w9.heap.size := by rw [hw9]; simp
      obtain ⟨gB, hgB⟩ : ∃ gB, gB = w9.heap.size := ⟨_, rfl⟩
      obtain ⟨wA, hwA⟩ : ∃ wA, wA = w9.alloc (.cells zr 38) := ⟨_, rfl⟩
      have bA : Below w9.heap.size w9 wA := by rw [hwA]; exact (Below.refl _ w9).alloc (Nat.le_refl _) _
      have oA : wA.ownsRow gB 38 9 (.slice (some ⟨gB, 0, none⟩) 8126 8126) 8126 (S.en nz (fill 0)) := by
        have := own_made w9 8126 (by decide)
        rw [hwA, HZ.out, hgB]
        exact this
      have hJ := (HJ.out.on b9).on bA
      have hJ9 := HJ.out.on b9
      have HJ := hid (And.intro hJ (And.intro (S.lt_of hJ9.i.t) (And.intro (S.lt_of hJ9.i.p) (S.lt_of hJ9.q))))
      rw [← hgB] at HJ
      rw [← hw9, ← hwA, sz9, ← hgB]
      clear hw9 b9 sz9 hgB hwA bA hJ hJ9 hmk HZ
      go_loopw [26] (fun i wr => ∃ k : Nat, k ≤ 8126 ∧ i = .int .i64 (k : Int) ∧ wr.ownsRow gB 38 9 (.slice (some ⟨gB, 0, none⟩) 8126 8126) 8126 (S.en nz (fill k)) ∧ Below gB wA wr) (fun i _ => 8126 - (intOf i).toNat)
      case atStart => exact ⟨0, by omega, rfl, oA, Below.refl _ _⟩
      case round =>
        obtain ⟨k, hk, rfl, ho, hb⟩ := hrel
        by_cases hlt : k < 8126
        · have i1 : (k : Int) < 8126 := by omega
          have i2 : (0 : Int) ≤ (k : Int) := by omega
          have HB := hid hb
          clear hb oA
          go_wp2_with (refine wpList_store_at rfl 38 _ _ rfl gB 38 9 gB 8126 8126 _ ho k hlt (nz nDup) rfl (by simp [Act.eval]) rfl (by kernel_rfl) (by intro u hu; simp [nz, ndc, nDup] at hu; rcases hu with rfl | rfl | rfl | rfl | rfl | rfl | rfl | rfl | rfl <;> rfl) (fun w5 hr1 hg1 hg2 hg3 hg4 hg5 => ?_); have HG := hid (And.intro hr1 (And.intro hg1 (And.intro hg2 (And.intro hg3 (And.intro hg4 hg5))))); clear hr1 hg1 hg2 hg3 hg4 hg5)
          refine ⟨⟨k + 1, by omega, by rw [Int.natCast_add]; rfl, ?_, ?_⟩, by simp only [intOf]; omega⟩
          · have := HG.out.1
            rw [en_set hNz (fill k) k nDup (by rw [fill_len k hk]; omega), fill_set k hlt] at this
            exact this
          · exact HB.out.trans ⟨HG.out.2.2.2.1, HG.out.2.2.2.2.1, HG.out.2.2.2.2.2, Nat.le_of_eq HG.out.2.2.1.symm, fun i hi => HG.out.2.1 i (by omega)⟩
        · obtain rfl : k = 8126 := by omega
          rw [fill_all] at ho
          have hR0 : RF W wr a b cc gB := ⟨HJ.out.1.next hb HJ.out.2.1 HJ.out.2.2.1 HJ.out.2.2.2, ho, HJ.out.2.1, HJ.out.2.2.1, HJ.out.2.2.2⟩
          have hnv := (nv_of wr ho).2
          obtain ⟨wB, hwB⟩ : ∃ wB, wr.alloc (.cells #[.int .i64 1, .string ⟨#[]⟩, .int .u16 0, .slice (some ⟨gB, 0, none⟩) 8126 8126, .int .i64 0, .int .i64 0] 36) = wB := ⟨_, rfl⟩
          have kB : Below wr.heap.size wr wB := by rw [← hwB]; exact (Below.refl _ wr).alloc (Nat.le_refl _) _
          have xB : wB.heap[wr.heap.size]? = some (.cells (dfc (dwrd 8126 (0, 0)) (.slice (some ⟨gB, 0, none⟩) 8126 8126)).toArray 36 (0, 0)) := by rw [← hwB]; exact heap_alloc_new wr _
          have dvB := dv_one (n := 8126) (p := (0, 0)) xB (NV.kept (O' := (· < wB.heap.size)) hnv (fun i hi => kB.block i hi) (fun i hi => Nat.lt_of_lt_of_le hi kB.size))
          have HRB := hid (hR0.on kB)
          have HWB := hid hwB
          clear ho hb hnv hR0 kB xB hwB HJ oA
          go_wp2_with fail
          rw [HWB.out]
          refine (of_any _ _ (.slice none 0 0) ⟨_, _, _, rfl⟩ (· < wB.heap.size) wB (fun _ h => h) dvB).mono ?_
          rintro e wC ⟨hR, kC⟩
          have hR : ∃ p c, e = .returned (.tuple #[.slice p 1 c, .int .i64 16384, .int .i64 0, .agg #[.int .i64 0, .int .i64 0], .int .i64 0]) := by
            rcases hR with ⟨v, hf, rfl, ho⟩ | ⟨k, d, hk, hf, hn, rfl⟩
            · obtain ⟨g2, c2, rfl⟩ := S.own_pos ho (by simp)
              refine ⟨some ⟨g2, 0, none⟩, c2, ?_⟩
              have e1 : (rms [dwrd 8126 (0, 0)] [dwrd 8126 (0, 0)].length).2.1 = 16384 := by
                show (rms [dwrd 8126 (0, 0)] 1).2.1 = 16384
                rw [wrd_rms _ _ (by omega)]; rfl
              have e2 : (rms [dwrd 8126 (0, 0)] [dwrd 8126 (0, 0)].length).2.2 = 0 := by
                show (rms [dwrd 8126 (0, 0)] 1).2.2 = 0
                rw [wrd_rms _ _ (by omega)]
              rw [e1, e2]
              rfl
            · match k, hk with
              | 0, hk => exact absurd (wrd_ok _) hn
              | k + 1, hk => simp at hk
          obtain ⟨fp, fc, rfl⟩ := hR
          have kD : Below wC.heap.size wC (wC.alloc (.cells #[.int .i64 0, .int .i64 0] 25)) := (Below.refl _ wC).alloc (Nat.le_refl _) _
          have HRd := hid ((HRB.out.on kC).on kD).drew
          clear kC kD dvB HRB HWB
          go_wp2_with fail
          -- region 22
          refine wp_region_held_drew (S := (fun wz : World => wz.cell? ⟨gB, 0, none⟩ = some (.int .i64 1) ∧ wz.cell? ⟨gB, 1, none⟩ = some (.int .i64 12) ∧ wz.cell? ⟨gB, 2, none⟩ = some (.int .u16 0) ∧ wz.cell? ⟨gB, 3, none⟩ = some (.string ⟨#[]⟩) ∧ wz.cell? ⟨gB, 4, none⟩ = some (.slice none 0 0) ∧ wz.cell? ⟨gB, 5, none⟩ = some (.slice none 0 0) ∧ wz.cell? ⟨gB, 6, none⟩ = some (.bool false) ∧ wz.cell? ⟨gB, 7, none⟩ = some (.int .i64 0) ∧ wz.cell? ⟨gB, 8, none⟩ = some (.int .i64 0) ∧ wz.cell? ⟨a, 0, none⟩ = some (.int .i64 7) ∧ wz.cell? ⟨a, 1, none⟩ = some (.int .i64 3))) (by kernel_rfl) HRd.out.s (fun hHeld => ?_)
          generalize hdr : World.drew _ = y0 at *
          have HRy0 := HRd
          clear HRd hdr
          refine wpAnyH_take (i := 0) (v := ?_) rfl (by kernel_rfl) (by kernel_rfl) (by kernel_rfl) (fun c a w h => h) (Or.inl ⟨by rfl, ?_⟩) hHeld ?_
          rotate_left
          · (intro w hSw; (try dsimp only at hSw); go_simp; try with_reducible rfl)
          simp only [Act.put, List.getElem_toArray, List.getElem_cons_zero, List.getElem_cons_succ, List.setIfInBounds_toArray, List.set_cons_zero, List.set_cons_succ]
          refine wpAnyH_take (i := 1) (v := ?_) rfl (by kernel_rfl) (by kernel_rfl) (by kernel_rfl) (fun c a w h => h) (Or.inl ⟨by rfl, ?_⟩) hHeld ?_
          rotate_left
          · (intro w hSw; (try dsimp only at hSw); go_simp; try with_reducible rfl)
          simp only [Act.put, List.getElem_toArray, List.getElem_cons_zero, List.getElem_cons_succ, List.setIfInBounds_toArray, List.set_cons_zero, List.set_cons_succ]
          refine wpAnyH_take (i := 2) (v := ?_) rfl (by kernel_rfl) (by kernel_rfl) (by kernel_rfl) (fun c a w h => h) (Or.inl ⟨by rfl, ?_⟩) hHeld ?_
          rotate_left
          · (intro w hSw; (try dsimp only at hSw); go_simp; try with_reducible rfl)
          simp only [Act.put, List.getElem_toArray, List.getElem_cons_zero, List.getElem_cons_succ, List.setIfInBounds_toArray, List.set_cons_zero, List.set_cons_succ]
          refine wpAnyH_take (i := 3) (v := ?_) rfl (by kernel_rfl) (by kernel_rfl) (by kernel_rfl) (fun c a w h => h) (Or.inl ⟨by rfl, ?_⟩) hHeld ?_
          rotate_left
          · (intro w hSw; (try dsimp only at hSw); go_simp; try with_reducible rfl)
          simp only [Act.put, List.getElem_toArray, List.getElem_cons_zero, List.getElem_cons_succ, List.setIfInBounds_toArray, List.set_cons_zero, List.set_cons_succ]
          refine wpAnyH_take (i := 6) (v := ?_) rfl (by kernel_rfl) (by kernel_rfl) (by kernel_rfl) (fun c a w h => h) (Or.inl ⟨by rfl, ?_⟩) hHeld ?_
          rotate_left
          · (intro w hSw; (try dsimp only at hSw); go_simp; try with_reducible rfl)
          simp only [Act.put, List.getElem_toArray, List.getElem_cons_zero, List.getElem_cons_succ, List.setIfInBounds_toArray, List.set_cons_zero, List.set_cons_succ]
          refine wpAnyH_ready (rs := [4, 17]) (by kernel_rfl) (by simp) ?_
          refine AllReadyH.cons rfl (fun K hK => ?_) ?_
          · go_simp
            have kk : Below y0.heap.size y0 (y0.alloc (.cells #[.int .i64 1, .int .i64 12, .int .u16 0, .string ⟨#[]⟩, .slice none 0 0, .slice none 0 0, .bool false, .int .i64 0, .int .i64 0] 38)) := (Below.refl _ _).alloc (Nat.le_refl _) _
            have hz : (y0.alloc (.cells #[.int .i64 1, .int .i64 12, .int .u16 0, .string ⟨#[]⟩, .slice none 0 0, .slice none 0 0, .bool false, .int .i64 0, .int .i64 0] 38)).heap[y0.heap.size]? = some (.cells #[.int .i64 1, .int .i64 12, .int .u16 0, .string ⟨#[]⟩, .slice none 0 0, .slice none 0 0, .bool false, .int .i64 0, .int .i64 0] 38 (0, 0)) := heap_alloc_new y0 _
            generalize y0.alloc (.cells #[.int .i64 1, .int .i64 12, .int .u16 0, .string ⟨#[]⟩, .slice none 0 0, .slice none 0 0, .bool false, .int .i64 0, .int .i64 0] 38) = y1 at *
            obtain ⟨g4, hbn⟩ : ∃ bn, y0.heap.size = bn := ⟨_, rfl⟩
            have HRy1 := hid (HRy0.out.on kk)
            have H4y1 := hid (show y1.heap[g4]? = some (.cells (nz nDup).toArray 38 (0, 0)) from by rw [← hbn]; exact hz)
            have s9 := HRy1.out.s
            rw [hbn]
            refine hK.out _ _ s9 (fun hHeld => ?_)
            clear hK K s9 hbn hz kk HRy0
            try simp only [Act.put, List.getElem_toArray, List.getElem_cons_zero, List.getElem_cons_succ, List.setIfInBounds_toArray, List.set_cons_zero, List.set_cons_succ]
            refine wpAnyH_ready (rs := [5, 17]) (by kernel_rfl) (by simp) ?_
            refine AllReadyH.cons rfl (fun K hK => ?_) ?_
            · rw [if_pos (by rfl)]
              refine wp_append_grow (.tmp 128) (.tmp 132) rfl gB 8126 8126 HRy1.out.row g4 1 H4y1.out (by simp [Act.eval]) (by simp [Act.eval]) (by omega) (by omega) (fun v5 y2 hr kk => ?_)
              have hnv := nv_of y2 hr
              obtain ⟨q5, c5, rfl⟩ := hnv.1
              have H5y2 := hid hnv.2
              have HRy2 := hid (HRy1.out.on kk)
              have s9 := HRy2.out.s
              refine hK.out _ _ s9 (fun hHeld => ?_)
              clear hK K s9 hr hnv kk HRy1 H4y1
              try simp only [Act.put, List.getElem_toArray, List.getElem_cons_zero, List.getElem_cons_succ, List.setIfInBounds_toArray, List.set_cons_zero, List.set_cons_succ]
              refine wpAnyH_take (i := 7) (v := ?_) rfl (by kernel_rfl) (by kernel_rfl) (by kernel_rfl) (fun c a w h => h) (Or.inl ⟨by rfl, ?_⟩) hHeld ?_
              rotate_left
              · (intro w hSw; (try dsimp only at hSw); go_simp; try with_reducible rfl)
              simp only [Act.put, List.getElem_toArray, List.getElem_cons_zero, List.getElem_cons_succ, List.setIfInBounds_toArray, List.set_cons_zero, List.set_cons_succ]
              refine wpAnyH_ready (rs := [8, 17]) (by kernel_rfl) (by simp) ?_
              refine AllReadyH.cons rfl (fun K hK => ?_) ?_
              · go_simp
                have kk : Below y2.heap.size y2 (y2.alloc (.cells #[.int .i64 1, .string ⟨#[]⟩, .int .u16 0, .slice q5 8127 c5, .int .i64 7, .int .i64 3] 36)) := (Below.refl _ _).alloc (Nat.le_refl _) _
                have hz : (y2.alloc (.cells #[.int .i64 1, .string ⟨#[]⟩, .int .u16 0, .slice q5 8127 c5, .int .i64 7, .int .i64 3] 36)).heap[y2.heap.size]? = some (.cells #[.int .i64 1, .string ⟨#[]⟩, .int .u16 0, .slice q5 8127 c5, .int .i64 7, .int .i64 3] 36 (0, 0)) := heap_alloc_new y2 _
                generalize y2.alloc (.cells #[.int .i64 1, .string ⟨#[]⟩, .int .u16 0, .slice q5 8127 c5, .int .i64 7, .int .i64 3] 36) = y3 at *
                obtain ⟨g8, hbn⟩ : ∃ bn, y2.heap.size = bn := ⟨_, rfl⟩
                have HRy3 := hid (HRy2.out.on kk)
                have H5y3 := hid (NV.kept (O' := (· < y3.heap.size)) H5y2.out (fun i hi => kk.block i hi) (fun i hi => Nat.lt_of_lt_of_le hi kk.size))
                have H8y3 := hid (dv_one (n := 8127) (p := (7, 3)) (show y3.heap[g8]? = some (.cells (dfc (dwrd 8127 (7, 3)) (.slice q5 8127 c5)).toArray 36 (0, 0)) from by rw [← hbn]; exact hz) H5y3.out)
                have s9 := HRy3.out.s
                rw [hbn]
                refine hK.out _ _ s9 (fun hHeld => ?_)
                clear hK K s9 hbn hz kk H5y3 HRy2 H5y2
                try simp only [Act.put, List.getElem_toArray, List.getElem_cons_zero, List.getElem_cons_succ, List.setIfInBounds_toArray, List.set_cons_zero, List.set_cons_succ]
                refine wpAnyH_take (i := 9) (v := ?_) rfl (by kernel_rfl) (by kernel_rfl) (by kernel_rfl) (fun c a w h => h) (Or.inl ⟨by rfl, ?_⟩) hHeld ?_
                rotate_left
                · (intro w hSw; (try dsimp only at hSw); go_simp; try with_reducible rfl)
                simp only [Act.put, List.getElem_toArray, List.getElem_cons_zero, List.getElem_cons_succ, List.setIfInBounds_toArray, List.set_cons_zero, List.set_cons_succ]
                refine wpAnyH_ready (rs := [10, 17]) (by kernel_rfl) (by simp) ?_
                refine AllReadyH.cons rfl (fun K hK => ?_) ?_
                · go_simp
                  refine (wrong_any g8 y3 H8y3.out).mono ?_
                  rintro e y4 ⟨rfl, kk⟩
                  have HRy4 := hid (HRy3.out.on kk)
                  have s9 := HRy4.out.s
                  refine hK.out _ _ s9 (fun hHeld => ?_)
                  clear hK K s9 kk HRy3 H8y3
                  try simp only [Act.put, List.getElem_toArray, List.getElem_cons_zero, List.getElem_cons_succ, List.setIfInBounds_toArray, List.set_cons_zero, List.set_cons_succ]
                  refine wpAnyH_take (i := 11) (v := ?_) rfl (by kernel_rfl) (by kernel_rfl) (by kernel_rfl) (fun c a w h => h) (Or.inl ⟨by rfl, ?_⟩) hHeld ?_
                  rotate_left
                  · (intro w hSw; (try dsimp only at hSw); go_simp; try with_reducible rfl)
                  simp only [Act.put, List.getElem_toArray, List.getElem_cons_zero, List.getElem_cons_succ, List.setIfInBounds_toArray, List.set_cons_zero, List.set_cons_succ]
                  refine wpAnyH_take (i := 12) (v := ?_) rfl (by kernel_rfl) (by kernel_rfl) (by kernel_rfl) (fun c a w h => h) (Or.inl ⟨by rfl, ?_⟩) hHeld ?_
                  rotate_left
                  · (intro w hSw; (try dsimp only at hSw); go_simp; try with_reducible rfl)
                  simp only [Act.put, List.getElem_toArray, List.getElem_cons_zero, List.getElem_cons_succ, List.setIfInBounds_toArray, List.set_cons_zero, List.set_cons_succ]
                  refine wpAnyH_take (i := 13) (v := ?_) rfl (by kernel_rfl) (by kernel_rfl) (by kernel_rfl) (fun c a w h => h) (Or.inl ⟨by rfl, ?_⟩) hHeld ?_
                  rotate_left
                  · (intro w hSw; (try dsimp only at hSw); go_simp; try with_reducible rfl)
                  simp only [Act.put, List.getElem_toArray, List.getElem_cons_zero, List.getElem_cons_succ, List.setIfInBounds_toArray, List.set_cons_zero, List.set_cons_succ]
                  refine wpAnyH_take (i := 14) (v := ?_) rfl (by kernel_rfl) (by kernel_rfl) (by kernel_rfl) (fun c a w h => h) (Or.inl ⟨by rfl, ?_⟩) hHeld ?_
                  rotate_left
                  · (intro w hSw; (try dsimp only at hSw); go_simp; try with_reducible rfl)
                  simp only [Act.put, List.getElem_toArray, List.getElem_cons_zero, List.getElem_cons_succ, List.setIfInBounds_toArray, List.set_cons_zero, List.set_cons_succ]
                  refine wpAnyH_take (i := 15) (v := ?_) rfl (by kernel_rfl) (by kernel_rfl) (by kernel_rfl) (fun c a w h => h) (Or.inl ⟨by rfl, ?_⟩) hHeld ?_
                  rotate_left
                  · (intro w hSw; (try dsimp only at hSw); go_simp; try with_reducible rfl)
                  simp only [Act.put, List.getElem_toArray, List.getElem_cons_zero, List.getElem_cons_succ, List.setIfInBounds_toArray, List.set_cons_zero, List.set_cons_succ]
                  refine wpAnyH_take (i := 16) (v := ?_) rfl (by kernel_rfl) (by kernel_rfl) (by kernel_rfl) (fun c a w h => h) (Or.inl ⟨by rfl, ?_⟩) hHeld ?_
                  rotate_left
                  · (intro w hSw; (try dsimp only at hSw); go_simp; try with_reducible rfl)
                  simp only [Act.put, List.getElem_toArray, List.getElem_cons_zero, List.getElem_cons_succ, List.setIfInBounds_toArray, List.set_cons_zero, List.set_cons_succ]
                  refine wpAnyH_ready (rs := [17]) (by kernel_rfl) (by simp) ?_
                  refine AllReadyH.cons rfl (fun K hK => ?_) AllReadyH.nil
                  go_simp
                  have kk : Below y4.heap.size y4 (y4.alloc (.cells #[.int .i64 0, .int .i64 0] 25)) := (Below.refl _ _).alloc (Nat.le_refl _) _
                  have hz : (y4.alloc (.cells #[.int .i64 0, .int .i64 0] 25)).heap[y4.heap.size]? = some (.cells #[.int .i64 0, .int .i64 0] 25 (0, 0)) := heap_alloc_new y4 _
                  generalize y4.alloc (.cells #[.int .i64 0, .int .i64 0] 25) = y5 at *
                  obtain ⟨gA, hbn⟩ : ∃ bn, y4.heap.size = bn := ⟨_, rfl⟩
                  have HRy5 := hid (HRy4.out.on kk)
                  have HAy5 := hid (show y5.heap[gA]? = some (.cells [.int .i64 0, .int .i64 0].toArray 25 (0, 0)) ∧ a < gA ∧ b < gA ∧ cc < gA ∧ gB < gA from ⟨by rw [← hbn]; exact hz, by rw [← hbn]; exact HRy4.out.lt⟩)
                  have s9 := HRy5.out.s
                  rw [hbn]
                  refine hK.out _ _ s9 (fun hHeld => ?_)
                  clear hK K s9 hbn hz kk HRy4
                  try simp only [Act.put, List.getElem_toArray, List.getElem_cons_zero, List.getElem_cons_succ, List.setIfInBounds_toArray, List.set_cons_zero, List.set_cons_succ]
                  refine wpAnyH_take (i := 18) (v := ?_) rfl (by kernel_rfl) (by kernel_rfl) (by kernel_rfl) (fun c a w h => h) (Or.inl ⟨by rfl, ?_⟩) hHeld ?_
                  rotate_left
                  · (intro w hSw; (try dsimp only at hSw); go_simp; try with_reducible rfl)
                  simp only [Act.put, List.getElem_toArray, List.getElem_cons_zero, List.getElem_cons_succ, List.setIfInBounds_toArray, List.set_cons_zero, List.set_cons_succ]
                  refine wpAnyH_take (i := 19) (v := ?_) rfl (by kernel_rfl) (by kernel_rfl) (by kernel_rfl) (fun c a w h => h) (Or.inl ⟨by rfl, ?_⟩) hHeld ?_
                  rotate_left
                  · (intro w hSw; (try dsimp only at hSw); go_simp; try with_reducible rfl)
                  simp only [Act.put, List.getElem_toArray, List.getElem_cons_zero, List.getElem_cons_succ, List.setIfInBounds_toArray, List.set_cons_zero, List.set_cons_succ]
                  refine wpAnyH_take (i := 20) (v := ?_) rfl (by kernel_rfl) (by kernel_rfl) (by kernel_rfl) (fun c a w h => h) (Or.inl ⟨by rfl, ?_⟩) hHeld ?_
                  rotate_left
                  · (intro w hSw; (try dsimp only at hSw); go_simp; try with_reducible rfl)
                  simp only [Act.put, List.getElem_toArray, List.getElem_cons_zero, List.getElem_cons_succ, List.setIfInBounds_toArray, List.set_cons_zero, List.set_cons_succ]
                  refine wpAnyH_ready (rs := [21]) (by kernel_rfl) (by simp) ?_
                  refine AllReadyH.cons rfl (fun K hK => ?_) AllReadyH.nil
                  rw [if_pos (by rfl)]
                  refine wp_store_row 25 _ _ rfl gA #[.int .i64 7, .int .i64 3] (by simp [Act.eval]) (by simp [Act.eval]) 25 #[.int .i64 0, .int .i64 0] HAy5.out.1 (by exact sizePs) (by rfl) (by simp [Value.oneCell']) ?_
                  obtain ⟨hR9, hA9⟩ := RF.store HRy5.out HAy5.out
                  have s9 := hR9.s
                  refine hK.out _ _ s9 (fun hHeld => ?_)
                  have HZ := hid (And.intro hR9 hA9)
                  clear hK K s9 hR9 hA9 HRy5 HAy5
                  generalize y5.setRow gA #[.int .i64 7, .int .i64 3] = yz at *
                  try simp only [Act.put, List.getElem_toArray, List.getElem_cons_zero, List.getElem_cons_succ, List.setIfInBounds_toArray, List.set_cons_zero, List.set_cons_succ]
                  refine wpAnyH_take (i := 22) (v := ?_) rfl (by kernel_rfl) (by kernel_rfl) (by kernel_rfl) (fun c a w h => h) (Or.inl ⟨by rfl, ?_⟩) hHeld ?_
                  rotate_left
                  · (intro w hSw; (try dsimp only at hSw); go_simp; try with_reducible rfl)
                  simp only [Act.put, List.getElem_toArray, List.getElem_cons_zero, List.getElem_cons_succ, List.setIfInBounds_toArray, List.set_cons_zero, List.set_cons_succ]
                  refine wpAnyH_done (by kernel_rfl) ?_ _
                  have e1 := S.cell_of yz a 0 _ 25 _ HZ.out.1.j.i.t rfl
                  have e2 := S.cell_of yz a 1 _ 25 _ HZ.out.1.j.i.t rfl
                  have e3 := S.cell_of yz b 0 _ 25 _ HZ.out.1.j.i.p rfl
                  have e4 := S.cell_of yz b 1 _ 25 _ HZ.out.1.j.i.p rfl
                  have e5 := S.cell_of yz cc 0 _ 25 _ HZ.out.1.j.q rfl
                  have e6 := S.cell_of yz cc 1 _ 25 _ HZ.out.1.j.q rfl
                  have e7 := S.cell_of yz gA 0 _ 25 _ HZ.out.2 rfl
                  have e8 := S.cell_of yz gA 1 _ 25 _ HZ.out.2 rfl
                  clear hHeld
                  go_wp2
                  go_ret
                  exact ⟨rfl, HZ.out.1.j.i.bel⟩
                refine AllReadyH.cons rfl (fun K hK => ?_) AllReadyH.nil
                go_simp
                have kk : Below y3.heap.size y3 (y3.alloc (.cells #[.int .i64 0, .int .i64 0] 25)) := (Below.refl _ _).alloc (Nat.le_refl _) _
                have hz : (y3.alloc (.cells #[.int .i64 0, .int .i64 0] 25)).heap[y3.heap.size]? = some (.cells #[.int .i64 0, .int .i64 0] 25 (0, 0)) := heap_alloc_new y3 _
                generalize y3.alloc (.cells #[.int .i64 0, .int .i64 0] 25) = y6 at *
                obtain ⟨gA, hbn⟩ : ∃ bn, y3.heap.size = bn := ⟨_, rfl⟩
                have HRy6 := hid (HRy3.out.on kk)
                have H8y6 := hid (DV.kept (O' := (· < y6.heap.size)) H8y3.out (fun i hi => kk.block i hi) (fun i hi => Nat.lt_of_lt_of_le hi kk.size))
                have HAy6 := hid (show y6.heap[gA]? = some (.cells [.int .i64 0, .int .i64 0].toArray 25 (0, 0)) ∧ a < gA ∧ b < gA ∧ cc < gA ∧ gB < gA from ⟨by rw [← hbn]; exact hz, by rw [← hbn]; exact HRy3.out.lt⟩)
                have s9 := HRy6.out.s
                rw [hbn]
                refine hK.out _ _ s9 (fun hHeld => ?_)
                clear hK K s9 hbn hz kk HRy3 H8y3
                try simp only [Act.put, List.getElem_toArray, List.getElem_cons_zero, List.getElem_cons_succ, List.setIfInBounds_toArray, List.set_cons_zero, List.set_cons_succ]
                refine wpAnyH_ready (rs := [10]) (by kernel_rfl) (by simp) ?_
                refine AllReadyH.cons rfl (fun K hK => ?_) AllReadyH.nil
                go_simp
                refine (wrong_any g8 y6 H8y6.out).mono ?_
                rintro e y7 ⟨rfl, kk⟩
                have HRy7 := hid (HRy6.out.on kk)
                have HAy7 := hid (And.intro ((kk.block _ (S.lt_of HAy6.out.1)).trans HAy6.out.1) HAy6.out.2)
                have s9 := HRy7.out.s
                refine hK.out _ _ s9 (fun hHeld => ?_)
                clear hK K s9 kk HRy6 H8y6 HAy6
                try simp only [Act.put, List.getElem_toArray, List.getElem_cons_zero, List.getElem_cons_succ, List.setIfInBounds_toArray, List.set_cons_zero, List.set_cons_succ]
                refine wpAnyH_take (i := 11) (v := ?_) rfl (by kernel_rfl) (by kernel_rfl) (by kernel_rfl) (fun c a w h => h) (Or.inl ⟨by rfl, ?_⟩) hHeld ?_
                rotate_left
                · (intro w hSw; (try dsimp only at hSw); go_simp; try with_reducible rfl)
                simp only [Act.put, List.getElem_toArray, List.getElem_cons_zero, List.getElem_cons_succ, List.setIfInBounds_toArray, List.set_cons_zero, List.set_cons_succ]
                refine wpAnyH_take (i := 12) (v := ?_) rfl (by kernel_rfl) (by kernel_rfl) (by kernel_rfl) (fun c a w h => h) (Or.inl ⟨by rfl, ?_⟩) hHeld ?_
                rotate_left
                · (intro w hSw; (try dsimp only at hSw); go_simp; try with_reducible rfl)
                simp only [Act.put, List.getElem_toArray, List.getElem_cons_zero, List.getElem_cons_succ, List.setIfInBounds_toArray, List.set_cons_zero, List.set_cons_succ]
                refine wpAnyH_take (i := 13) (v := ?_) rfl (by kernel_rfl) (by kernel_rfl) (by kernel_rfl) (fun c a w h => h) (Or.inl ⟨by rfl, ?_⟩) hHeld ?_
                rotate_left
                · (intro w hSw; (try dsimp only at hSw); go_simp; try with_reducible rfl)
                simp only [Act.put, List.getElem_toArray, List.getElem_cons_zero, List.getElem_cons_succ, List.setIfInBounds_toArray, List.set_cons_zero, List.set_cons_succ]
                refine wpAnyH_take (i := 14) (v := ?_) rfl (by kernel_rfl) (by kernel_rfl) (by kernel_rfl) (fun c a w h => h) (Or.inl ⟨by rfl, ?_⟩) hHeld ?_
                rotate_left
                · (intro w hSw; (try dsimp only at hSw); go_simp; try with_reducible rfl)
                simp only [Act.put, List.getElem_toArray, List.getElem_cons_zero, List.getElem_cons_succ, List.setIfInBounds_toArray, List.set_cons_zero, List.set_cons_succ]
                refine wpAnyH_take (i := 15) (v := ?_) rfl (by kernel_rfl) (by kernel_rfl) (by kernel_rfl) (fun c a w h => h) (Or.inl ⟨by rfl, ?_⟩) hHeld ?_
                rotate_left
                · (intro w hSw; (try dsimp only at hSw); go_simp; try with_reducible rfl)
                simp only [Act.put, List.getElem_toArray, List.getElem_cons_zero, List.getElem_cons_succ, List.setIfInBounds_toArray, List.set_cons_zero, List.set_cons_succ]
                refine wpAnyH_take (i := 16) (v := ?_) rfl (by kernel_rfl) (by kernel_rfl) (by kernel_rfl) (fun c a w h => h) (Or.inl ⟨by rfl, ?_⟩) hHeld ?_
                rotate_left
                · (intro w hSw; (try dsimp only at hSw); go_simp; try with_reducible rfl)
                simp only [Act.put, List.getElem_toArray, List.getElem_cons_zero, List.getElem_cons_succ, List.setIfInBounds_toArray, List.set_cons_zero, List.set_cons_succ]
                refine wpAnyH_take (i := 18) (v := ?_) rfl (by kernel_rfl) (by kernel_rfl) (by kernel_rfl) (fun c a w h => h) (Or.inl ⟨by rfl, ?_⟩) hHeld ?_
                rotate_left
                · (intro w hSw; (try dsimp only at hSw); go_simp; try with_reducible rfl)
                simp only [Act.put, List.getElem_toArray, List.getElem_cons_zero, List.getElem_cons_succ, List.setIfInBounds_toArray, List.set_cons_zero, List.set_cons_succ]
                refine wpAnyH_take (i := 19) (v := ?_) rfl (by kernel_rfl) (by kernel_rfl) (by kernel_rfl) (fun c a w h => h) (Or.inl ⟨by rfl, ?_⟩) hHeld ?_
                rotate_left
                · (intro w hSw; (try dsimp only at hSw); go_simp; try with_reducible rfl)
                simp only [Act.put, List.getElem_toArray, List.getElem_cons_zero, List.getElem_cons_succ, List.setIfInBounds_toArray, List.set_cons_zero, List.set_cons_succ]
                refine wpAnyH_take (i := 20) (v := ?_) rfl (by kernel_rfl) (by kernel_rfl) (by kernel_rfl) (fun c a w h => h) (Or.inl ⟨by rfl, ?_⟩) hHeld ?_
                rotate_left
                · (intro w hSw; (try dsimp only at hSw); go_simp; try with_reducible rfl)
                simp only [Act.put, List.getElem_toArray, List.getElem_cons_zero, List.getElem_cons_succ, List.setIfInBounds_toArray, List.set_cons_zero, List.set_cons_succ]
                refine wpAnyH_ready (rs := [21]) (by kernel_rfl) (by simp) ?_
                refine AllReadyH.cons rfl (fun K hK => ?_) AllReadyH.nil
                rw [if_pos (by rfl)]
                refine wp_store_row 25 _ _ rfl gA #[.int .i64 7, .int .i64 3] (by simp [Act.eval]) (by simp [Act.eval]) 25 #[.int .i64 0, .int .i64 0] HAy7.out.1 (by exact sizePs) (by rfl) (by simp [Value.oneCell']) ?_
                obtain ⟨hR9, hA9⟩ := RF.store HRy7.out HAy7.out
                have s9 := hR9.s
                refine hK.out _ _ s9 (fun hHeld => ?_)
                have HZ := hid (And.intro hR9 hA9)
                clear hK K s9 hR9 hA9 HRy7 HAy7
                generalize y7.setRow gA #[.int .i64 7, .int .i64 3] = yz at *
                try simp only [Act.put, List.getElem_toArray, List.getElem_cons_zero, List.getElem_cons_succ, List.setIfInBounds_toArray, List.set_cons_zero, List.set_cons_succ]
                refine wpAnyH_take (i := 22) (v := ?_) rfl (by kernel_rfl) (by kernel_rfl) (by kernel_rfl) (fun c a w h => h) (Or.inl ⟨by rfl, ?_⟩) hHeld ?_
                rotate_left
                · (intro w hSw; (try dsimp only at hSw); go_simp; try with_reducible rfl)
                simp only [Act.put, List.getElem_toArray, List.getElem_cons_zero, List.getElem_cons_succ, List.setIfInBounds_toArray, List.set_cons_zero, List.set_cons_succ]
                refine wpAnyH_done (by kernel_rfl) ?_ _
                have e1 := S.cell_of yz a 0 _ 25 _ HZ.out.1.j.i.t rfl
                have e2 := S.cell_of yz a 1 _ 25 _ HZ.out.1.j.i.t rfl
                have e3 := S.cell_of yz b 0 _ 25 _ HZ.out.1.j.i.p rfl
                have e4 := S.cell_of yz b 1 _ 25 _ HZ.out.1.j.i.p rfl
                have e5 := S.cell_of yz cc 0 _ 25 _ HZ.out.1.j.q rfl
                have e6 := S.cell_of yz cc 1 _ 25 _ HZ.out.1.j.q rfl
                have e7 := S.cell_of yz gA 0 _ 25 _ HZ.out.2 rfl
                have e8 := S.cell_of yz gA 1 _ 25 _ HZ.out.2 rfl
                clear hHeld
                go_wp2
                go_ret
                exact ⟨rfl, HZ.out.1.j.i.bel⟩
              refine AllReadyH.cons rfl (fun K hK => ?_) AllReadyH.nil
              go_simp
              have kk : Below y2.heap.size y2 (y2.alloc (.cells #[.int .i64 0, .int .i64 0] 25)) := (Below.refl _ _).alloc (Nat.le_refl _) _
              have hz : (y2.alloc (.cells #[.int .i64 0, .int .i64 0] 25)).heap[y2.heap.size]? = some (.cells #[.int .i64 0, .int .i64 0] 25 (0, 0)) := heap_alloc_new y2 _
              generalize y2.alloc (.cells #[.int .i64 0, .int .i64 0] 25) = y8 at *
              obtain ⟨gA, hbn⟩ : ∃ bn, y2.heap.size = bn := ⟨_, rfl⟩
              have HRy8 := hid (HRy2.out.on kk)
              have H5y8 := hid (NV.kept (O' := (· < y8.heap.size)) H5y2.out (fun i hi => kk.block i hi) (fun i hi => Nat.lt_of_lt_of_le hi kk.size))
              have HAy8 := hid (show y8.heap[gA]? = some (.cells [.int .i64 0, .int .i64 0].toArray 25 (0, 0)) ∧ a < gA ∧ b < gA ∧ cc < gA ∧ gB < gA from ⟨by rw [← hbn]; exact hz, by rw [← hbn]; exact HRy2.out.lt⟩)
              have s9 := HRy8.out.s
              rw [hbn]
              refine hK.out _ _ s9 (fun hHeld => ?_)
              clear hK K s9 hbn hz kk HRy2 H5y2
              try simp only [Act.put, List.getElem_toArray, List.getElem_cons_zero, List.getElem_cons_succ, List.setIfInBounds_toArray, List.set_cons_zero, List.set_cons_succ]
              refine wpAnyH_ready (rs := [8]) (by kernel_rfl) (by simp) ?_
              refine AllReadyH.cons rfl (fun K hK => ?_) AllReadyH.nil
              go_simp
              have kk : Below y8.heap.size y8 (y8.alloc (.cells #[.int .i64 1, .string ⟨#[]⟩, .int .u16 0, .slice q5 8127 c5, .int .i64 7, .int .i64 3] 36)) := (Below.refl _ _).alloc (Nat.le_refl _) _
              have hz : (y8.alloc (.cells #[.int .i64 1, .string ⟨#[]⟩, .int .u16 0, .slice q5 8127 c5, .int .i64 7, .int .i64 3] 36)).heap[y8.heap.size]? = some (.cells #[.int .i64 1, .string ⟨#[]⟩, .int .u16 0, .slice q5 8127 c5, .int .i64 7, .int .i64 3] 36 (0, 0)) := heap_alloc_new y8 _
              generalize y8.alloc (.cells #[.int .i64 1, .string ⟨#[]⟩, .int .u16 0, .slice q5 8127 c5, .int .i64 7, .int .i64 3] 36) = y9 at *
              obtain ⟨g8, hbn⟩ : ∃ bn, y8.heap.size = bn := ⟨_, rfl⟩
              have HRy9 := hid (HRy8.out.on kk)
              have H5y9 := hid (NV.kept (O' := (· < y9.heap.size)) H5y8.out (fun i hi => kk.block i hi) (fun i hi => Nat.lt_of_lt_of_le hi kk.size))
              have HAy9 := hid (And.intro ((kk.block _ (S.lt_of HAy8.out.1)).trans HAy8.out.1) HAy8.out.2)
              have H8y9 := hid (dv_one (n := 8127) (p := (7, 3)) (show y9.heap[g8]? = some (.cells (dfc (dwrd 8127 (7, 3)) (.slice q5 8127 c5)).toArray 36 (0, 0)) from by rw [← hbn]; exact hz) H5y9.out)
              have s9 := HRy9.out.s
              rw [hbn]
              refine hK.out _ _ s9 (fun hHeld => ?_)
              clear hK K s9 hbn hz kk H5y9 HRy8 H5y8 HAy8
              try simp only [Act.put, List.getElem_toArray, List.getElem_cons_zero, List.getElem_cons_succ, List.setIfInBounds_toArray, List.set_cons_zero, List.set_cons_succ]
              refine wpAnyH_take (i := 9) (v := ?_) rfl (by kernel_rfl) (by kernel_rfl) (by kernel_rfl) (fun c a w h => h) (Or.inl ⟨by rfl, ?_⟩) hHeld ?_
              rotate_left
              · (intro w hSw; (try dsimp only at hSw); go_simp; try with_reducible rfl)
              simp only [Act.put, List.getElem_toArray, List.getElem_cons_zero, List.getElem_cons_succ, List.setIfInBounds_toArray, List.set_cons_zero, List.set_cons_succ]
              refine wpAnyH_ready (rs := [10]) (by kernel_rfl) (by simp) ?_
              refine AllReadyH.cons rfl (fun K hK => ?_) AllReadyH.nil
              go_simp
              refine (wrong_any g8 y9 H8y9.out).mono ?_
              rintro e y10 ⟨rfl, kk⟩
              have HRy10 := hid (HRy9.out.on kk)
              have HAy10 := hid (And.intro ((kk.block _ (S.lt_of HAy9.out.1)).trans HAy9.out.1) HAy9.out.2)
              have s9 := HRy10.out.s
              refine hK.out _ _ s9 (fun hHeld => ?_)
              clear hK K s9 kk HRy9 H8y9 HAy9
              try simp only [Act.put, List.getElem_toArray, List.getElem_cons_zero, List.getElem_cons_succ, List.setIfInBounds_toArray, List.set_cons_zero, List.set_cons_succ]
              refine wpAnyH_take (i := 11) (v := ?_) rfl (by kernel_rfl) (by kernel_rfl) (by kernel_rfl) (fun c a w h => h) (Or.inl ⟨by rfl, ?_⟩) hHeld ?_
              rotate_left
              · (intro w hSw; (try dsimp only at hSw); go_simp; try with_reducible rfl)
              simp only [Act.put, List.getElem_toArray, List.getElem_cons_zero, List.getElem_cons_succ, List.setIfInBounds_toArray, List.set_cons_zero, List.set_cons_succ]
              refine wpAnyH_take (i := 12) (v := ?_) rfl (by kernel_rfl) (by kernel_rfl) (by kernel_rfl) (fun c a w h => h) (Or.inl ⟨by rfl, ?_⟩) hHeld ?_
              rotate_left
              · (intro w hSw; (try dsimp only at hSw); go_simp; try with_reducible rfl)
              simp only [Act.put, List.getElem_toArray, List.getElem_cons_zero, List.getElem_cons_succ, List.setIfInBounds_toArray, List.set_cons_zero, List.set_cons_succ]
              refine wpAnyH_take (i := 13) (v := ?_) rfl (by kernel_rfl) (by kernel_rfl) (by kernel_rfl) (fun c a w h => h) (Or.inl ⟨by rfl, ?_⟩) hHeld ?_
              rotate_left
              · (intro w hSw; (try dsimp only at hSw); go_simp; try with_reducible rfl)
              simp only [Act.put, List.getElem_toArray, List.getElem_cons_zero, List.getElem_cons_succ, List.setIfInBounds_toArray, List.set_cons_zero, List.set_cons_succ]
              refine wpAnyH_take (i := 14) (v := ?_) rfl (by kernel_rfl) (by kernel_rfl) (by kernel_rfl) (fun c a w h => h) (Or.inl ⟨by rfl, ?_⟩) hHeld ?_
              rotate_left
              · (intro w hSw; (try dsimp only at hSw); go_simp; try with_reducible rfl)
              simp only [Act.put, List.getElem_toArray, List.getElem_cons_zero, List.getElem_cons_succ, List.setIfInBounds_toArray, List.set_cons_zero, List.set_cons_succ]
              refine wpAnyH_take (i := 15) (v := ?_) rfl (by kernel_rfl) (by kernel_rfl) (by kernel_rfl) (fun c a w h => h) (Or.inl ⟨by rfl, ?_⟩) hHeld ?_
              rotate_left
              · (intro w hSw; (try dsimp only at hSw); go_simp; try with_reducible rfl)
              simp only [Act.put, List.getElem_toArray, List.getElem_cons_zero, List.getElem_cons_succ, List.setIfInBounds_toArray, List.set_cons_zero, List.set_cons_succ]
              refine wpAnyH_take (i := 16) (v := ?_) rfl (by kernel_rfl) (by kernel_rfl) (by kernel_rfl) (fun c a w h => h) (Or.inl ⟨by rfl, ?_⟩) hHeld ?_
              rotate_left
              · (intro w hSw; (try dsimp only at hSw); go_simp; try with_reducible rfl)
              simp only [Act.put, List.getElem_toArray, List.getElem_cons_zero, List.getElem_cons_succ, List.setIfInBounds_toArray, List.set_cons_zero, List.set_cons_succ]
              refine wpAnyH_take (i := 18) (v := ?_) rfl (by kernel_rfl) (by kernel_rfl) (by kernel_rfl) (fun c a w h => h) (Or.inl ⟨by rfl, ?_⟩) hHeld ?_
              rotate_left
              · (intro w hSw; (try dsimp only at hSw); go_simp; try with_reducible rfl)
              simp only [Act.put, List.getElem_toArray, List.getElem_cons_zero, List.getElem_cons_succ, List.setIfInBounds_toArray, List.set_cons_zero, List.set_cons_succ]
              refine wpAnyH_take (i := 19) (v := ?_) rfl (by kernel_rfl) (by kernel_rfl) (by kernel_rfl) (fun c a w h => h) (Or.inl ⟨by rfl, ?_⟩) hHeld ?_
              rotate_left
              · (intro w hSw; (try dsimp only at hSw); go_simp; try with_reducible rfl)
              simp only [Act.put, List.getElem_toArray, List.getElem_cons_zero, List.getElem_cons_succ, List.setIfInBounds_toArray, List.set_cons_zero, List.set_cons_succ]
              refine wpAnyH_take (i := 20) (v := ?_) rfl (by kernel_rfl) (by kernel_rfl) (by kernel_rfl) (fun c a w h => h) (Or.inl ⟨by rfl, ?_⟩) hHeld ?_
              rotate_left
              · (intro w hSw; (try dsimp only at hSw); go_simp; try with_reducible rfl)
              simp only [Act.put, List.getElem_toArray, List.getElem_cons_zero, List.getElem_cons_succ, List.setIfInBounds_toArray, List.set_cons_zero, List.set_cons_succ]
              refine wpAnyH_ready (rs := [21]) (by kernel_rfl) (by simp) ?_
              refine AllReadyH.cons rfl (fun K hK => ?_) AllReadyH.nil
              rw [if_pos (by rfl)]
              refine wp_store_row 25 _ _ rfl gA #[.int .i64 7, .int .i64 3] (by simp [Act.eval]) (by simp [Act.eval]) 25 #[.int .i64 0, .int .i64 0] HAy10.out.1 (by exact sizePs) (by rfl) (by simp [Value.oneCell']) ?_
              obtain ⟨hR9, hA9⟩ := RF.store HRy10.out HAy10.out
              have s9 := hR9.s
              refine hK.out _ _ s9 (fun hHeld => ?_)
              have HZ := hid (And.intro hR9 hA9)
              clear hK K s9 hR9 hA9 HRy10 HAy10
              generalize y10.setRow gA #[.int .i64 7, .int .i64 3] = yz at *
              try simp only [Act.put, List.getElem_toArray, List.getElem_cons_zero, List.getElem_cons_succ, List.setIfInBounds_toArray, List.set_cons_zero, List.set_cons_succ]
              refine wpAnyH_take (i := 22) (v := ?_) rfl (by kernel_rfl) (by kernel_rfl) (by kernel_rfl) (fun c a w h => h) (Or.inl ⟨by rfl, ?_⟩) hHeld ?_
              rotate_left
              · (intro w hSw; (try dsimp only at hSw); go_simp; try with_reducible rfl)
              simp only [Act.put, List.getElem_toArray, List.getElem_cons_zero, List.getElem_cons_succ, List.setIfInBounds_toArray, List.set_cons_zero, List.set_cons_succ]
              refine wpAnyH_done (by kernel_rfl) ?_ _
              have e1 := S.cell_of yz a 0 _ 25 _ HZ.out.1.j.i.t rfl
              have e2 := S.cell_of yz a 1 _ 25 _ HZ.out.1.j.i.t rfl
              have e3 := S.cell_of yz b 0 _ 25 _ HZ.out.1.j.i.p rfl
              have e4 := S.cell_of yz b 1 _ 25 _ HZ.out.1.j.i.p rfl
              have e5 := S.cell_of yz cc 0 _ 25 _ HZ.out.1.j.q rfl
              have e6 := S.cell_of yz cc 1 _ 25 _ HZ.out.1.j.q rfl
              have e7 := S.cell_of yz gA 0 _ 25 _ HZ.out.2 rfl
              have e8 := S.cell_of yz gA 1 _ 25 _ HZ.out.2 rfl
              clear hHeld
              go_wp2
              go_ret
              exact ⟨rfl, HZ.out.1.j.i.bel⟩
            refine AllReadyH.cons rfl (fun K hK => ?_) AllReadyH.nil
            go_simp
            have kk : Below y1.heap.size y1 (y1.alloc (.cells #[.int .i64 0, .int .i64 0] 25)) := (Below.refl _ _).alloc (Nat.le_refl _) _
            have hz : (y1.alloc (.cells #[.int .i64 0, .int .i64 0] 25)).heap[y1.heap.size]? = some (.cells #[.int .i64 0, .int .i64 0] 25 (0, 0)) := heap_alloc_new y1 _
            generalize y1.alloc (.cells #[.int .i64 0, .int .i64 0] 25) = y11 at *
            obtain ⟨gA, hbn⟩ : ∃ bn, y1.heap.size = bn := ⟨_, rfl⟩
            have HRy11 := hid (HRy1.out.on kk)
            have H4y11 := hid ((kk.block _ (S.lt_of H4y1.out)).trans H4y1.out)
            have HAy11 := hid (show y11.heap[gA]? = some (.cells [.int .i64 0, .int .i64 0].toArray 25 (0, 0)) ∧ a < gA ∧ b < gA ∧ cc < gA ∧ gB < gA from ⟨by rw [← hbn]; exact hz, by rw [← hbn]; exact HRy1.out.lt⟩)
            have s9 := HRy11.out.s
            rw [hbn]
            refine hK.out _ _ s9 (fun hHeld => ?_)
            clear hK K s9 hbn hz kk HRy1 H4y1
            try simp only [Act.put, List.getElem_toArray, List.getElem_cons_zero, List.getElem_cons_succ, List.setIfInBounds_toArray, List.set_cons_zero, List.set_cons_succ]
            refine wpAnyH_ready (rs := [5]) (by kernel_rfl) (by simp) ?_
            refine AllReadyH.cons rfl (fun K hK => ?_) AllReadyH.nil
            rw [if_pos (by rfl)]
            refine wp_append_grow (.tmp 128) (.tmp 132) rfl gB 8126 8126 HRy11.out.row g4 1 H4y11.out (by simp [Act.eval]) (by simp [Act.eval]) (by omega) (by omega) (fun v5 y12 hr kk => ?_)
            have hnv := nv_of y12 hr
            obtain ⟨q5, c5, rfl⟩ := hnv.1
            have H5y12 := hid hnv.2
            have HRy12 := hid (HRy11.out.on kk)
            have HAy12 := hid (And.intro ((kk.block _ (S.lt_of HAy11.out.1)).trans HAy11.out.1) HAy11.out.2)
            have s9 := HRy12.out.s
            refine hK.out _ _ s9 (fun hHeld => ?_)
            clear hK K s9 hr hnv kk HRy11 H4y11 HAy11
            try simp only [Act.put, List.getElem_toArray, List.getElem_cons_zero, List.getElem_cons_succ, List.setIfInBounds_toArray, List.set_cons_zero, List.set_cons_succ]
            refine wpAnyH_take (i := 7) (v := ?_) rfl (by kernel_rfl) (by kernel_rfl) (by kernel_rfl) (fun c a w h => h) (Or.inl ⟨by rfl, ?_⟩) hHeld ?_
            rotate_left
            · (intro w hSw; (try dsimp only at hSw); go_simp; try with_reducible rfl)
            simp only [Act.put, List.getElem_toArray, List.getElem_cons_zero, List.getElem_cons_succ, List.setIfInBounds_toArray, List.set_cons_zero, List.set_cons_succ]
            refine wpAnyH_ready (rs := [8]) (by kernel_rfl) (by simp) ?_
            refine AllReadyH.cons rfl (fun K hK => ?_) AllReadyH.nil
            go_simp
            have kk : Below y12.heap.size y12 (y12.alloc (.cells #[.int .i64 1, .string ⟨#[]⟩, .int .u16 0, .slice q5 8127 c5, .int .i64 7, .int .i64 3] 36)) := (Below.refl _ _).alloc (Nat.le_refl _) _
            have hz : (y12.alloc (.cells #[.int .i64 1, .string ⟨#[]⟩, .int .u16 0, .slice q5 8127 c5, .int .i64 7, .int .i64 3] 36)).heap[y12.heap.size]? = some (.cells #[.int .i64 1, .string ⟨#[]⟩, .int .u16 0, .slice q5 8127 c5, .int .i64 7, .int .i64 3] 36 (0, 0)) := heap_alloc_new y12 _
            generalize y12.alloc (.cells #[.int .i64 1, .string ⟨#[]⟩, .int .u16 0, .slice q5 8127 c5, .int .i64 7, .int .i64 3] 36) = y13 at *
            obtain ⟨g8, hbn⟩ : ∃ bn, y12.heap.size = bn := ⟨_, rfl⟩
            have HRy13 := hid (HRy12.out.on kk)
            have H5y13 := hid (NV.kept (O' := (· < y13.heap.size)) H5y12.out (fun i hi => kk.block i hi) (fun i hi => Nat.lt_of_lt_of_le hi kk.size))
            have HAy13 := hid (And.intro ((kk.block _ (S.lt_of HAy12.out.1)).trans HAy12.out.1) HAy12.out.2)
            have H8y13 := hid (dv_one (n := 8127) (p := (7, 3)) (show y13.heap[g8]? = some (.cells (dfc (dwrd 8127 (7, 3)) (.slice q5 8127 c5)).toArray 36 (0, 0)) from by rw [← hbn]; exact hz) H5y13.out)
            have s9 := HRy13.out.s
            rw [hbn]
            refine hK.out _ _ s9 (fun hHeld => ?_)
            clear hK K s9 hbn hz kk H5y13 HRy12 H5y12 HAy12
            try simp only [Act.put, List.getElem_toArray, List.getElem_cons_zero, List.getElem_cons_succ, List.setIfInBounds_toArray, List.set_cons_zero, List.set_cons_succ]
            refine wpAnyH_take (i := 9) (v := ?_) rfl (by kernel_rfl) (by kernel_rfl) (by kernel_rfl) (fun c a w h => h) (Or.inl ⟨by rfl, ?_⟩) hHeld ?_
            rotate_left
            · (intro w hSw; (try dsimp only at hSw); go_simp; try with_reducible rfl)
            simp only [Act.put, List.getElem_toArray, List.getElem_cons_zero, List.getElem_cons_succ, List.setIfInBounds_toArray, List.set_cons_zero, List.set_cons_succ]
            refine wpAnyH_ready (rs := [10]) (by kernel_rfl) (by simp) ?_
            refine AllReadyH.cons rfl (fun K hK => ?_) AllReadyH.nil
            go_simp
            refine (wrong_any g8 y13 H8y13.out).mono ?_
            rintro e y14 ⟨rfl, kk⟩
            have HRy14 := hid (HRy13.out.on kk)
            have HAy14 := hid (And.intro ((kk.block _ (S.lt_of HAy13.out.1)).trans HAy13.out.1) HAy13.out.2)
            have s9 := HRy14.out.s
            refine hK.out _ _ s9 (fun hHeld => ?_)
            clear hK K s9 kk HRy13 H8y13 HAy13
            try simp only [Act.put, List.getElem_toArray, List.getElem_cons_zero, List.getElem_cons_succ, List.setIfInBounds_toArray, List.set_cons_zero, List.set_cons_succ]
            refine wpAnyH_take (i := 11) (v := ?_) rfl (by kernel_rfl) (by kernel_rfl) (by kernel_rfl) (fun c a w h => h) (Or.inl ⟨by rfl, ?_⟩) hHeld ?_
            rotate_left
            · (intro w hSw; (try dsimp only at hSw); go_simp; try with_reducible rfl)
            simp only [Act.put, List.getElem_toArray, List.getElem_cons_zero, List.getElem_cons_succ, List.setIfInBounds_toArray, List.set_cons_zero, List.set_cons_succ]
            refine wpAnyH_take (i := 12) (v := ?_) rfl (by kernel_rfl) (by kernel_rfl) (by kernel_rfl) (fun c a w h => h) (Or.inl ⟨by rfl, ?_⟩) hHeld ?_
            rotate_left
            · (intro w hSw; (try dsimp only at hSw); go_simp; try with_reducible rfl)
            simp only [Act.put, List.getElem_toArray, List.getElem_cons_zero, List.getElem_cons_succ, List.setIfInBounds_toArray, List.set_cons_zero, List.set_cons_succ]
            refine wpAnyH_take (i := 13) (v := ?_) rfl (by kernel_rfl) (by kernel_rfl) (by kernel_rfl) (fun c a w h => h) (Or.inl ⟨by rfl, ?_⟩) hHeld ?_
            rotate_left
            · (intro w hSw; (try dsimp only at hSw); go_simp; try with_reducible rfl)
            simp only [Act.put, List.getElem_toArray, List.getElem_cons_zero, List.getElem_cons_succ, List.setIfInBounds_toArray, List.set_cons_zero, List.set_cons_succ]
            refine wpAnyH_take (i := 14) (v := ?_) rfl (by kernel_rfl) (by kernel_rfl) (by kernel_rfl) (fun c a w h => h) (Or.inl ⟨by rfl, ?_⟩) hHeld ?_
            rotate_left
            · (intro w hSw; (try dsimp only at hSw); go_simp; try with_reducible rfl)
            simp only [Act.put, List.getElem_toArray, List.getElem_cons_zero, List.getElem_cons_succ, List.setIfInBounds_toArray, List.set_cons_zero, List.set_cons_succ]
            refine wpAnyH_take (i := 15) (v := ?_) rfl (by kernel_rfl) (by kernel_rfl) (by kernel_rfl) (fun c a w h => h) (Or.inl ⟨by rfl, ?_⟩) hHeld ?_
            rotate_left
            · (intro w hSw; (try dsimp only at hSw); go_simp; try with_reducible rfl)
            simp only [Act.put, List.getElem_toArray, List.getElem_cons_zero, List.getElem_cons_succ, List.setIfInBounds_toArray, List.set_cons_zero, List.set_cons_succ]
            refine wpAnyH_take (i := 16) (v := ?_) rfl (by kernel_rfl) (by kernel_rfl) (by kernel_rfl) (fun c a w h => h) (Or.inl ⟨by rfl, ?_⟩) hHeld ?_
            rotate_left
            · (intro w hSw; (try dsimp only at hSw); go_simp; try with_reducible rfl)
            simp only [Act.put, List.getElem_toArray, List.getElem_cons_zero, List.getElem_cons_succ, List.setIfInBounds_toArray, List.set_cons_zero, List.set_cons_succ]
            refine wpAnyH_take (i := 18) (v := ?_) rfl (by kernel_rfl) (by kernel_rfl) (by kernel_rfl) (fun c a w h => h) (Or.inl ⟨by rfl, ?_⟩) hHeld ?_
            rotate_left
            · (intro w hSw; (try dsimp only at hSw); go_simp; try with_reducible rfl)
            simp only [Act.put, List.getElem_toArray, List.getElem_cons_zero, List.getElem_cons_succ, List.setIfInBounds_toArray, List.set_cons_zero, List.set_cons_succ]
            refine wpAnyH_take (i := 19) (v := ?_) rfl (by kernel_rfl) (by kernel_rfl) (by kernel_rfl) (fun c a w h => h) (Or.inl ⟨by rfl, ?_⟩) hHeld ?_
            rotate_left
            · (intro w hSw; (try dsimp only at hSw); go_simp; try with_reducible rfl)
            simp only [Act.put, List.getElem_toArray, List.getElem_cons_zero, List.getElem_cons_succ, List.setIfInBounds_toArray, List.set_cons_zero, List.set_cons_succ]
            refine wpAnyH_take (i := 20) (v := ?_) rfl (by kernel_rfl) (by kernel_rfl) (by kernel_rfl) (fun c a w h => h) (Or.inl ⟨by rfl, ?_⟩) hHeld ?_
            rotate_left
            · (intro w hSw; (try dsimp only at hSw); go_simp; try with_reducible rfl)
            simp only [Act.put, List.getElem_toArray, List.getElem_cons_zero, List.getElem_cons_succ, List.setIfInBounds_toArray, List.set_cons_zero, List.set_cons_succ]
            refine wpAnyH_ready (rs := [21]) (by kernel_rfl) (by simp) ?_
            refine AllReadyH.cons rfl (fun K hK => ?_) AllReadyH.nil
            rw [if_pos (by rfl)]
            refine wp_store_row 25 _ _ rfl gA #[.int .i64 7, .int .i64 3] (by simp [Act.eval]) (by simp [Act.eval]) 25 #[.int .i64 0, .int .i64 0] HAy14.out.1 (by exact sizePs) (by rfl) (by simp [Value.oneCell']) ?_
            obtain ⟨hR9, hA9⟩ := RF.store HRy14.out HAy14.out
            have s9 := hR9.s
            refine hK.out _ _ s9 (fun hHeld => ?_)
            have HZ := hid (And.intro hR9 hA9)
            clear hK K s9 hR9 hA9 HRy14 HAy14
            generalize y14.setRow gA #[.int .i64 7, .int .i64 3] = yz at *
            try simp only [Act.put, List.getElem_toArray, List.getElem_cons_zero, List.getElem_cons_succ, List.setIfInBounds_toArray, List.set_cons_zero, List.set_cons_succ]
            refine wpAnyH_take (i := 22) (v := ?_) rfl (by kernel_rfl) (by kernel_rfl) (by kernel_rfl) (fun c a w h => h) (Or.inl ⟨by rfl, ?_⟩) hHeld ?_
            rotate_left
            · (intro w hSw; (try dsimp only at hSw); go_simp; try with_reducible rfl)
            simp only [Act.put, List.getElem_toArray, List.getElem_cons_zero, List.getElem_cons_succ, List.setIfInBounds_toArray, List.set_cons_zero, List.set_cons_succ]
            refine wpAnyH_done (by kernel_rfl) ?_ _
            have e1 := S.cell_of yz a 0 _ 25 _ HZ.out.1.j.i.t rfl
            have e2 := S.cell_of yz a 1 _ 25 _ HZ.out.1.j.i.t rfl
            have e3 := S.cell_of yz b 0 _ 25 _ HZ.out.1.j.i.p rfl
            have e4 := S.cell_of yz b 1 _ 25 _ HZ.out.1.j.i.p rfl
            have e5 := S.cell_of yz cc 0 _ 25 _ HZ.out.1.j.q rfl
            have e6 := S.cell_of yz cc 1 _ 25 _ HZ.out.1.j.q rfl
            have e7 := S.cell_of yz gA 0 _ 25 _ HZ.out.2 rfl
            have e8 := S.cell_of yz gA 1 _ 25 _ HZ.out.2 rfl
            clear hHeld
            go_wp2
            go_ret
            exact ⟨rfl, HZ.out.1.j.i.bel⟩
          refine AllReadyH.cons rfl (fun K hK => ?_) AllReadyH.nil
          go_simp
          have kk : Below y0.heap.size y0 (y0.alloc (.cells #[.int .i64 0, .int .i64 0] 25)) := (Below.refl _ _).alloc (Nat.le_refl _) _
          have hz : (y0.alloc (.cells #[.int .i64 0, .int .i64 0] 25)).heap[y0.heap.size]? = some (.cells #[.int .i64 0, .int .i64 0] 25 (0, 0)) := heap_alloc_new y0 _
          generalize y0.alloc (.cells #[.int .i64 0, .int .i64 0] 25) = y15 at *
          obtain ⟨gA, hbn⟩ : ∃ bn, y0.heap.size = bn := ⟨_, rfl⟩
          have HRy15 := hid (HRy0.out.on kk)
          have HAy15 := hid (show y15.heap[gA]? = some (.cells [.int .i64 0, .int .i64 0].toArray 25 (0, 0)) ∧ a < gA ∧ b < gA ∧ cc < gA ∧ gB < gA from ⟨by rw [← hbn]; exact hz, by rw [← hbn]; exact HRy0.out.lt⟩)
          have s9 := HRy15.out.s
          rw [hbn]
          refine hK.out _ _ s9 (fun hHeld => ?_)
          clear hK K s9 hbn hz kk HRy0
          try simp only [Act.put, List.getElem_toArray, List.getElem_cons_zero, List.getElem_cons_succ, List.setIfInBounds_toArray, List.set_cons_zero, List.set_cons_succ]
          refine wpAnyH_ready (rs := [4]) (by kernel_rfl) (by simp) ?_
          refine AllReadyH.cons rfl (fun K hK => ?_) AllReadyH.nil
          go_simp
          have kk : Below y15.heap.size y15 (y15.alloc (.cells #[.int .i64 1, .int .i64 12, .int .u16 0, .string ⟨#[]⟩, .slice none 0 0, .slice none 0 0, .bool false, .int .i64 0, .int .i64 0] 38)) := (Below.refl _ _).alloc (Nat.le_refl _) _
          have hz : (y15.alloc (.cells #[.int .i64 1, .int .i64 12, .int .u16 0, .string ⟨#[]⟩, .slice none 0 0, .slice none 0 0, .bool false, .int .i64 0, .int .i64 0] 38)).heap[y15.heap.size]? = some (.cells #[.int .i64 1, .int .i64 12, .int .u16 0, .string ⟨#[]⟩, .slice none 0 0, .slice none 0 0, .bool false, .int .i64 0, .int .i64 0] 38 (0, 0)) := heap_alloc_new y15 _
          generalize y15.alloc (.cells #[.int .i64 1, .int .i64 12, .int .u16 0, .string ⟨#[]⟩, .slice none 0 0, .slice none 0 0, .bool false, .int .i64 0, .int .i64 0] 38) = y16 at *
          obtain ⟨g4, hbn⟩ : ∃ bn, y15.heap.size = bn := ⟨_, rfl⟩
          have HRy16 := hid (HRy15.out.on kk)
          have HAy16 := hid (And.intro ((kk.block _ (S.lt_of HAy15.out.1)).trans HAy15.out.1) HAy15.out.2)
          have H4y16 := hid (show y16.heap[g4]? = some (.cells (nz nDup).toArray 38 (0, 0)) from by rw [← hbn]; exact hz)
          have s9 := HRy16.out.s
          rw [hbn]
          refine hK.out _ _ s9 (fun hHeld => ?_)
          clear hK K s9 hbn hz kk HRy15 HAy15
          try simp only [Act.put, List.getElem_toArray, List.getElem_cons_zero, List.getElem_cons_succ, List.setIfInBounds_toArray, List.set_cons_zero, List.set_cons_succ]
          refine wpAnyH_ready (rs := [5]) (by kernel_rfl) (by simp) ?_
          refine AllReadyH.cons rfl (fun K hK => ?_) AllReadyH.nil
          rw [if_pos (by rfl)]
          refine wp_append_grow (.tmp 128) (.tmp 132) rfl gB 8126 8126 HRy16.out.row g4 1 H4y16.out (by simp [Act.eval]) (by simp [Act.eval]) (by omega) (by omega) (fun v5 y17 hr kk => ?_)
          have hnv := nv_of y17 hr
          obtain ⟨q5, c5, rfl⟩ := hnv.1
          have H5y17 := hid hnv.2
          have HRy17 := hid (HRy16.out.on kk)
          have HAy17 := hid (And.intro ((kk.block _ (S.lt_of HAy16.out.1)).trans HAy16.out.1) HAy16.out.2)
          have s9 := HRy17.out.s
          refine hK.out _ _ s9 (fun hHeld => ?_)
          clear hK K s9 hr hnv kk HRy16 H4y16 HAy16
          try simp only [Act.put, List.getElem_toArray, List.getElem_cons_zero, List.getElem_cons_succ, List.setIfInBounds_toArray, List.set_cons_zero, List.set_cons_succ]
          refine wpAnyH_take (i := 7) (v := ?_) rfl (by kernel_rfl) (by kernel_rfl) (by kernel_rfl) (fun c a w h => h) (Or.inl ⟨by rfl, ?_⟩) hHeld ?_
          rotate_left
          · (intro w hSw; (try dsimp only at hSw); go_simp; try with_reducible rfl)
          simp only [Act.put, List.getElem_toArray, List.getElem_cons_zero, List.getElem_cons_succ, List.setIfInBounds_toArray, List.set_cons_zero, List.set_cons_succ]
          refine wpAnyH_ready (rs := [8]) (by kernel_rfl) (by simp) ?_
          refine AllReadyH.cons rfl (fun K hK => ?_) AllReadyH.nil
          go_simp
          have kk : Below y17.heap.size y17 (y17.alloc (.cells #[.int .i64 1, .string ⟨#[]⟩, .int .u16 0, .slice q5 8127 c5, .int .i64 7, .int .i64 3] 36)) := (Below.refl _ _).alloc (Nat.le_refl _) _
          have hz : (y17.alloc (.cells #[.int .i64 1, .string ⟨#[]⟩, .int .u16 0, .slice q5 8127 c5, .int .i64 7, .int .i64 3] 36)).heap[y17.heap.size]? = some (.cells #[.int .i64 1, .string ⟨#[]⟩, .int .u16 0, .slice q5 8127 c5, .int .i64 7, .int .i64 3] 36 (0, 0)) := heap_alloc_new y17 _
          generalize y17.alloc (.cells #[.int .i64 1, .string ⟨#[]⟩, .int .u16 0, .slice q5 8127 c5, .int .i64 7, .int .i64 3] 36) = y18 at *
          obtain ⟨g8, hbn⟩ : ∃ bn, y17.heap.size = bn := ⟨_, rfl⟩
          have HRy18 := hid (HRy17.out.on kk)
          have H5y18 := hid (NV.kept (O' := (· < y18.heap.size)) H5y17.out (fun i hi => kk.block i hi) (fun i hi => Nat.lt_of_lt_of_le hi kk.size))
          have HAy18 := hid (And.intro ((kk.block _ (S.lt_of HAy17.out.1)).trans HAy17.out.1) HAy17.out.2)
          have H8y18 := hid (dv_one (n := 8127) (p := (7, 3)) (show y18.heap[g8]? = some (.cells (dfc (dwrd 8127 (7, 3)) (.slice q5 8127 c5)).toArray 36 (0, 0)) from by rw [← hbn]; exact hz) H5y18.out)
          have s9 := HRy18.out.s
          rw [hbn]
          refine hK.out _ _ s9 (fun hHeld => ?_)
          clear hK K s9 hbn hz kk H5y18 HRy17 H5y17 HAy17
          try simp only [Act.put, List.getElem_toArray, List.getElem_cons_zero, List.getElem_cons_succ, List.setIfInBounds_toArray, List.set_cons_zero, List.set_cons_succ]
          refine wpAnyH_take (i := 9) (v := ?_) rfl (by kernel_rfl) (by kernel_rfl) (by kernel_rfl) (fun c a w h => h) (Or.inl ⟨by rfl, ?_⟩) hHeld ?_
          rotate_left
          · (intro w hSw; (try dsimp only at hSw); go_simp; try with_reducible rfl)
          simp only [Act.put, List.getElem_toArray, List.getElem_cons_zero, List.getElem_cons_succ, List.setIfInBounds_toArray, List.set_cons_zero, List.set_cons_succ]
          refine wpAnyH_ready (rs := [10]) (by kernel_rfl) (by simp) ?_
          refine AllReadyH.cons rfl (fun K hK => ?_) AllReadyH.nil
          go_simp
          refine (wrong_any g8 y18 H8y18.out).mono ?_
          rintro e y19 ⟨rfl, kk⟩
          have HRy19 := hid (HRy18.out.on kk)
          have HAy19 := hid (And.intro ((kk.block _ (S.lt_of HAy18.out.1)).trans HAy18.out.1) HAy18.out.2)
          have s9 := HRy19.out.s
          refine hK.out _ _ s9 (fun hHeld => ?_)
          clear hK K s9 kk HRy18 H8y18 HAy18
          try simp only [Act.put, List.getElem_toArray, List.getElem_cons_zero, List.getElem_cons_succ, List.setIfInBounds_toArray, List.set_cons_zero, List.set_cons_succ]
          refine wpAnyH_take (i := 11) (v := ?_) rfl (by kernel_rfl) (by kernel_rfl) (by kernel_rfl) (fun c a w h => h) (Or.inl ⟨by rfl, ?_⟩) hHeld ?_
          rotate_left
          · (intro w hSw; (try dsimp only at hSw); go_simp; try with_reducible rfl)
          simp only [Act.put, List.getElem_toArray, List.getElem_cons_zero, List.getElem_cons_succ, List.setIfInBounds_toArray, List.set_cons_zero, List.set_cons_succ]
          refine wpAnyH_take (i := 12) (v := ?_) rfl (by kernel_rfl) (by kernel_rfl) (by kernel_rfl) (fun c a w h => h) (Or.inl ⟨by rfl, ?_⟩) hHeld ?_
          rotate_left
          · (intro w hSw; (try dsimp only at hSw); go_simp; try with_reducible rfl)
          simp only [Act.put, List.getElem_toArray, List.getElem_cons_zero, List.getElem_cons_succ, List.setIfInBounds_toArray, List.set_cons_zero, List.set_cons_succ]
          refine wpAnyH_take (i := 13) (v := ?_) rfl (by kernel_rfl) (by kernel_rfl) (by kernel_rfl) (fun c a w h => h) (Or.inl ⟨by rfl, ?_⟩) hHeld ?_
          rotate_left
          · (intro w hSw; (try dsimp only at hSw); go_simp; try with_reducible rfl)
          simp only [Act.put, List.getElem_toArray, List.getElem_cons_zero, List.getElem_cons_succ, List.setIfInBounds_toArray, List.set_cons_zero, List.set_cons_succ]
          refine wpAnyH_take (i := 14) (v := ?_) rfl (by kernel_rfl) (by kernel_rfl) (by kernel_rfl) (fun c a w h => h) (Or.inl ⟨by rfl, ?_⟩) hHeld ?_
          rotate_left
          · (intro w hSw; (try dsimp only at hSw); go_simp; try with_reducible rfl)
          simp only [Act.put, List.getElem_toArray, List.getElem_cons_zero, List.getElem_cons_succ, List.setIfInBounds_toArray, List.set_cons_zero, List.set_cons_succ]
          refine wpAnyH_take (i := 15) (v := ?_) rfl (by kernel_rfl) (by kernel_rfl) (by kernel_rfl) (fun c a w h => h) (Or.inl ⟨by rfl, ?_⟩) hHeld ?_
          rotate_left
          · (intro w hSw; (try dsimp only at hSw); go_simp; try with_reducible rfl)
          simp only [Act.put, List.getElem_toArray, List.getElem_cons_zero, List.getElem_cons_succ, List.setIfInBounds_toArray, List.set_cons_zero, List.set_cons_succ]
          refine wpAnyH_take (i := 16) (v := ?_) rfl (by kernel_rfl) (by kernel_rfl) (by kernel_rfl) (fun c a w h => h) (Or.inl ⟨by rfl, ?_⟩) hHeld ?_
          rotate_left
          · (intro w hSw; (try dsimp only at hSw); go_simp; try with_reducible rfl)
          simp only [Act.put, List.getElem_toArray, List.getElem_cons_zero, List.getElem_cons_succ, List.setIfInBounds_toArray, List.set_cons_zero, List.set_cons_succ]
          refine wpAnyH_take (i := 18) (v := ?_) rfl (by kernel_rfl) (by kernel_rfl) (by kernel_rfl) (fun c a w h => h) (Or.inl ⟨by rfl, ?_⟩) hHeld ?_
          rotate_left
          · (intro w hSw; (try dsimp only at hSw); go_simp; try with_reducible rfl)
          simp only [Act.put, List.getElem_toArray, List.getElem_cons_zero, List.getElem_cons_succ, List.setIfInBounds_toArray, List.set_cons_zero, List.set_cons_succ]
          refine wpAnyH_take (i := 19) (v := ?_) rfl (by kernel_rfl) (by kernel_rfl) (by kernel_rfl) (fun c a w h => h) (Or.inl ⟨by rfl, ?_⟩) hHeld ?_
          rotate_left
          · (intro w hSw; (try dsimp only at hSw); go_simp; try with_reducible rfl)
          simp only [Act.put, List.getElem_toArray, List.getElem_cons_zero, List.getElem_cons_succ, List.setIfInBounds_toArray, List.set_cons_zero, List.set_cons_succ]
          refine wpAnyH_take (i := 20) (v := ?_) rfl (by kernel_rfl) (by kernel_rfl) (by kernel_rfl) (fun c a w h => h) (Or.inl ⟨by rfl, ?_⟩) hHeld ?_
          rotate_left
          · (intro w hSw; (try dsimp only at hSw); go_simp; try with_reducible rfl)
          simp only [Act.put, List.getElem_toArray, List.getElem_cons_zero, List.getElem_cons_succ, List.setIfInBounds_toArray, List.set_cons_zero, List.set_cons_succ]
          refine wpAnyH_ready (rs := [21]) (by kernel_rfl) (by simp) ?_
          refine AllReadyH.cons rfl (fun K hK => ?_) AllReadyH.nil
          rw [if_pos (by rfl)]
          refine wp_store_row 25 _ _ rfl gA #[.int .i64 7, .int .i64 3] (by simp [Act.eval]) (by simp [Act.eval]) 25 #[.int .i64 0, .int .i64 0] HAy19.out.1 (by exact sizePs) (by rfl) (by simp [Value.oneCell']) ?_
          obtain ⟨hR9, hA9⟩ := RF.store HRy19.out HAy19.out
          have s9 := hR9.s
          refine hK.out _ _ s9 (fun hHeld => ?_)
          have HZ := hid (And.intro hR9 hA9)
          clear hK K s9 hR9 hA9 HRy19 HAy19
          generalize y19.setRow gA #[.int .i64 7, .int .i64 3] = yz at *
          try simp only [Act.put, List.getElem_toArray, List.getElem_cons_zero, List.getElem_cons_succ, List.setIfInBounds_toArray, List.set_cons_zero, List.set_cons_succ]
          refine wpAnyH_take (i := 22) (v := ?_) rfl (by kernel_rfl) (by kernel_rfl) (by kernel_rfl) (fun c a w h => h) (Or.inl ⟨by rfl, ?_⟩) hHeld ?_
          rotate_left
          · (intro w hSw; (try dsimp only at hSw); go_simp; try with_reducible rfl)
          simp only [Act.put, List.getElem_toArray, List.getElem_cons_zero, List.getElem_cons_succ, List.setIfInBounds_toArray, List.set_cons_zero, List.set_cons_succ]
          refine wpAnyH_done (by kernel_rfl) ?_ _
          have e1 := S.cell_of yz a 0 _ 25 _ HZ.out.1.j.i.t rfl
          have e2 := S.cell_of yz a 1 _ 25 _ HZ.out.1.j.i.t rfl
          have e3 := S.cell_of yz b 0 _ 25 _ HZ.out.1.j.i.p rfl
          have e4 := S.cell_of yz b 1 _ 25 _ HZ.out.1.j.i.p rfl
          have e5 := S.cell_of yz cc 0 _ 25 _ HZ.out.1.j.q rfl
          have e6 := S.cell_of yz cc 1 _ 25 _ HZ.out.1.j.q rfl
          have e7 := S.cell_of yz gA 0 _ 25 _ HZ.out.2 rfl
          have e8 := S.cell_of yz gA 1 _ 25 _ HZ.out.2 rfl
          clear hHeld
          go_wp2
          go_ret
          exact ⟨rfl, HZ.out.1.j.i.bel⟩
end Go.Proofs.Yteeanomkbclinaa.Y
