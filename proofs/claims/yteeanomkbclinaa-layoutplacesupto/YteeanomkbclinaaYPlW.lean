import Derived.Test.YteeanomkbclinaaYPlK
/-! LayoutPlaces, walked. -/
namespace Go.Proofs.Yteeanomkbclinaa.Y
open Go.RowKit
open Go.Proofs
set_option linter.unusedVariables false
set_option linter.unusedSimpArgs false
set_option maxHeartbeats 4000000
set_option maxRecDepth 100000
theorem places_walk (ds : List Df) (bs : List Bk) (dv bkv : Value) (O : Nat → Prop) (W : World) (hO : ∀ i, O i → i < W.heap.size) (hD : DV W O dv ds) (hK : BV W O bkv bs) (hd1 : ds.length ≤ 1048576) (hd2 : ∀ d ∈ ds, nl d.body ≤ 1048576) (hb1 : bs.length ≤ 1048576) (hb2 : ∀ d ∈ bs, d.2.length ≤ 1048576) :
    Calls Try.prog 6 #[.agg #[dv, bkv]] W fun e w' => e = .returned (.bool true) ∧ Below W.heap.size W w' := by
  obtain ⟨q, c2, rfl, _, _⟩ := id hD
  obtain ⟨qb, cb2, rfl, _⟩ := id hK
  obtain ⟨W1, hW1⟩ : ∃ W1, W.alloc (.cells #[.slice q ds.length c2, .slice qb bs.length cb2] 32) = W1 := ⟨_, rfl⟩
  have k1 : Below W.heap.size W W1 := by rw [← hW1]; exact (Below.refl _ W).alloc (Nat.le_refl _) _
  have v1 : W1.heap[W.heap.size]? = some (.cells [.slice q ds.length c2, .slice qb bs.length cb2].toArray 32 (0, 0)) := by rw [← hW1]; exact heap_alloc_new W _
  have HW := hid hW1
  have H1 := hid (And.intro k1 v1)
  have HH := hid (And.intro hO (And.intro hD hK))
  have HN := hid (And.intro hd2 hb2)
  clear hW1 k1 v1 hO hD hK hd2 hb2
  go_enter Try.func6, Try.ntmps6
  go_wp2_with fail
  rw [HW.out]
  refine (fixed_any W1).mono ?_
  rintro e w0 ⟨rfl, k0⟩
  have hB0 : Below W.heap.size W w0 := H1.out.1.trans (k0.mono H1.out.1.size)
  have v0 := (k0.block _ (S.lt_of H1.out.2)).trans H1.out.2
  have e0 := S.cell_of w0 W.heap.size 0 _ 32 _ v0 rfl
  have e1 := S.cell_of w0 W.heap.size 1 _ 32 _ v0 rfl
  have H0 := hid (And.intro hB0 v0)
  clear k0 hB0 v0 HW H1
  go_wp2_with fail
  refine (own_prog ds bs _ _ O w0 (fun i hi => Nat.lt_of_lt_of_le (HH.out.1 i hi) H0.out.1.size) (HH.out.2.1.below H0.out.1 HH.out.1) (HH.out.2.2.below H0.out.1 HH.out.1) hd1 HN.out.1 hb1 HN.out.2).mono ?_
  rintro e w1 ⟨U, b, c, bkq, rfl, hOwn⟩
  obtain ⟨qk, ck, rfl, _⟩ := id hOwn.k
  have hs0 : W.heap.size < w0.heap.size := S.lt_of H0.out.2
  obtain ⟨K, hKd⟩ : ∃ K : Nat → Prop, K = fun i => w0.heap.size ≤ i ∧ i < w1.heap.size ∧ i ≠ b := ⟨_, rfl⟩
  obtain ⟨g3, hg3⟩ : ∃ g, g = w1.heap.size := ⟨_, rfl⟩
  obtain ⟨w2, hw2⟩ : ∃ x, x = w1.alloc (.cells #[.slice (some ⟨b, 0, none⟩) ds.length c, .slice qk bs.length ck] 32) := ⟨_, rfl⟩
  have hQ : LQ W w2 U K b c g3 (.slice q ds.length c2) (.slice qb bs.length cb2) (.slice qk bs.length ck) ds bs := by
    have k2 : Below w1.heap.size w1 w2 := by rw [hw2]; exact (Below.refl _ _).alloc (Nat.le_refl _) _
    have vg : w2.heap[g3]? = some (.cells [.slice (some ⟨b, 0, none⟩) ds.length c, .slice qk bs.length ck].toArray 32 (0, 0)) := by rw [hw2, hg3]; exact heap_alloc_new w1 _
    have hs1 := hOwn.bel.size
    have hs2 := k2.size
    have hbb := hOwn.bb
    refine ⟨H0.out.1.trans ((hOwn.bel.trans (k2.mono hs1)).mono H0.out.1.size), (k2.block _ (by omega)).trans ((hOwn.bel.block _ hs0).trans H0.out.2), hOwn.d.kept (k2.block b hbb.2) (fun i hi => k2.block i (hOwn.u i hi).2.1) (fun _ h => h), fun i hi => ?_, fun i hi => ?_, ?_, ?_, vg⟩
    · have := hOwn.u i hi
      exact ⟨by omega, by omega, this.2.2⟩
    · rw [hKd] at hi
      exact ⟨by omega, by omega, hi.2.2⟩
    · rw [hKd]; exact hOwn.k.kept (fun i hi => k2.block i hi.2.1) (fun _ h => h)
    · exact ⟨by omega, by omega, by omega⟩
  have HQ := hid hQ
  clear hOwn hKd hQ e0 e1 H0 hs0
  go_upto_region 4 with fail
  rw [← hg3, ← hw2]
  clear hg3 hw2
  have e0 := S.cell_of w2 W.heap.size 0 _ 32 _ HQ.out.b0 rfl
  have e1 := S.cell_of w2 W.heap.size 1 _ 32 _ HQ.out.b0 rfl
  have t0 := S.cell_of w2 g3 0 _ 32 _ HQ.out.g rfl
  have t1 := S.cell_of w2 g3 1 _ 32 _ HQ.out.g rfl
  go_wp2_with fail
  refine (of_an ds _ (.slice qk bs.length ck) ⟨_, _, _, rfl⟩ (· < w2.heap.size) w2 (fun _ h => h) HQ.out.dv).mono ?_
  rintro e w3 ⟨A1, p4, c4, hA1, rfl, r4, k3⟩
  have hb4 : b < w2.heap.size ∧ g3 < w2.heap.size := ⟨HQ.out.bb.2.1, S.lt_of HQ.out.g⟩
  have HUK := hid (And.intro (fun i (hi : U i) => (HQ.out.u i hi).2.1) (And.intro (fun i (hi : K i) => (HQ.out.kb i hi).2.1) (S.lt_of HQ.out.b0)))
  have HS4 := hid (World.ownsRow.lt r4)
  have HR4 := hid r4
  have z23 := k3.size
  have HQ := hid (HQ.out.next k3)
  clear e0 e1 t0 t1
  clear k3 r4
  go_upto_region 5 with fail
  obtain ⟨g7, hg7⟩ : ∃ g, g = w3.heap.size := ⟨_, rfl⟩
  obtain ⟨w4, hw4⟩ : ∃ x, x = w3.alloc (.cells #[.int .i64 A1.p.1, .int .i64 A1.p.2] 25) := ⟨_, rfl⟩
  have kw4 : Below w3.heap.size w3 w4 := by rw [hw4]; exact (Below.refl _ _).alloc (Nat.le_refl _) _
  have vg7 : w4.heap[g7]? = some (.cells [.int .i64 A1.p.1, .int .i64 A1.p.2].toArray 25 (0, 0)) := by rw [hw4, hg7]; exact heap_alloc_new w3 _
  rw [← hg7, ← hw4]
  have HQ := hid (HQ.out.next kw4)
  have HR4 := hid (S.own_kept HR4.out fun g _ hg => kw4.block g hg)
  have HV7 := hid vg7
  have z34 := kw4.size
  have hg7' : w3.heap.size ≤ g7 := by omega
  have hg7b : g7 < w4.heap.size := S.lt_of HV7.out
  clear hg7 hw4 kw4 vg7
  have e0 := S.cell_of w4 W.heap.size 0 _ 32 _ HQ.out.b0 rfl
  have e1 := S.cell_of w4 W.heap.size 1 _ 32 _ HQ.out.b0 rfl
  have t0 := S.cell_of w4 g3 0 _ 32 _ HQ.out.g rfl
  have t1 := S.cell_of w4 g3 1 _ 32 _ HQ.out.g rfl
  go_wp2_with fail
  refine (rof_an ds _ (.slice qb bs.length cb2) ⟨_, _, _, rfl⟩ O w4 (fun i hi => Nat.lt_of_lt_of_le (HH.out.1 i hi) HQ.out.bel.size) (HH.out.2.1.below HQ.out.bel HH.out.1)).mono ?_
  rintro e w5 ⟨A2, p9, c9, hA2, rfl, r9, k5⟩
  obtain rfl := hA1.uniq hA2
  have HR9 := hid r9
  have HS9 := hid (World.ownsRow.lt r9)
  have z45 := k5.size
  have HQ := hid (HQ.out.next k5)
  have HR4 := hid (S.own_kept HR4.out fun g _ hg => k5.block g hg)
  have HV7 := hid ((k5.block _ (S.lt_of HV7.out)).trans HV7.out)
  clear e0 e1 t0 t1
  clear k5 r9 hA2
  go_upto_region 6 with fail
  obtain ⟨g12, hg12⟩ : ∃ g, g = w5.heap.size := ⟨_, rfl⟩
  obtain ⟨w6, hw6⟩ : ∃ x, x = w5.alloc (.cells #[.int .i64 A1.p.1, .int .i64 A1.p.2] 25) := ⟨_, rfl⟩
  have kw6 : Below w5.heap.size w5 w6 := by rw [hw6]; exact (Below.refl _ _).alloc (Nat.le_refl _) _
  have vg12 : w6.heap[g12]? = some (.cells [.int .i64 A1.p.1, .int .i64 A1.p.2].toArray 25 (0, 0)) := by rw [hw6, hg12]; exact heap_alloc_new w5 _
  rw [← hg12, ← hw6]
  have HQ := hid (HQ.out.next kw6)
  have HR4 := hid (S.own_kept HR4.out fun g _ hg => kw6.block g hg)
  have HV7 := hid ((kw6.block _ (S.lt_of HV7.out)).trans HV7.out)
  have HR9 := hid (S.own_kept HR9.out fun g _ hg => kw6.block g hg)
  have HV12 := hid vg12
  have z56 := kw6.size
  have hg12' : w5.heap.size ≤ g12 := by omega
  have hg12b : g12 < w6.heap.size := S.lt_of HV12.out
  have hAl := hA1.len hd1
  have HA1 := hid hA1
  clear hg12 hw6 kw6 vg12 hA1
  go_wp2_with fail
  refine (same_any A1.l (by omega) _ _ w6 (own_ls HR4.out) (own_ls HR9.out)).mono ?_
  rintro e w7 ⟨rfl, k7⟩
  have z67 := k7.size
  have HQ := hid (HQ.out.next k7)
  have HR4 := hid (S.own_kept HR4.out fun g _ hg => k7.block g hg)
  have HV7 := hid ((k7.block _ (S.lt_of HV7.out)).trans HV7.out)
  have HR9 := hid (S.own_kept HR9.out fun g _ hg => k7.block g hg)
  have HV12 := hid ((k7.block _ (S.lt_of HV12.out)).trans HV12.out)
  clear k7
  have a0 := S.cell_of w7 g7 0 _ 25 _ HV7.out rfl
  have a1 := S.cell_of w7 g7 1 _ 25 _ HV7.out rfl
  have a2 := S.cell_of w7 g12 0 _ 25 _ HV12.out rfl
  have a3 := S.cell_of w7 g12 1 _ 25 _ HV12.out rfl
  go_wp2
  clear a0 a1 a2 a3
  go_loopw [14] (fun i wr => ∃ k : Nat, k ≤ ds.length ∧ k ≤ 50 ∧ i = .int .i64 (k : Int) ∧ Below w7.heap.size w7 wr) (fun i _ => 50 - (intOf i).toNat)
  case atStart => exact ⟨0, by omega, by omega, rfl, Below.refl _ _⟩
  case round =>
    obtain ⟨k, hk, hk5, rfl, hB⟩ := hrel
    have t0 := S.cell_of wr g3 0 _ 32 _ ((hB.block _ (S.lt_of HQ.out.g)).trans HQ.out.g) rfl
    by_cases hlt : k < ds.length ∧ k < 50
    · have i1 : (k : Int) < ds.length := by omega
      have i2 : (k : Int) < 50 := by omega
      have ea := List.getElem?_eq_getElem hlt.1
      generalize ds[k] = d at *
      obtain ⟨bv, hx, ht⟩ := HQ.out.q.d k d ea
      obtain ⟨q', c2', eq', _, hp⟩ := HH.out.2.1
      cases eq'
      obtain ⟨b2, o2, rfl, hOb2, bu, hx2, ht2⟩ := hp k d ea
      obtain ⟨tb, tc, rfl⟩ := ht.ex
      obtain ⟨q1, d1, rfl, _, _⟩ := ht2.ex
      have hs7 : W.heap.size < w7.heap.size := S.lt_of HQ.out.b0
      have hmk : ∀ X : World, Below w7.heap.size w7 X → (fun wz : World => wz.cell? ⟨g3, 0, none⟩ = some (.slice (some ⟨b, 0, none⟩) ds.length c) ∧ wz.cell? ⟨b, k * 6 + 3, none⟩ = some (.slice (some ⟨tb, 0, none⟩) d.body.length tc) ∧ wz.cell? ⟨W.heap.size, 0, none⟩ = some (.slice (some ⟨b2, o2, none⟩) ds.length c2) ∧ wz.cell? ⟨b2, o2 + k * 6 + 3, none⟩ = some (.slice q1 d.body.length d1)) X := fun X hX => by
        have xb : X.heap[b]? = w7.heap[b]? := hX.block b HQ.out.bb.2.1
        have xp : X.heap[b2]? = W.heap[b2]? := (hX.block b2 (by have := HH.out.1 b2 hOb2; omega)).trans (HQ.out.bel.block b2 (HH.out.1 b2 hOb2))
        exact ⟨S.cell_of X g3 0 _ 32 _ ((hX.block _ (S.lt_of HQ.out.g)).trans HQ.out.g) rfl, (World.cell?_of_block (w := w7) (a := ⟨b, k * 6 + 3, none⟩) xb).trans (hx 3 _ rfl), S.cell_of X W.heap.size 0 _ 32 _ ((hX.block _ (S.lt_of HQ.out.b0)).trans HQ.out.b0) rfl, (World.cell?_of_block (w := W) (a := ⟨b2, o2 + k * 6 + 3, none⟩) xp).trans (hx2 3 _ rfl)⟩
      have HMK := hid hmk
      have HB0 := hid hB.drew
      have HT := hid (And.intro ht ht2)
      clear hmk hB hx hx2 ht ht2 hp ea
      go_upto_region 11 with fail
      clear t0
      refine wp_region_held_drew (S := (fun wz : World => wz.cell? ⟨g3, 0, none⟩ = some (.slice (some ⟨b, 0, none⟩) ds.length c) ∧ wz.cell? ⟨b, k * 6 + 3, none⟩ = some (.slice (some ⟨tb, 0, none⟩) d.body.length tc) ∧ wz.cell? ⟨W.heap.size, 0, none⟩ = some (.slice (some ⟨b2, o2, none⟩) ds.length c2) ∧ wz.cell? ⟨b2, o2 + k * 6 + 3, none⟩ = some (.slice q1 d.body.length d1))) (by kernel_rfl) (HMK.out _ HB0.out) (fun hHeld => ?_)
      generalize wr.drew = y0 at *
      refine wpAnyH_take (i := 0) (v := ?_) rfl (by kernel_rfl) (by kernel_rfl) (by kernel_rfl) (fun c a w h => h) (Or.inl ⟨by rfl, ?_⟩) hHeld ?_
      rotate_left
      · (intro w hSw; (try dsimp only at hSw); go_simp; try with_reducible rfl)
      simp only [Act.put, List.getElem_toArray, List.getElem_cons_zero, List.getElem_cons_succ, List.setIfInBounds_toArray, List.set_cons_zero, List.set_cons_succ]
      refine wpAnyH_take (i := 1) (v := ?_) rfl (by kernel_rfl) (by kernel_rfl) (by kernel_rfl) (fun c a w h => h) (Or.inl ⟨by rfl, ?_⟩) hHeld ?_
      rotate_left
      · (intro w hSw; (try dsimp only at hSw); go_simp; try with_reducible rfl)
      simp only [Act.put, List.getElem_toArray, List.getElem_cons_zero, List.getElem_cons_succ, List.setIfInBounds_toArray, List.set_cons_zero, List.set_cons_succ]
      refine wpAnyH_take (i := 2) (v := ?_) rfl (by kernel_rfl) (by kernel_rfl) (by kernel_rfl) (fun c a w h => h) (Or.inl ⟨by rfl, ?_⟩) hHeld ?_
      rotate_left
      · (intro w hSw; (try dsimp only at hSw); go_simp; try with_reducible rfl)
      simp only [Act.put, List.getElem_toArray, List.getElem_cons_zero, List.getElem_cons_succ, List.setIfInBounds_toArray, List.set_cons_zero, List.set_cons_succ]
      refine wpAnyH_take (i := 3) (v := ?_) rfl (by kernel_rfl) (by kernel_rfl) (by kernel_rfl) (fun c a w h => h) (Or.inl ⟨by rfl, ?_⟩) hHeld ?_
      rotate_left
      · (intro w hSw; (try dsimp only at hSw); go_simp; try with_reducible rfl)
      simp only [Act.put, List.getElem_toArray, List.getElem_cons_zero, List.getElem_cons_succ, List.setIfInBounds_toArray, List.set_cons_zero, List.set_cons_succ]
      refine wpAnyH_take (i := 4) (v := ?_) rfl (by kernel_rfl) (by kernel_rfl) (by kernel_rfl) (fun c a w h => h) (Or.inl ⟨by rfl, ?_⟩) hHeld ?_
      rotate_left
      · (intro w hSw; (try dsimp only at hSw); go_simp; try with_reducible rfl)
      simp only [Act.put, List.getElem_toArray, List.getElem_cons_zero, List.getElem_cons_succ, List.setIfInBounds_toArray, List.set_cons_zero, List.set_cons_succ]
      refine wpAnyH_take (i := 5) (v := ?_) rfl (by kernel_rfl) (by kernel_rfl) (by kernel_rfl) (fun c a w h => h) (Or.inl ⟨by rfl, ?_⟩) hHeld ?_
      rotate_left
      · (intro w hSw; (try dsimp only at hSw); go_simp; try with_reducible rfl)
      simp only [Act.put, List.getElem_toArray, List.getElem_cons_zero, List.getElem_cons_succ, List.setIfInBounds_toArray, List.set_cons_zero, List.set_cons_succ]
      refine wpAnyH_take (i := 7) (v := ?_) rfl (by kernel_rfl) (by kernel_rfl) (by kernel_rfl) (fun c a w h => h) (Or.inl ⟨by rfl, ?_⟩) hHeld ?_
      rotate_left
      · (intro w hSw; (try dsimp only at hSw); go_simp; try with_reducible rfl)
      simp only [Act.put, List.getElem_toArray, List.getElem_cons_zero, List.getElem_cons_succ, List.setIfInBounds_toArray, List.set_cons_zero, List.set_cons_succ]
      refine wpAnyH_take (i := 8) (v := ?_) rfl (by kernel_rfl) (by kernel_rfl) (by kernel_rfl) (fun c a w h => h) (Or.inl ⟨by rfl, ?_⟩) hHeld ?_
      rotate_left
      · (intro w hSw; (try dsimp only at hSw); go_simp; try with_reducible rfl)
      simp only [Act.put, List.getElem_toArray, List.getElem_cons_zero, List.getElem_cons_succ, List.setIfInBounds_toArray, List.set_cons_zero, List.set_cons_succ]
      refine wpAnyH_take (i := 9) (v := ?_) rfl (by kernel_rfl) (by kernel_rfl) (by kernel_rfl) (fun c a w h => h) (Or.inl ⟨by rfl, ?_⟩) hHeld ?_
      rotate_left
      · (intro w hSw; (try dsimp only at hSw); go_simp; try with_reducible rfl)
      simp only [Act.put, List.getElem_toArray, List.getElem_cons_zero, List.getElem_cons_succ, List.setIfInBounds_toArray, List.set_cons_zero, List.set_cons_succ]
      refine wpAnyH_take (i := 10) (v := ?_) rfl (by kernel_rfl) (by kernel_rfl) (by kernel_rfl) (fun c a w h => h) (Or.inl ⟨by rfl, ?_⟩) hHeld ?_
      rotate_left
      · (intro w hSw; (try dsimp only at hSw); go_simp; try with_reducible rfl)
      simp only [Act.put, List.getElem_toArray, List.getElem_cons_zero, List.getElem_cons_succ, List.setIfInBounds_toArray, List.set_cons_zero, List.set_cons_succ]
      refine wpAnyH_take (i := 11) (v := ?_) rfl (by kernel_rfl) (by kernel_rfl) (by kernel_rfl) (fun c a w h => h) (Or.inl ⟨by rfl, ?_⟩) hHeld ?_
      rotate_left
      · (intro w hSw; (try dsimp only at hSw); go_simp; try with_reducible rfl)
      simp only [Act.put, List.getElem_toArray, List.getElem_cons_zero, List.getElem_cons_succ, List.setIfInBounds_toArray, List.set_cons_zero, List.set_cons_succ]
      refine wpAnyH_take (i := 12) (v := ?_) rfl (by kernel_rfl) (by kernel_rfl) (by kernel_rfl) (fun c a w h => h) (Or.inl ⟨by rfl, ?_⟩) hHeld ?_
      rotate_left
      · (intro w hSw; (try dsimp only at hSw); go_simp; try with_reducible rfl)
      simp only [Act.put, List.getElem_toArray, List.getElem_cons_zero, List.getElem_cons_succ, List.setIfInBounds_toArray, List.set_cons_zero, List.set_cons_succ]
      refine wpAnyH_ready (rs := [6]) (by kernel_rfl) (by simp) ?_
      refine AllReadyH.cons rfl (fun K' hK' => ?_) AllReadyH.nil
      go_simp
      refine (size_any d.body _ U y0 (fun i hi => Nat.lt_of_lt_of_le (HQ.out.u i hi).2.1 HB0.out.size) (HT.out.1.nv.kept (fun i hi => HB0.out.block i (HQ.out.u i hi).2.1) fun _ h => h)).mono ?_
      rintro e y1 ⟨rfl, kk⟩
      have HB1 := hid (HB0.out.trans (kk.mono HB0.out.size))
      refine hK'.out _ _ (HMK.out _ HB1.out) (fun hHeld => ?_)
      clear hK' K' kk
      try simp only [Act.put, List.getElem_toArray, List.getElem_cons_zero, List.getElem_cons_succ, List.setIfInBounds_toArray, List.set_cons_zero, List.set_cons_succ]
      refine wpAnyH_ready (rs := [13]) (by kernel_rfl) (by simp) ?_
      refine AllReadyH.cons rfl (fun K' hK' => ?_) AllReadyH.nil
      go_simp
      have hO1 : ∀ i, O i → i < y1.heap.size := fun i hi => by have := HH.out.1 i hi; have := HQ.out.bel.size; have := HB1.out.size; omega
      refine (rsize_any d.body _ O y1 hO1 (HT.out.2.kept (fun i hi => (HB1.out.block i (by have := HH.out.1 i hi; omega)).trans (HQ.out.bel.block i (HH.out.1 i hi))) fun _ h => h)).mono ?_
      rintro e y2 ⟨rfl, kk⟩
      have HB2 := hid (HB1.out.trans (kk.mono HB1.out.size))
      refine hK'.out _ _ (HMK.out _ HB2.out) (fun hHeld => ?_)
      clear hK' K' kk hO1
      try simp only [Act.put, List.getElem_toArray, List.getElem_cons_zero, List.getElem_cons_succ, List.setIfInBounds_toArray, List.set_cons_zero, List.set_cons_succ]
      refine wpAnyH_take (i := 14) (v := ?_) rfl (by kernel_rfl) (by kernel_rfl) (by kernel_rfl) (fun c a w h => h) (Or.inl ⟨by rfl, ?_⟩) hHeld ?_
      rotate_left
      · (intro w hSw; (try dsimp only at hSw); go_simp; try with_reducible rfl)
      simp only [Act.put, List.getElem_toArray, List.getElem_cons_zero, List.getElem_cons_succ, List.setIfInBounds_toArray, List.set_cons_zero, List.set_cons_succ]
      refine wpAnyH_done (by kernel_rfl) ?_ _
      clear hHeld
      go_wp2
      go_roundw
      case rel => exact ⟨k + 1, by omega, by omega, by go_num, HB2.out⟩
      case measure => simp [intOf]; omega
    · go_upto_region 9 with fail
      go_cut [75] (fun s wc => s = .bool false ∧ wc = wr)
      case first =>
        by_cases h1 : k < ds.length
        · have i1 : (k : Int) < ds.length := by omega
          have i2 : ¬ (k : Int) < 50 := by omega
          have i4 : (50 : Int) ≤ (k : Int) := by omega
          go_wp2
          go_meet
          case rel => exact ⟨rfl, rfl⟩
        · have i1 : ¬ (k : Int) < ds.length := by omega
          have i4 : (ds.length : Int) ≤ (k : Int) := by omega
          go_wp2
          go_meet
          case rel => exact ⟨rfl, rfl⟩
      case rest =>
        obtain ⟨rfl, hwc⟩ := hcut
        subst hwc
        clear t0
        have HQ := hid (HQ.out.next hB)
        have HR4 := hid (S.own_kept HR4.out fun g _ hg => hB.block g hg)
        have HV7 := hid ((hB.block _ (S.lt_of HV7.out)).trans HV7.out)
        have HR9 := hid (S.own_kept HR9.out fun g _ hg => hB.block g hg)
        have HV12 := hid ((hB.block _ (S.lt_of HV12.out)).trans HV12.out)
        have z78 := hB.size
        clear hB
        have e0 := S.cell_of wc W.heap.size 0 _ 32 _ HQ.out.b0 rfl
        have e1 := S.cell_of wc W.heap.size 1 _ 32 _ HQ.out.b0 rfl
        have t0 := S.cell_of wc g3 0 _ 32 _ HQ.out.g rfl
        have t1 := S.cell_of wc g3 1 _ 32 _ HQ.out.g rfl
        go_wp2_with fail
        refine (of_an ds _ (.slice qk bs.length ck) ⟨_, _, _, rfl⟩ (· < wc.heap.size) wc (fun _ h => h) HQ.out.dv).mono ?_
        rintro e w10 ⟨A3, p15, c15, hA3, rfl, r15, k10⟩
        obtain rfl := HA1.out.uniq hA3
        have HS15 := hid (World.ownsRow.lt r15)
        have HR15 := hid r15
        have z810 := k10.size
        have HQ := hid (HQ.out.next k10)
        have HR4 := hid (S.own_kept HR4.out fun g _ hg => k10.block g hg)
        have HV7 := hid ((k10.block _ (S.lt_of HV7.out)).trans HV7.out)
        have HR9 := hid (S.own_kept HR9.out fun g _ hg => k10.block g hg)
        have HV12 := hid ((k10.block _ (S.lt_of HV12.out)).trans HV12.out)
        clear e0 e1 t0 t1
        clear k10 r15 hA3
        go_upto_region 14 with fail
        obtain ⟨g18, hg18⟩ : ∃ g, g = w10.heap.size := ⟨_, rfl⟩
        obtain ⟨w11, hw11⟩ : ∃ x, x = w10.alloc (.cells #[.int .i64 A1.p.1, .int .i64 A1.p.2] 25) := ⟨_, rfl⟩
        have kw11 : Below w10.heap.size w10 w11 := by rw [hw11]; exact (Below.refl _ _).alloc (Nat.le_refl _) _
        have vg18 : w11.heap[g18]? = some (.cells [.int .i64 A1.p.1, .int .i64 A1.p.2].toArray 25 (0, 0)) := by rw [hw11, hg18]; exact heap_alloc_new w10 _
        rw [← hg18, ← hw11]
        have HQ := hid (HQ.out.next kw11)
        have HR4 := hid (S.own_kept HR4.out fun g _ hg => kw11.block g hg)
        have HV7 := hid ((kw11.block _ (S.lt_of HV7.out)).trans HV7.out)
        have HR9 := hid (S.own_kept HR9.out fun g _ hg => kw11.block g hg)
        have HV12 := hid ((kw11.block _ (S.lt_of HV12.out)).trans HV12.out)
        have HR15 := hid (S.own_kept HR15.out fun g _ hg => kw11.block g hg)
        have z1011 := kw11.size
        clear hg18 hw11 kw11 vg18
        have e0 := S.cell_of w11 W.heap.size 0 _ 32 _ HQ.out.b0 rfl
        have e1 := S.cell_of w11 W.heap.size 1 _ 32 _ HQ.out.b0 rfl
        have t0 := S.cell_of w11 g3 0 _ 32 _ HQ.out.g rfl
        have t1 := S.cell_of w11 g3 1 _ 32 _ HQ.out.g rfl
        go_wp2_with fail
        refine (whole_prog ds bs _ _ _ b c U O K w11 (fun i hi => Nat.lt_of_lt_of_le (HH.out.1 i hi) HQ.out.bel.size) (fun i hi => (HQ.out.u i hi).2.1) (fun i hi => (HQ.out.kb i hi).2.1) HQ.out.bb.2.1 HQ.out.q (HH.out.2.1.below HQ.out.bel HH.out.1) HQ.out.k (HH.out.2.2.below HQ.out.bel HH.out.1) hb1).mono ?_
        rintro e w12 ⟨rfl, k12⟩
        have z1112 := k12.size
        have HQ := hid (HQ.out.next k12)
        have HR4 := hid (S.own_kept HR4.out fun g _ hg => k12.block g hg)
        have HV7 := hid ((k12.block _ (S.lt_of HV7.out)).trans HV7.out)
        have HR9 := hid (S.own_kept HR9.out fun g _ hg => k12.block g hg)
        have HV12 := hid ((k12.block _ (S.lt_of HV12.out)).trans HV12.out)
        have HR15 := hid (S.own_kept HR15.out fun g _ hg => k12.block g hg)
        clear e0 e1 t0 t1
        clear k12
        go_wp2
        go_loopw [20] (fun i wr => ∃ k : Nat, k ≤ ds.length ∧ i = .int .i64 (k : Int) ∧ KL w12 wr b ∧ QD wr U b c (part ds k)) (fun i _ => ds.length - (intOf i).toNat)
        case atStart => exact ⟨0, by omega, rfl, KL.refl _ _, by rw [part_zero]; exact HQ.out.q⟩
        case round =>
          obtain ⟨k, hk, rfl, hL, hP⟩ := hrel
          have t0 := S.cell_of wr g3 0 _ 32 _ ((hL.blk _ (Ne.symm HQ.out.bb.2.2)).trans HQ.out.g) rfl
          by_cases hlt : k < ds.length
          · have i1 : (k : Int) < ds.length := by omega
            have ea := List.getElem?_eq_getElem hlt
            generalize ds[k] = d at *
            obtain ⟨bv, hx, ht⟩ := hP.d k d (part_at ds k d ea)
            obtain ⟨cur, hcur⟩ := hP.blk
            have x0 : wr.drew.cell? ⟨b, k * 6, none⟩ = some (.int .i64 d.k) := by have := hx 0 _ rfl; rwa [Nat.add_zero] at this
            have s0 : (fun wz : World => wz.cell? ⟨g3, 0, none⟩ = some (.slice (some ⟨b, 0, none⟩) ds.length c) ∧ wz.cell? ⟨b, k * 6, none⟩ = some (.int .i64 d.k)) wr.drew := ⟨t0, x0⟩
            have HPP := hid (And.intro hP (And.intro hL (And.intro ea hcur)))
            clear hP hL ea hcur hx ht x0
            go_upto_region 19 with fail
            clear t0
            refine wp_region_drop [12] (S := (fun wz : World => wz.cell? ⟨g3, 0, none⟩ = some (.slice (some ⟨b, 0, none⟩) ds.length c) ∧ wz.cell? ⟨b, k * 6, none⟩ = some (.int .i64 d.k))) (by kernel_rfl) s0 (fun hHeld => ?_)
            have HF := hid (S.frozen_of wr.drew b (k * 6) cur 36 HPP.out.2.2.2)
            have HKL := hid HPP.out.2.1.drew
            have HQD := hid (HPP.out.1.kept (W' := wr.drew) rfl (fun _ _ => rfl) (fun _ h => h))
            clear s0
            generalize wr.drew = y0 at *
            refine wpD_take (i := 0) (v := ?_) rfl (by kernel_rfl) (by kernel_rfl) (by kernel_rfl) (by kernel_rfl) (by kernel_rfl) (fun c a w h => h) (Or.inl ⟨by rfl, ?_⟩) hHeld ?_
            rotate_left
            · (intro w hSw; (try dsimp only at hSw); go_simp; try with_reducible rfl)
            simp only [Act.put, List.getElem_toArray, List.getElem_cons_zero, List.getElem_cons_succ, List.setIfInBounds_toArray, List.set_cons_zero, List.set_cons_succ]
            refine wpD_take (i := 1) (v := ?_) rfl (by kernel_rfl) (by kernel_rfl) (by kernel_rfl) (by kernel_rfl) (by kernel_rfl) (fun c a w h => h) (Or.inl ⟨by rfl, ?_⟩) hHeld ?_
            rotate_left
            · (intro w hSw; (try dsimp only at hSw); go_simp; try with_reducible rfl)
            simp only [Act.put, List.getElem_toArray, List.getElem_cons_zero, List.getElem_cons_succ, List.setIfInBounds_toArray, List.set_cons_zero, List.set_cons_succ]
            refine wpD_take (i := 2) (v := ?_) rfl (by kernel_rfl) (by kernel_rfl) (by kernel_rfl) (by kernel_rfl) (by kernel_rfl) (fun c a w h => h) (Or.inl ⟨by rfl, ?_⟩) hHeld ?_
            rotate_left
            · (intro w hSw; (try dsimp only at hSw); go_simp; try with_reducible rfl)
            simp only [Act.put, List.getElem_toArray, List.getElem_cons_zero, List.getElem_cons_succ, List.setIfInBounds_toArray, List.set_cons_zero, List.set_cons_succ]
            refine wpD_take (i := 3) (v := ?_) rfl (by kernel_rfl) (by kernel_rfl) (by kernel_rfl) (by kernel_rfl) (by kernel_rfl) (fun c a w h => h) (Or.inl ⟨by rfl, ?_⟩) hHeld ?_
            rotate_left
            · (intro w hSw; (try dsimp only at hSw); go_simp; try with_reducible rfl)
            simp only [Act.put, List.getElem_toArray, List.getElem_cons_zero, List.getElem_cons_succ, List.setIfInBounds_toArray, List.set_cons_zero, List.set_cons_succ]
            refine wpD_take (i := 4) (v := ?_) rfl (by kernel_rfl) (by kernel_rfl) (by kernel_rfl) (by kernel_rfl) (by kernel_rfl) (fun c a w h => h) (Or.inl ⟨by rfl, ?_⟩) hHeld ?_
            rotate_left
            · (intro w hSw; (try dsimp only at hSw); go_simp; try with_reducible rfl)
            simp only [Act.put, List.getElem_toArray, List.getElem_cons_zero, List.getElem_cons_succ, List.setIfInBounds_toArray, List.set_cons_zero, List.set_cons_succ]
            refine wpD_take (i := 5) (v := ?_) rfl (by kernel_rfl) (by kernel_rfl) (by kernel_rfl) (by kernel_rfl) (by kernel_rfl) (fun c a w h => h) (Or.inl ⟨by rfl, ?_⟩) hHeld ?_
            rotate_left
            · (intro w hSw; (try dsimp only at hSw); go_simp; try with_reducible rfl)
            simp only [Act.put, List.getElem_toArray, List.getElem_cons_zero, List.getElem_cons_succ, List.setIfInBounds_toArray, List.set_cons_zero, List.set_cons_succ]
            refine wpD_take (i := 6) (v := ?_) rfl (by kernel_rfl) (by kernel_rfl) (by kernel_rfl) (by kernel_rfl) (by kernel_rfl) (fun c a w h => h) (Or.inl ⟨by rfl, ?_⟩) hHeld ?_
            rotate_left
            · (intro w hSw; (try dsimp only at hSw); go_simp; try with_reducible rfl)
            simp only [Act.put, List.getElem_toArray, List.getElem_cons_zero, List.getElem_cons_succ, List.setIfInBounds_toArray, List.set_cons_zero, List.set_cons_succ]
            refine wpD_take (i := 7) (v := ?_) rfl (by kernel_rfl) (by kernel_rfl) (by kernel_rfl) (by kernel_rfl) (by kernel_rfl) (fun c a w h => h) (Or.inl ⟨by rfl, ?_⟩) hHeld ?_
            rotate_left
            · (intro w hSw; (try dsimp only at hSw); go_simp; try with_reducible rfl)
            simp only [Act.put, List.getElem_toArray, List.getElem_cons_zero, List.getElem_cons_succ, List.setIfInBounds_toArray, List.set_cons_zero, List.set_cons_succ]
            refine wpD_take (i := 8) (v := ?_) rfl (by kernel_rfl) (by kernel_rfl) (by kernel_rfl) (by kernel_rfl) (by kernel_rfl) (fun c a w h => h) (Or.inl ⟨by rfl, ?_⟩) hHeld ?_
            rotate_left
            · (intro w hSw; (try dsimp only at hSw); go_simp; try with_reducible rfl)
            simp only [Act.put, List.getElem_toArray, List.getElem_cons_zero, List.getElem_cons_succ, List.setIfInBounds_toArray, List.set_cons_zero, List.set_cons_succ]
            refine wpD_take (i := 9) (v := ?_) rfl (by kernel_rfl) (by kernel_rfl) (by kernel_rfl) (by kernel_rfl) (by kernel_rfl) (fun c a w h => h) (Or.inl ⟨by rfl, ?_⟩) hHeld ?_
            rotate_left
            · (intro w hSw; (try dsimp only at hSw); go_simp; try with_reducible rfl)
            simp only [Act.put, List.getElem_toArray, List.getElem_cons_zero, List.getElem_cons_succ, List.setIfInBounds_toArray, List.set_cons_zero, List.set_cons_succ]
            refine wpD_ready (rs := [10]) (by kernel_rfl) (by simp) ?_
            refine AllD.cons rfl (fun K hK => ?_) AllD.nil
            go_simp
            refine hK.out _ _ hHeld (fun hHeld => ?_)
            clear hK
            try simp only [Act.put, List.getElem_toArray, List.getElem_cons_zero, List.getElem_cons_succ, List.setIfInBounds_toArray, List.set_cons_zero, List.set_cons_succ]
            refine wpD_take (i := 11) (v := ?_) rfl (by kernel_rfl) (by kernel_rfl) (by kernel_rfl) (by kernel_rfl) (by kernel_rfl) (fun c a w h => h) (Or.inl ⟨by rfl, ?_⟩) hHeld ?_
            rotate_left
            · (intro w hSw; (try dsimp only at hSw); go_simp; try with_reducible rfl)
            simp only [Act.put, List.getElem_toArray, List.getElem_cons_zero, List.getElem_cons_succ, List.setIfInBounds_toArray, List.set_cons_zero, List.set_cons_succ]
            obtain ⟨_, f1⟩ := hHeld
            have f0 := HF.out
            refine wpD_ready (rs := [12]) (by kernel_rfl) (by simp) ?_
            refine AllD.late rfl (by kernel_rfl) (fun K hK => ?_)
            go_simp
            refine hK.out _ _ ?_
            clear hK f0 f1
            try simp only [Act.put, List.getElem_toArray, List.getElem_cons_zero, List.getElem_cons_succ, List.setIfInBounds_toArray, List.set_cons_zero, List.set_cons_succ]
            refine wpD_done (by kernel_rfl) ?_ _
            rw [IntWalk.i64_left]
            have HN2 := hid (And.intro (HKL.out.set (k * 6) (.int .i64 (wrap64 (4 - d.k)))) (HQD.out.set (fun h => (HQ.out.u b h).2.2 rfl) k d (part_at ds k d HPP.out.2.2.1) (wrap64 (4 - d.k))))
            generalize y0.setCell ⟨b, k * 6, none⟩ (.int .i64 (wrap64 (4 - d.k))) = y9 at *
            go_wp2
            go_roundw
            case rel => exact ⟨k + 1, by omega, by go_num, HN2.out.1, by rw [← part_succ ds k d HPP.out.2.2.1]; exact HN2.out.2⟩
            case measure => simp [intOf]; omega
          · obtain rfl : k = ds.length := by omega
            have i1 : ¬ (ds.length : Int) < ds.length := by omega
            have hszb := hL.sz
            have HQ := hid (HQ.out.turned hL hP (part_len ds _))
            have hr : ∀ {B n : Nat} {t : TypeId} {v : Value} {xs : List Value}, w2.heap.size ≤ B → w12.ownsRow B t 4 v n xs → wr.ownsRow B t 4 v n xs := fun hB ho => S.own_kept ho fun g hg _ => hL.blk g (by have := own_ge ho g hg; omega)
            have HR4 := hid (hr (by omega) HR4.out)
            have HR9 := hid (hr (by omega) HR9.out)
            have HR15 := hid (hr (by omega) HR15.out)
            have HV7 := hid ((hL.blk g7 (by omega)).trans HV7.out)
            have HV12 := hid ((hL.blk g12 (by omega)).trans HV12.out)
            have z1213 : w12.heap.size ≤ wr.heap.size := Nat.le_of_eq hszb.symm
            have hpl := part_len ds ds.length
            have hpn : part ds ds.length = ds.map flip := by unfold part; rw [List.take_length, List.drop_length, List.append_nil]
            generalize hdF : part ds ds.length = dF at *
            clear hr hL hP hszb t0 hpn hdF
            have t0 : wr.cell? ⟨g3, 0, none⟩ = some (.slice (some ⟨b, 0, none⟩) ds.length c) := by have := S.cell_of wr g3 0 _ 32 _ HQ.out.g rfl; rwa [hpl] at this
            have t1 := S.cell_of wr g3 1 _ 32 _ HQ.out.g rfl
            have HPL := hid hpl
            clear hpl
            go_wp2_with fail
            have hdv := HQ.out.dv
            rw [HPL.out] at hdv
            refine (of_an dF _ (.slice qk bs.length ck) ⟨_, _, _, rfl⟩ (· < wr.heap.size) wr (fun _ h => h) hdv).mono ?_
            rintro e x1 ⟨A4, p21, c21, hA4, rfl, r21, kx1⟩
            have HS21 := hid (World.ownsRow.lt r21)
            have HR21 := hid r21
            have zx1 := kx1.size
            have HQ := hid (HQ.out.next kx1)
            have HR4 := hid (S.own_kept HR4.out fun g _ hg => kx1.block g hg)
            have HV7 := hid ((kx1.block _ (S.lt_of HV7.out)).trans HV7.out)
            have HR9 := hid (S.own_kept HR9.out fun g _ hg => kx1.block g hg)
            have HV12 := hid ((kx1.block _ (S.lt_of HV12.out)).trans HV12.out)
            have HR15 := hid (S.own_kept HR15.out fun g _ hg => kx1.block g hg)
            clear kx1 r21 t0 t1 hdv
            have hv7 := HV7.out
            go_upto_region 21 with (refine wpList_store_row rfl 25 _ _ rfl g7 #[.int .i64 A4.p.1, .int .i64 A4.p.2] rfl rfl 25 #[.int .i64 A1.p.1, .int .i64 A1.p.2] hv7 (by kernel_rfl) (by rfl) (by simp [Value.oneCell']) ?_)
            clear hv7
            have hKL := KL.row x1 g7 #[.int .i64 A4.p.1, .int .i64 A4.p.2]
            have vg7 := setRow_heap x1 g7 _ #[.int .i64 A4.p.1, .int .i64 A4.p.2] _ _ HV7.out
            generalize x1.setRow g7 #[.int .i64 A4.p.1, .int .i64 A4.p.2] = x2 at *
            have HV7 := hid (show x2.heap[g7]? = some (.cells [.int .i64 A4.p.1, .int .i64 A4.p.2].toArray 25 (0, 0)) from vg7)
            have HQ := hid (HQ.out.under hKL.below (by have := HUK.out.2.2; omega) (fun i hi => by have := HUK.out.1 i hi; omega) (fun i hi => by have := HUK.out.2.1 i hi; omega) (by omega) (by omega))
            have zx1x2 : x1.heap.size ≤ x2.heap.size := Nat.le_of_eq hKL.sz.symm
            have HR4 := hid (S.own_kept HR4.out fun g hg _ => hKL.blk g (by have := (HS4.out g hg).2; omega))
            have HR9 := hid (S.own_kept HR9.out fun g hg _ => hKL.blk g (by have := own_ge HR9.out g hg; omega))
            have HR15 := hid (S.own_kept HR15.out fun g hg _ => hKL.blk g (by have := own_ge HR15.out g hg; omega))
            have HR21 := hid (S.own_kept HR21.out fun g hg _ => hKL.blk g (by have := own_ge HR21.out g hg; omega))
            have HV12 := hid ((hKL.blk g12 (by omega)).trans HV12.out)
            clear hKL vg7
            have t0 : x2.cell? ⟨g3, 0, none⟩ = some (.slice (some ⟨b, 0, none⟩) ds.length c) := by have := S.cell_of x2 g3 0 _ 32 _ HQ.out.g rfl; rwa [HPL.out] at this
            have t1 := S.cell_of x2 g3 1 _ 32 _ HQ.out.g rfl
            go_wp2_with fail
            have hdv := HQ.out.dv
            rw [HPL.out] at hdv
            refine (rof_an dF _ (.slice qk bs.length ck) ⟨_, _, _, rfl⟩ (· < x2.heap.size) x2 (fun _ h => h) hdv).mono ?_
            rintro e x3 ⟨A5, p22, c22, hA5, rfl, r22, kx3⟩
            obtain rfl := hA4.uniq hA5
            have HR22 := hid r22
            have zx3 := kx3.size
            have HQ := hid (HQ.out.next kx3)
            have HR4 := hid (S.own_kept HR4.out fun g _ hg => kx3.block g hg)
            have HV7 := hid ((kx3.block _ (S.lt_of HV7.out)).trans HV7.out)
            have HR9 := hid (S.own_kept HR9.out fun g _ hg => kx3.block g hg)
            have HV12 := hid ((kx3.block _ (S.lt_of HV12.out)).trans HV12.out)
            have HR15 := hid (S.own_kept HR15.out fun g _ hg => kx3.block g hg)
            have HR21 := hid (S.own_kept HR21.out fun g _ hg => kx3.block g hg)
            clear kx3 r22 t0 t1 hdv hA5
            have hv12 := HV12.out
            go_upto_region 22 with (refine wpList_store_row rfl 25 _ _ rfl g12 #[.int .i64 A4.p.1, .int .i64 A4.p.2] rfl rfl 25 #[.int .i64 A1.p.1, .int .i64 A1.p.2] hv12 (by kernel_rfl) (by rfl) (by simp [Value.oneCell']) ?_)
            clear hv12
            have hKL := KL.row x3 g12 #[.int .i64 A4.p.1, .int .i64 A4.p.2]
            have vg12 := setRow_heap x3 g12 _ #[.int .i64 A4.p.1, .int .i64 A4.p.2] _ _ HV12.out
            generalize x3.setRow g12 #[.int .i64 A4.p.1, .int .i64 A4.p.2] = x4 at *
            have HV12 := hid (show x4.heap[g12]? = some (.cells [.int .i64 A4.p.1, .int .i64 A4.p.2].toArray 25 (0, 0)) from vg12)
            have HQ := hid (HQ.out.under hKL.below (by have := HUK.out.2.2; omega) (fun i hi => by have := HUK.out.1 i hi; omega) (fun i hi => by have := HUK.out.2.1 i hi; omega) (by omega) (by omega))
            have zx3x4 : x3.heap.size ≤ x4.heap.size := Nat.le_of_eq hKL.sz.symm
            have HR4 := hid (S.own_kept HR4.out fun g hg _ => hKL.blk g (by have := (HS4.out g hg).2; omega))
            have HR9 := hid (S.own_kept HR9.out fun g hg _ => hKL.blk g (by have := (HS9.out g hg).2; omega))
            have HR15 := hid (S.own_kept HR15.out fun g hg _ => hKL.blk g (by have := own_ge HR15.out g hg; omega))
            have HR21 := hid (S.own_kept HR21.out fun g hg _ => hKL.blk g (by have := own_ge HR21.out g hg; omega))
            have HR22 := hid (S.own_kept HR22.out fun g hg _ => hKL.blk g (by have := own_ge HR22.out g hg; omega))
            have HV7 := hid ((hKL.blk g7 (by omega)).trans HV7.out)
            clear hKL vg12
            have hAl4 := hA4.len (by rw [HPL.out]; exact hd1)
            go_wp2_with fail
            refine (same_any A4.l (by omega) _ _ x4 (own_ls HR21.out) (own_ls HR22.out)).mono ?_
            rintro e x5 ⟨rfl, kx5⟩
            have zx5 := kx5.size
            have HQ := hid (HQ.out.next kx5)
            have HR4 := hid (S.own_kept HR4.out fun g _ hg => kx5.block g hg)
            have HV7 := hid ((kx5.block _ (S.lt_of HV7.out)).trans HV7.out)
            have HR9 := hid (S.own_kept HR9.out fun g _ hg => kx5.block g hg)
            have HV12 := hid ((kx5.block _ (S.lt_of HV12.out)).trans HV12.out)
            have HR15 := hid (S.own_kept HR15.out fun g _ hg => kx5.block g hg)
            have HR21 := hid (S.own_kept HR21.out fun g _ hg => kx5.block g hg)
            have HR22 := hid (S.own_kept HR22.out fun g _ hg => kx5.block g hg)
            clear kx5
            have a0 := S.cell_of x5 g7 0 _ 25 _ HV7.out rfl
            have a1 := S.cell_of x5 g7 1 _ 25 _ HV7.out rfl
            have a2 := S.cell_of x5 g12 0 _ 25 _ HV12.out rfl
            have a3 := S.cell_of x5 g12 1 _ 25 _ HV12.out rfl
            go_wp2_with fail
            refine (same_any A1.l (by omega) _ _ x5 (own_ls HR4.out) (own_ls HR9.out)).mono ?_
            rintro e x6 ⟨rfl, kx6⟩
            have zx6 := kx6.size
            have HQ := hid (HQ.out.next kx6)
            have HR4 := hid (S.own_kept HR4.out fun g _ hg => kx6.block g hg)
            have HV7 := hid ((kx6.block _ (S.lt_of HV7.out)).trans HV7.out)
            have HR9 := hid (S.own_kept HR9.out fun g _ hg => kx6.block g hg)
            have HV12 := hid ((kx6.block _ (S.lt_of HV12.out)).trans HV12.out)
            have HR15 := hid (S.own_kept HR15.out fun g _ hg => kx6.block g hg)
            have HR21 := hid (S.own_kept HR21.out fun g _ hg => kx6.block g hg)
            have HR22 := hid (S.own_kept HR22.out fun g _ hg => kx6.block g hg)
            clear kx6 a0 a1 a2 a3
            go_wp2_with fail
            refine (same_any A1.l (by omega) _ _ x6 (own_ls HR15.out) (own_ls HR9.out)).mono ?_
            rintro e x7 ⟨rfl, kx7⟩
            have zx7 := kx7.size
            have HQ := hid (HQ.out.next kx7)
            have HR4 := hid (S.own_kept HR4.out fun g _ hg => kx7.block g hg)
            have HV7 := hid ((kx7.block _ (S.lt_of HV7.out)).trans HV7.out)
            have HR9 := hid (S.own_kept HR9.out fun g _ hg => kx7.block g hg)
            have HV12 := hid ((kx7.block _ (S.lt_of HV12.out)).trans HV12.out)
            have HR15 := hid (S.own_kept HR15.out fun g _ hg => kx7.block g hg)
            have HR21 := hid (S.own_kept HR21.out fun g _ hg => kx7.block g hg)
            have HR22 := hid (S.own_kept HR22.out fun g _ hg => kx7.block g hg)
            clear kx7
            obtain ⟨bl, hbl⟩ : ∃ bl, bl = x7.heap.size := ⟨_, rfl⟩
            obtain ⟨x8, hx8⟩ : ∃ x, x7.alloc (.cells #[.slice p4 A1.l.length c4, .slice p15 A1.l.length c15, .slice p21 A4.l.length c21] 23) = x := ⟨_, rfl⟩
            have kx8 : Below x7.heap.size x7 x8 := by rw [← hx8]; exact (Below.refl _ _).alloc (Nat.le_refl _) _
            have vbl : x8.heap[bl]? = some (.cells [.slice p4 A1.l.length c4, .slice p15 A1.l.length c15, .slice p21 A4.l.length c21].toArray 23 (0, 0)) := by rw [← hx8, hbl]; exact heap_alloc_new x7 _
            have zx8 := kx8.size
            have HQ := hid (HQ.out.next kx8)
            have HR4 := hid (S.own_kept HR4.out fun g _ hg => kx8.block g hg)
            have HV7 := hid ((kx8.block _ (S.lt_of HV7.out)).trans HV7.out)
            have HR9 := hid (S.own_kept HR9.out fun g _ hg => kx8.block g hg)
            have HV12 := hid ((kx8.block _ (S.lt_of HV12.out)).trans HV12.out)
            have HR15 := hid (S.own_kept HR15.out fun g _ hg => kx8.block g hg)
            have HR21 := hid (S.own_kept HR21.out fun g _ hg => kx8.block g hg)
            have HR22 := hid (S.own_kept HR22.out fun g _ hg => kx8.block g hg)
            clear kx8
            have hP1 : P1 w2.heap.size bl 3 (pick3 (.slice p4 A1.l.length c4) (.slice p15 A1.l.length c15) (.slice p21 A4.l.length c21)) (pick3 A1.l.length A1.l.length A4.l.length) x8 x8 (pick3 A1.l A1.l A4.l) := by
              refine ⟨Below.refl _ _, by omega, fun i hi => ?_, ⟨_, vbl⟩, fun i hi => ?_, fun i hi => ?_, fun i j hi hj hne x hx hy => ?_⟩
              · match i, hi with
                | 0, _ => exact S.cell_of x8 bl 0 _ 23 _ vbl rfl
                | 1, _ => exact S.cell_of x8 bl 1 _ 23 _ vbl rfl
                | 2, _ => exact S.cell_of x8 bl 2 _ 23 _ vbl rfl
                | i + 3, h => omega
              · match i, hi with
                | 0, _ => exact HR4.out
                | 1, _ => exact S.own_mono HR15.out (by omega)
                | 2, _ => exact S.own_mono HR21.out (by omega)
                | i + 3, h => omega
              · match i, hi with
                | 0, _ => rfl
                | 1, _ => rfl
                | 2, _ => rfl
                | i + 3, h => omega
              · match i, hi, j, hj with
                | 0, _, 0, _ => exact hne rfl
                | 0, _, 1, _ => have := HS4.out x hx; have := HS15.out x hy; omega
                | 0, _, 2, _ => have := HS4.out x hx; have := HS21.out x hy; omega
                | 1, _, 0, _ => have := HS15.out x hx; have := HS4.out x hy; omega
                | 1, _, 1, _ => exact hne rfl
                | 1, _, 2, _ => have := HS15.out x hx; have := HS21.out x hy; omega
                | 2, _, 0, _ => have := HS21.out x hx; have := HS4.out x hy; omega
                | 2, _, 1, _ => have := HS21.out x hx; have := HS15.out x hy; omega
                | 2, _, 2, _ => exact hne rfl
                | i + 3, h, _, _ => omega
                | _, _, j + 3, h => omega
            have hap := apart_any w2.heap.size bl 3 3 (by omega) _ _ _ x8 hP1 (fun i hi => by
              match i, hi with
              | 0, _ => show A1.l.length ≤ 65536; omega
              | 1, _ => show A1.l.length ≤ 65536; omega
              | 2, _ => show A4.l.length ≤ 65536; omega
              | i + 3, h => omega)
            have HX8 := hid hx8
            have HBL := hid hbl
            clear hP1 vbl hx8 hbl
            go_wp2_with fail
            rw [HX8.out, ← HBL.out]
            refine hap.mono ?_
            rintro e x9 ⟨rfl, k9⟩
            have HK9 := hid k9
            clear k9 hap
            go_wp2
            go_ret
            exact ⟨rfl, HQ.out.bel.trans (HK9.out.mono (by have := HUK.out.2.2; omega))⟩
end Go.Proofs.Yteeanomkbclinaa.Y
