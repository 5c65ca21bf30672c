import Derived.Test.YteeanomkbclinaaYFolM
/-! LayoutFollows, walked. -/
namespace Go.Proofs.Yteeanomkbclinaa.Y
open Go.RowKit
open Go.Proofs
set_option linter.unusedVariables false
set_option linter.unusedSimpArgs false
set_option maxHeartbeats 4000000
set_option maxRecDepth 100000
/-- What the law holds: the program in its box, the places in a row. -/
structure FI (W w : World) (O : Nat → Prop) (dv bkv v : Value) (ds : List Df) : Prop where
  bel : Below W.heap.size W w
  box : w.heap[W.heap.size]? = some (.cells #[dv, bkv] 32 (0, 0))
  row : w.ownsRow (W.heap.size + 1) 40 4 v ds.length (S.en plc (pls ds ds.length))
  d : DV w O dv ds
  o : ∀ i, O i → i < W.heap.size
theorem FI.next {W w w' : World} {O : Nat → Prop} {dv bkv v : Value} {ds : List Df} (h : FI W w O dv bkv v ds) (k : Below w.heap.size w w') : FI W w' O dv bkv v ds :=
  ⟨h.bel.trans (k.mono h.bel.size), (k.block _ (S.lt_of h.box)).trans h.box, S.own_kept h.row fun g _ hg => k.block g hg, h.d.kept (fun i hi => k.block i (Nat.lt_of_lt_of_le (h.o i hi) h.bel.size)) fun _ h => h, h.o⟩
/-- The cells of place k. -/
theorem FI.cells {W w : World} {O : Nat → Prop} {dv bkv : Value} {g cap : Nat} {ds : List Df} (h : FI W w O dv bkv (.slice (some ⟨g, 0, none⟩) ds.length cap) ds) (k : Nat) (d : Df) (hd : ds[k]? = some d) (j : Nat) (u : Value) (hj : (plc (bt d (rms ds k) (rms ds (k + 1))))[j]? = some u) : w.cell? ⟨g, k * 4 + j, none⟩ = some u := by
  have hk := (List.getElem?_eq_some_iff.1 hd).1
  have hp := pls_get ds ds.length k d hk hd (Nat.le_refl _)
  have h4 : j < 4 := (List.getElem?_eq_some_iff.1 hj).1
  have := World.ownsRow.cells h.row (g := g) rfl (k * 4 + j) u (by rw [S.en_get hPl _ k j _ hp h4]; exact hj)
  rw [Addr.add_lit, Nat.zero_add] at this
  exact this
theorem DV.take {W : World} {O : Nat → Prop} {p : Option Addr} {c : Nat} {ds : List Df} (h : DV W O (.slice p ds.length c) ds) (k : Nat) (hk : k ≤ ds.length) : DV W O (.slice p k c) (ds.take k) := by
  obtain ⟨p', c', e, hl, hp⟩ := h
  cases e
  refine ⟨p, c, by rw [List.length_take, Nat.min_eq_left hk], by rw [List.length_take]; omega, fun i d hi => ?_⟩
  rw [List.getElem?_take] at hi
  split at hi
  · exact hp i d hi
  · cases hi
/-- The places of the first definitions too. -/
structure FJ (W w : World) (O : Nat → Prop) (dv bkv v u : Value) (ds : List Df) (m : Nat) : Prop where
  i : FI W w O dv bkv v ds
  row : w.ownsRow (W.heap.size + 1) 40 4 u m (S.en plc (pls ds m))
theorem FJ.next {W w w' : World} {O : Nat → Prop} {dv bkv v u : Value} {ds : List Df} {m : Nat} (h : FJ W w O dv bkv v u ds m) (k : Below w.heap.size w w') : FJ W w' O dv bkv v u ds m := ⟨h.i.next k, S.own_kept h.row fun g _ hg => k.block g hg⟩
theorem FJ.cells {W w : World} {O : Nat → Prop} {dv bkv v : Value} {g cap m : Nat} {ds : List Df} (h : FJ W w O dv bkv v (.slice (some ⟨g, 0, none⟩) m cap) ds m) (hm : m ≤ ds.length) (k : Nat) (hk : k < m) (d : Df) (hd : ds[k]? = some d) (j : Nat) (u : Value) (hj : (plc (bt d (rms ds k) (rms ds (k + 1))))[j]? = some u) : w.cell? ⟨g, k * 4 + j, none⟩ = some u := by
  have hp := pls_get ds m k d hk hd hm
  have h4 : j < 4 := (List.getElem?_eq_some_iff.1 hj).1
  have := World.ownsRow.cells h.row (g := g) rfl (k * 4 + j) u (by rw [S.en_get hPl _ k j _ hp h4]; exact hj)
  rw [Addr.add_lit, Nat.zero_add] at this
  exact this
theorem follows_walk (ds : List Df) (dv bkv : Value) (hbk : ∃ p l c, bkv = .slice p l c) (n : Int) (O : Nat → Prop) (W : World) (hO : ∀ i, O i → i < W.heap.size) (hD : DV W O dv ds) (hcap : ∃ p c, dv = .slice p ds.length c ∧ ds.length ≤ c) (M : Mild ds) :
    Calls Try.prog 4 #[.agg #[dv, bkv], .int .i64 n] W fun e w' => e = .returned (.bool true) ∧ Below W.heap.size W w' := by
  obtain ⟨bp, bl, bc, rfl⟩ := hbk
  obtain ⟨q, c2, rfl, hl, hp⟩ := id hD
  obtain ⟨q', c2', eq', hcap⟩ := hcap
  cases eq'
  obtain ⟨W1, hW1⟩ : ∃ W1, W1 = W.alloc (.cells #[.slice q ds.length c2, .slice bp bl bc] 32) := ⟨_, rfl⟩
  have b1 : Below W.heap.size W W1 := by rw [hW1]; exact (Below.refl _ W).alloc (Nat.le_refl _) _
  have s1 : W1.heap.size = W.heap.size + 1 := by rw [hW1]; simp
  have x1 : W1.heap[W.heap.size]? = some (.cells #[.slice q ds.length c2, .slice bp bl bc] 32 (0, 0)) := by rw [hW1]; exact heap_alloc_new W _
  have hD1 := hD.below b1 hO
  have hof := of_any ds _ (.slice bp bl bc) ⟨_, _, _, rfl⟩ O W1 (fun i hi => Nat.lt_of_lt_of_le (hO i hi) b1.size) hD1
  have HW := hid hW1
  have HB := hid (And.intro b1 (And.intro x1 (And.intro hD1 hO)))
  have HM := hid M
  clear hD hO hp b1 x1 hD1 hW1 M
  go_enter Try.func4, Try.ntmps4
  go_wp2_with fail
  rw [← HW.out]
  refine hof.mono ?_
  rintro e w1 ⟨hR, hb⟩
  rcases hR with ⟨v, hf, rfl, ho⟩ | ⟨k, d, hk, hf, hp, rfl⟩
  case inr =>
    have hz : (ps (rms ds (k + 1)) != 0) = true := by simpa using hp
    have HBB := hid (HB.out.1.trans (hb.mono HB.out.1.size))
    generalize ps (rms ds (k + 1)) = pe at *
    clear hof hb hf hp HW
    go_wp2_with fail
    refine (fixed_any _).mono ?_
    rintro e w2 ⟨rfl, k2⟩
    have hb2 : Below w1.heap.size w1 w2 := (((Below.refl _ w1).alloc (Nat.le_refl _) _).trans (k2.mono (by simp)))
    have HB2 := hid (HBB.out.trans (hb2.mono HBB.out.size))
    clear k2 hb2
    go_wp2_with fail
    refine (fixed_any _).mono ?_
    rintro e w3 ⟨rfl, k3⟩
    have HB3 := hid (HB2.out.trans (k3.mono HB2.out.size))
    clear k3
    go_wp2
    go_ret
    exact ⟨rfl, HB3.out⟩
  case inl =>
    have hv : ∃ p c, v = .slice p ds.length c := by
      rcases ho.2 with ⟨rfl, e⟩ | ⟨g, cap, cur, rfl, _⟩
      · exact ⟨none, 0, by rw [e]⟩
      · exact ⟨_, _, rfl⟩
    obtain ⟨vp, vc, rfl⟩ := hv
    have hI : FI W w1 O (.slice q ds.length c2) (.slice bp bl bc) (.slice vp ds.length vc) ds := ⟨HB.out.1.trans (hb.mono HB.out.1.size), (hb.block _ (S.lt_of HB.out.2.1)).trans HB.out.2.1, by rw [← s1]; exact ho, HB.out.2.2.1.below hb (fun i hi => Nat.lt_of_lt_of_le (HB.out.2.2.2 i hi) HB.out.1.size), HB.out.2.2.2⟩
    have HF := hid hf
    have HI := hid hI
    generalize hzc : (rms ds ds.length).2.1 = zc at *
    generalize hzr : (rms ds ds.length).2.2 = zr at *
    have HZ := hid (And.intro hzc hzr)
    clear hof hb hf hI ho HW hzc hzr
    go_wp2_with fail
    refine (fixed_any _).mono ?_
    rintro e w2 ⟨rfl, k2⟩
    have hb2 : Below w1.heap.size w1 w2 := (((Below.refl _ w1).alloc (Nat.le_refl _) _).trans (k2.mono (by simp)))
    have HI := hid (HI.out.next hb2)
    clear k2 hb2
    go_wp2
    go_loopw [10, 11, 12] (fun at_ by_ i wr => ∃ k : Nat, k ≤ ds.length ∧ i = .int .i64 (k : Int) ∧ at_ = .int .i64 (rms ds k).2.1 ∧ by_ = .int .i64 (rms ds k).2.2 ∧ FI W wr O (.slice q ds.length c2) (.slice bp bl bc) (.slice vp ds.length vc) ds) (fun _ _ i _ => ds.length - (intOf i).toNat)
    case atStart => exact ⟨0, by omega, rfl, rfl, rfl, HI.out⟩
    case round =>
      obtain ⟨k, hk, rfl, rfl, rfl, hI⟩ := hrel
      by_cases hlt : k < ds.length
      · have i1 : (k : Int) < ds.length := by omega
        have ea := List.getElem?_eq_getElem hlt
        generalize ds[k] = d at *
        obtain ⟨p2, c3, e2, _, hp⟩ := hI.d
        cases e2
        obtain ⟨b, o, rfl, hOb, bv, hc, hn⟩ := hp k d ea
        obtain ⟨q1, d1, rfl, _, _⟩ := hn.ex
        obtain ⟨g0, g1, g2, g3, g4, g5⟩ := cells6 hc
        obtain ⟨g, cap, eg⟩ := S.own_pos hI.row (by omega)
        cases eg
        obtain ⟨hpl, hA1, hR1⟩ := mild_place ds HM.out HF.out k d ea
        obtain ⟨hk1, hA0, _, hR0, _⟩ := mild_at ds HM.out k (by omega)
        obtain ⟨hs1, hs2⟩ := mild_succ ds HM.out k d ea
        have hvv := HM.out.v k d ea
        have hcc := HM.out.c k d ea
        have hcn := cl_nn d.body
        have c0 := hI.cells k d ea 0 _ rfl
        have c1 := hI.cells k d ea 1 _ rfl
        have c2 := hI.cells k d ea 2 _ rfl
        have c3' := hI.cells k d ea 3 _ rfl
        rw [hpl] at c0 c1 c2 c3'
        simp only [Nat.add_zero] at c0
        have y0 := S.cell_of wr W.heap.size 0 [_, _] 32 _ hI.box rfl
        have lB := S.lt_of hI.box
        have lg : g < wr.heap.size := World.block_lt_of_cell? wr _ c0
        obtain ⟨A1, hA1'⟩ : ∃ A1, A1 = wr.alloc (.cells #[.int .i64 d.k, .string d.nm, .int .u16 d.v, .slice q1 d.body.length d1, .int .i64 d.p.1, .int .i64 d.p.2] 36) := ⟨_, rfl⟩
        have zA : Below wr.heap.size wr A1 := by rw [hA1']; exact (Below.refl _ wr).alloc (Nat.le_refl _) _
        have vX : A1.heap[wr.heap.size]? = some (.cells (dfc d (.slice q1 d.body.length d1)).toArray 36 (0, 0)) := by rw [hA1']; exact heap_alloc_new wr _
        have HI1 := hid (hI.next zA)
        have HX := hid vX
        have HN := hid (hn.below zA fun i hi => Nat.lt_of_lt_of_le (hI.o i hi) hI.bel.size)
        have HA := hid hA1'
        have HE := hid ea
        have ko : ∀ i, O i → i < A1.heap.size := fun i hi => Nat.lt_of_lt_of_le (Nat.lt_of_lt_of_le (hI.o i hi) hI.bel.size) zA.size
        have HKO := hid ko
        generalize hA : (rms ds k).2.1 = A at *
        generalize hR : (rms ds k).2.2 = R at *
        generalize hA2 : (rms ds (k + 1)).2.1 = A2 at *
        generalize hR2 : (rms ds (k + 1)).2.2 = R2 at *
        have HS := hid (And.intro hs1 (And.intro hs2 (And.intro hpl (And.intro hA (And.intro hR (And.intro hA2 hR2))))))
        clear zA vX hn ko hs1 hs2 hpl hA hR hA2 hR2 hp hc hA1' ea hk1
        have hw1 : IntKind.i64.wrap A = A := by rw [IntWalk.i64_left, w_in _ (by omega)]
        have tm : A.tmod 65536 = A := Int.tmod_eq_of_lt (by omega) (by omega)
        obtain ⟨C, hC⟩ : ∃ C : Int, C = cl d.body := ⟨_, rfl⟩
        rw [← hC] at hcc hcn
        have HC := hid hC
        clear hC
        by_cases hk1 : d.k = 1
        · skip
          have hdb : db d = 2 * C + 4 := by unfold db; rw [if_pos hk1, ← HC.out]; omega
          have hdr : dr d = 0 := by unfold dr; rw [if_neg (by omega)]
          have hk3 : ¬ d.k = 3 := by omega
          rw [if_neg hk3] at c3'
          obtain ⟨D, hDd⟩ : ∃ D : Int, D = db d := ⟨_, rfl⟩
          have hDb := db_le d (by rw [← HC.out]; exact hcc)
          rw [← hDd] at c2 hDb
          have hD2 : A2 = A + D := by rw [hDd]; exact HS.out.1
          have hR3 : R2 = R + 0 := by rw [← hdr]; exact HS.out.2.1
          have mk : ∀ w', Below A1.heap.size A1 w' → (w'.cell? ⟨g, k * 4 + 1, none⟩ = some (.int .u16 A) ∧ w'.cell? ⟨g, k * 4, none⟩ = some (.string d.nm) ∧ w'.cell? ⟨g, k * 4 + 2, none⟩ = some (.int .i64 D) ∧ w'.cell? ⟨wr.heap.size, 0, none⟩ = some (.int .i64 1) ∧ w'.cell? ⟨wr.heap.size, 1, none⟩ = some (.string d.nm) ∧ w'.cell? ⟨wr.heap.size, 3, none⟩ = some (.slice q1 d.body.length d1)) ∧ w'.cell? ⟨g, k * 4 + 3, none⟩ = some (.int .u16 0) ∧ w'.cell? ⟨wr.heap.size, 2, none⟩ = some (.int .u16 d.v) := fun w' hb => by
            have zz : Below wr.heap.size wr w' := (show Below wr.heap.size wr A1 by rw [HA.out]; exact (Below.refl _ wr).alloc (Nat.le_refl _) _).trans (hb.mono (by rw [HA.out]; simp))
            have kc : ∀ (j : Nat) (u : Value), wr.cell? ⟨g, j, none⟩ = some u → w'.cell? ⟨g, j, none⟩ = some u := fun j u h => by rw [zz.cell lg]; exact h
            have vx := (hb.block _ (S.lt_of HX.out)).trans HX.out
            exact ⟨⟨kc _ _ c1, kc _ _ c0, kc _ _ c2, by have := S.cell_of w' wr.heap.size 0 _ 36 _ vx rfl; rw [hk1] at this; exact this, S.cell_of w' wr.heap.size 1 _ 36 _ vx rfl, S.cell_of w' wr.heap.size 3 _ 36 _ vx rfl⟩, kc _ _ c3', S.cell_of w' wr.heap.size 2 _ 36 _ vx rfl⟩
          have s0 := (mk A1.drew (Below.refl _ A1).drew).1
          have B0 := hid (Below.refl A1.heap.size A1).drew
          have HMK := hid mk
          have HDD := hid (And.intro hD2 hR3)
          have hdd : D = 2 * C + 4 := hDd.trans hdb
          subst hdd
          have hsz : Calls Try.prog 9 #[.slice q1 d.body.length d1] A1.drew fun e w2 => e = .returned (.int .i64 (2 * C)) ∧ Below A1.heap.size A1 w2 := by
            have := size_any d.body _ O A1.drew HKO.out (HN.out.kept (fun i hi => rfl) fun _ h => h)
            rw [← HC.out, w_in _ (by omega)] at this
            exact this.mono fun e w2 h => ⟨h.1, (Below.refl _ A1).drew.trans h.2⟩
          have hw2 : IntKind.i64.wrap (2 * C + 4) = 2 * C + 4 := by rw [IntWalk.i64_left, w_in _ (by omega)]
          clear mk hDd hdr hD2 hR3 hk1 hk3
          go_wp2_with fail
          rw [← HA.out]
          go_region_held (fun w' => w'.cell? ⟨g, k * 4 + 1, none⟩ = some (.int .u16 A) ∧ w'.cell? ⟨g, k * 4, none⟩ = some (.string d.nm) ∧ w'.cell? ⟨g, k * 4 + 2, none⟩ = some (.int .i64 (2 * C + 4)) ∧ w'.cell? ⟨wr.heap.size, 0, none⟩ = some (.int .i64 1) ∧ w'.cell? ⟨wr.heap.size, 1, none⟩ = some (.string d.nm) ∧ w'.cell? ⟨wr.heap.size, 3, none⟩ = some (.slice q1 d.body.length d1))
            (first | (with_reducible exact s0) | (with_reducible exact s1))
            (first | (go_at_call 9; refine hsz.mono ?_; rintro e w3 ⟨rfl, hb3⟩; have s1 := (HMK.out w3 hb3).1; have B1 := hid hb3; clear hb3))
          all_goals
            try simp only [Act.put, List.setIfInBounds_toArray, List.set_cons_zero, List.set_cons_succ]
            clear hsz B0 s0 s1
            obtain ⟨⟨_, _, m2, m0, _, _⟩, m3, mv⟩ := HMK.out w3 B1.out
            clear c0 c1 c2 c3' g0 g1 g2 g3 g4 g5 y0
            go_wp2
            have ra : (rms ds (k + 1)).2.1 = A + (2 * C + 4) := HS.out.2.2.2.2.2.1.trans HDD.out.1
            have rr : (rms ds (k + 1)).2.2 = R + 0 := HS.out.2.2.2.2.2.2.trans HDD.out.2
            refine ⟨⟨k + 1, by omega, by first | rfl | go_num, by rw [ra], by rw [rr] <;> simp, HI1.out.next B1.out⟩, ?_⟩
            simp [intOf]
            omega
        · by_cases hk3 : d.k = 3
          · skip
            have hdr : dr d = d.v := by unfold dr; rw [if_pos hk3]
            rw [if_pos hk3] at c3'
            obtain ⟨D, hDd⟩ : ∃ D : Int, D = db d := ⟨_, rfl⟩
            have hDb := db_le d (by rw [← HC.out]; exact hcc)
            rw [← hDd] at c2 hDb
            have hD2 : A2 = A + D := by rw [hDd]; exact HS.out.1
            have hR3 : R2 = R + d.v := by rw [← hdr]; exact HS.out.2.1
            have mk : ∀ w', Below A1.heap.size A1 w' → (w'.cell? ⟨g, k * 4 + 1, none⟩ = some (.int .u16 A) ∧ w'.cell? ⟨g, k * 4, none⟩ = some (.string d.nm) ∧ w'.cell? ⟨g, k * 4 + 2, none⟩ = some (.int .i64 D) ∧ w'.cell? ⟨wr.heap.size, 0, none⟩ = some (.int .i64 3) ∧ w'.cell? ⟨wr.heap.size, 1, none⟩ = some (.string d.nm) ∧ w'.cell? ⟨wr.heap.size, 3, none⟩ = some (.slice q1 d.body.length d1)) ∧ w'.cell? ⟨g, k * 4 + 3, none⟩ = some (.int .u16 (32768 + R)) ∧ w'.cell? ⟨wr.heap.size, 2, none⟩ = some (.int .u16 d.v) := fun w' hb => by
              have zz : Below wr.heap.size wr w' := (show Below wr.heap.size wr A1 by rw [HA.out]; exact (Below.refl _ wr).alloc (Nat.le_refl _) _).trans (hb.mono (by rw [HA.out]; simp))
              have kc : ∀ (j : Nat) (u : Value), wr.cell? ⟨g, j, none⟩ = some u → w'.cell? ⟨g, j, none⟩ = some u := fun j u h => by rw [zz.cell lg]; exact h
              have vx := (hb.block _ (S.lt_of HX.out)).trans HX.out
              exact ⟨⟨kc _ _ c1, kc _ _ c0, kc _ _ c2, by have := S.cell_of w' wr.heap.size 0 _ 36 _ vx rfl; rw [hk3] at this; exact this, S.cell_of w' wr.heap.size 1 _ 36 _ vx rfl, S.cell_of w' wr.heap.size 3 _ 36 _ vx rfl⟩, kc _ _ c3', S.cell_of w' wr.heap.size 2 _ 36 _ vx rfl⟩
            have s0 := (mk A1.drew (Below.refl _ A1).drew).1
            have B0 := hid (Below.refl A1.heap.size A1).drew
            have HMK := hid mk
            have HDD := hid (And.intro hD2 hR3)
            clear mk hDd hdr hD2 hR3 hk1 hk3
            go_wp2_with fail
            rw [← HA.out]
            refine wp_region_held_drew (S := fun w' => w'.cell? ⟨g, k * 4 + 1, none⟩ = some (.int .u16 A) ∧ w'.cell? ⟨g, k * 4, none⟩ = some (.string d.nm) ∧ w'.cell? ⟨g, k * 4 + 2, none⟩ = some (.int .i64 D) ∧ w'.cell? ⟨wr.heap.size, 0, none⟩ = some (.int .i64 3) ∧ w'.cell? ⟨wr.heap.size, 1, none⟩ = some (.string d.nm) ∧ w'.cell? ⟨wr.heap.size, 3, none⟩ = some (.slice q1 d.body.length d1)) (by kernel_rfl) s0 (fun hHeld => ?_)
            refine wpAnyH_take (i := 0) (v := ?_) rfl (by kernel_rfl) (by kernel_rfl) (by kernel_rfl) (fun c a w h => h) (Or.inl ⟨by rfl, ?_⟩) hHeld ?_
            rotate_left
            · (intro w hSw; (try dsimp only at hSw); go_simp; try with_reducible rfl)
            simp only [Act.put, List.getElem_toArray, List.getElem_cons_zero, List.getElem_cons_succ, List.setIfInBounds_toArray, List.set_cons_zero, List.set_cons_succ]
            refine wpAnyH_take (i := 1) (v := ?_) rfl (by kernel_rfl) (by kernel_rfl) (by kernel_rfl) (fun c a w h => h) (Or.inl ⟨by rfl, ?_⟩) hHeld ?_
            rotate_left
            · (intro w hSw; (try dsimp only at hSw); go_simp; try with_reducible rfl)
            simp only [Act.put, List.getElem_toArray, List.getElem_cons_zero, List.getElem_cons_succ, List.setIfInBounds_toArray, List.set_cons_zero, List.set_cons_succ]
            refine wpAnyH_take (i := 2) (v := ?_) rfl (by kernel_rfl) (by kernel_rfl) (by kernel_rfl) (fun c a w h => h) (Or.inl ⟨by rfl, ?_⟩) hHeld ?_
            rotate_left
            · (intro w hSw; (try dsimp only at hSw); go_simp; try with_reducible rfl)
            simp only [Act.put, List.getElem_toArray, List.getElem_cons_zero, List.getElem_cons_succ, List.setIfInBounds_toArray, List.set_cons_zero, List.set_cons_succ]
            refine wpAnyH_take (i := 3) (v := ?_) rfl (by kernel_rfl) (by kernel_rfl) (by kernel_rfl) (fun c a w h => h) (Or.inl ⟨by rfl, ?_⟩) hHeld ?_
            rotate_left
            · (intro w hSw; (try dsimp only at hSw); go_simp; try with_reducible rfl)
            simp only [Act.put, List.getElem_toArray, List.getElem_cons_zero, List.getElem_cons_succ, List.setIfInBounds_toArray, List.set_cons_zero, List.set_cons_succ]
            refine wpAnyH_take (i := 4) (v := ?_) rfl (by kernel_rfl) (by kernel_rfl) (by kernel_rfl) (fun c a w h => h) (Or.inl ⟨by rfl, ?_⟩) hHeld ?_
            rotate_left
            · (intro w hSw; (try dsimp only at hSw); go_simp; try with_reducible rfl)
            simp only [Act.put, List.getElem_toArray, List.getElem_cons_zero, List.getElem_cons_succ, List.setIfInBounds_toArray, List.set_cons_zero, List.set_cons_succ]
            refine wpAnyH_take (i := 5) (v := ?_) rfl (by kernel_rfl) (by kernel_rfl) (by kernel_rfl) (fun c a w h => h) (Or.inl ⟨by rfl, ?_⟩) hHeld ?_
            rotate_left
            · (intro w hSw; (try dsimp only at hSw); go_simp; try with_reducible rfl)
            simp only [Act.put, List.getElem_toArray, List.getElem_cons_zero, List.getElem_cons_succ, List.setIfInBounds_toArray, List.set_cons_zero, List.set_cons_succ]
            refine wpAnyH_take (i := 6) (v := ?_) rfl (by kernel_rfl) (by kernel_rfl) (by kernel_rfl) (fun c a w h => h) (Or.inl ⟨by rfl, ?_⟩) hHeld ?_
            rotate_left
            · (intro w hSw; (try dsimp only at hSw); go_simp; try with_reducible rfl)
            simp only [Act.put, List.getElem_toArray, List.getElem_cons_zero, List.getElem_cons_succ, List.setIfInBounds_toArray, List.set_cons_zero, List.set_cons_succ]
            refine wpAnyH_take (i := 7) (v := ?_) rfl (by kernel_rfl) (by kernel_rfl) (by kernel_rfl) (fun c a w h => h) (Or.inl ⟨by rfl, ?_⟩) hHeld ?_
            rotate_left
            · (intro w hSw; (try dsimp only at hSw); go_simp; try with_reducible rfl)
            simp only [Act.put, List.getElem_toArray, List.getElem_cons_zero, List.getElem_cons_succ, List.setIfInBounds_toArray, List.set_cons_zero, List.set_cons_succ]
            refine wpAnyH_take (i := 8) (v := ?_) rfl (by kernel_rfl) (by kernel_rfl) (by kernel_rfl) (fun c a w h => h) (Or.inl ⟨by rfl, ?_⟩) hHeld ?_
            rotate_left
            · (intro w hSw; (try dsimp only at hSw); go_simp; try with_reducible rfl)
            simp only [Act.put, List.getElem_toArray, List.getElem_cons_zero, List.getElem_cons_succ, List.setIfInBounds_toArray, List.set_cons_zero, List.set_cons_succ]
            refine wpAnyH_take (i := 9) (v := ?_) rfl (by kernel_rfl) (by kernel_rfl) (by kernel_rfl) (fun c a w h => h) (Or.inl ⟨by rfl, ?_⟩) hHeld ?_
            rotate_left
            · (intro w hSw; (try dsimp only at hSw); go_simp; try with_reducible rfl)
            simp only [Act.put, List.getElem_toArray, List.getElem_cons_zero, List.getElem_cons_succ, List.setIfInBounds_toArray, List.set_cons_zero, List.set_cons_succ]
            refine wpAnyH_take (i := 10) (v := ?_) rfl (by kernel_rfl) (by kernel_rfl) (by kernel_rfl) (fun c a w h => h) (Or.inl ⟨by rfl, ?_⟩) hHeld ?_
            rotate_left
            · (intro w hSw; (try dsimp only at hSw); go_simp; try with_reducible rfl)
            simp only [Act.put, List.getElem_toArray, List.getElem_cons_zero, List.getElem_cons_succ, List.setIfInBounds_toArray, List.set_cons_zero, List.set_cons_succ]
            refine wpAnyH_take (i := 11) (v := ?_) rfl (by kernel_rfl) (by kernel_rfl) (by kernel_rfl) (fun c a w h => h) (Or.inl ⟨by rfl, ?_⟩) hHeld ?_
            rotate_left
            · (intro w hSw; (try dsimp only at hSw); go_simp; try with_reducible rfl)
            simp only [Act.put, List.getElem_toArray, List.getElem_cons_zero, List.getElem_cons_succ, List.setIfInBounds_toArray, List.set_cons_zero, List.set_cons_succ]
            refine wpAnyH_take (i := 12) (v := ?_) rfl (by kernel_rfl) (by kernel_rfl) (by kernel_rfl) (fun c a w h => h) (Or.inl ⟨by rfl, ?_⟩) hHeld ?_
            rotate_left
            · (intro w hSw; (try dsimp only at hSw); go_simp; try with_reducible rfl)
            simp only [Act.put, List.getElem_toArray, List.getElem_cons_zero, List.getElem_cons_succ, List.setIfInBounds_toArray, List.set_cons_zero, List.set_cons_succ]
            refine wpAnyH_take (i := 13) (v := ?_) rfl (by kernel_rfl) (by kernel_rfl) (by kernel_rfl) (fun c a w h => h) (Or.inl ⟨by rfl, ?_⟩) hHeld ?_
            rotate_left
            · (intro w hSw; (try dsimp only at hSw); go_simp; try with_reducible rfl)
            simp only [Act.put, List.getElem_toArray, List.getElem_cons_zero, List.getElem_cons_succ, List.setIfInBounds_toArray, List.set_cons_zero, List.set_cons_succ]
            refine wpAnyH_take (i := 14) (v := ?_) rfl (by kernel_rfl) (by kernel_rfl) (by kernel_rfl) (fun c a w h => h) (Or.inl ⟨by rfl, ?_⟩) hHeld ?_
            rotate_left
            · (intro w hSw; (try dsimp only at hSw); go_simp; try with_reducible rfl)
            simp only [Act.put, List.getElem_toArray, List.getElem_cons_zero, List.getElem_cons_succ, List.setIfInBounds_toArray, List.set_cons_zero, List.set_cons_succ]
            refine wpAnyH_take (i := 15) (v := ?_) rfl (by kernel_rfl) (by kernel_rfl) (by kernel_rfl) (fun c a w h => h) (Or.inl ⟨by rfl, ?_⟩) hHeld ?_
            rotate_left
            · (intro w hSw; (try dsimp only at hSw); go_simp; try with_reducible rfl)
            simp only [Act.put, List.getElem_toArray, List.getElem_cons_zero, List.getElem_cons_succ, List.setIfInBounds_toArray, List.set_cons_zero, List.set_cons_succ]
            refine wpAnyH_take (i := 16) (v := ?_) rfl (by kernel_rfl) (by kernel_rfl) (by kernel_rfl) (fun c a w h => h) (Or.inl ⟨by rfl, ?_⟩) hHeld ?_
            rotate_left
            · (intro w hSw; (try dsimp only at hSw); go_simp; try with_reducible rfl)
            simp only [Act.put, List.getElem_toArray, List.getElem_cons_zero, List.getElem_cons_succ, List.setIfInBounds_toArray, List.set_cons_zero, List.set_cons_succ]
            refine wpAnyH_take (i := 17) (v := ?_) rfl (by kernel_rfl) (by kernel_rfl) (by kernel_rfl) (fun c a w h => h) (Or.inl ⟨by rfl, ?_⟩) hHeld ?_
            rotate_left
            · (intro w hSw; (try dsimp only at hSw); go_simp; try with_reducible rfl)
            simp only [Act.put, List.getElem_toArray, List.getElem_cons_zero, List.getElem_cons_succ, List.setIfInBounds_toArray, List.set_cons_zero, List.set_cons_succ]
            refine wpAnyH_take (i := 18) (v := ?_) rfl (by kernel_rfl) (by kernel_rfl) (by kernel_rfl) (fun c a w h => h) (Or.inl ⟨by rfl, ?_⟩) hHeld ?_
            rotate_left
            · (intro w hSw; (try dsimp only at hSw); go_simp; try with_reducible rfl)
            simp only [Act.put, List.getElem_toArray, List.getElem_cons_zero, List.getElem_cons_succ, List.setIfInBounds_toArray, List.set_cons_zero, List.set_cons_succ]
            refine wpAnyH_take (i := 19) (v := ?_) rfl (by kernel_rfl) (by kernel_rfl) (by kernel_rfl) (fun c a w h => h) (Or.inl ⟨by rfl, ?_⟩) hHeld ?_
            rotate_left
            · (intro w hSw; (try dsimp only at hSw); go_simp; try with_reducible rfl)
            simp only [Act.put, List.getElem_toArray, List.getElem_cons_zero, List.getElem_cons_succ, List.setIfInBounds_toArray, List.set_cons_zero, List.set_cons_succ]
            refine wpAnyH_take (i := 20) (v := ?_) rfl (by kernel_rfl) (by kernel_rfl) (by kernel_rfl) (fun c a w h => h) (Or.inl ⟨by rfl, ?_⟩) hHeld ?_
            rotate_left
            · (intro w hSw; (try dsimp only at hSw); go_simp; try with_reducible rfl)
            simp only [Act.put, List.getElem_toArray, List.getElem_cons_zero, List.getElem_cons_succ, List.setIfInBounds_toArray, List.set_cons_zero, List.set_cons_succ]
            refine wpAnyH_take (i := 21) (v := ?_) rfl (by kernel_rfl) (by kernel_rfl) (by kernel_rfl) (fun c a w h => h) (Or.inl ⟨by rfl, ?_⟩) hHeld ?_
            rotate_left
            · (intro w hSw; (try dsimp only at hSw); go_simp; try with_reducible rfl)
            simp only [Act.put, List.getElem_toArray, List.getElem_cons_zero, List.getElem_cons_succ, List.setIfInBounds_toArray, List.set_cons_zero, List.set_cons_succ]
            refine wpAnyH_take (i := 22) (v := ?_) rfl (by kernel_rfl) (by kernel_rfl) (by kernel_rfl) (fun c a w h => h) (Or.inl ⟨by rfl, ?_⟩) hHeld ?_
            rotate_left
            · (intro w hSw; (try dsimp only at hSw); go_simp; try with_reducible rfl)
            simp only [Act.put, List.getElem_toArray, List.getElem_cons_zero, List.getElem_cons_succ, List.setIfInBounds_toArray, List.set_cons_zero, List.set_cons_succ]
            refine wpAnyH_take (i := 23) (v := ?_) rfl (by kernel_rfl) (by kernel_rfl) (by kernel_rfl) (fun c a w h => h) (Or.inl ⟨by rfl, ?_⟩) hHeld ?_
            rotate_left
            · (intro w hSw; (try dsimp only at hSw); go_simp; try with_reducible rfl)
            simp only [Act.put, List.getElem_toArray, List.getElem_cons_zero, List.getElem_cons_succ, List.setIfInBounds_toArray, List.set_cons_zero, List.set_cons_succ]
            refine wpAnyH_take (i := 24) (v := undef) rfl (by kernel_rfl) (by kernel_rfl) (by kernel_rfl) (fun c a w h => h) (Or.inr ⟨by rfl, rfl⟩) hHeld ?_
            simp only [Act.put, List.getElem_toArray, List.getElem_cons_zero, List.getElem_cons_succ, List.setIfInBounds_toArray, List.set_cons_zero, List.set_cons_succ]
            refine wpAnyH_take (i := 25) (v := undef) rfl (by kernel_rfl) (by kernel_rfl) (by kernel_rfl) (fun c a w h => h) (Or.inr ⟨by rfl, rfl⟩) hHeld ?_
            simp only [Act.put, List.getElem_toArray, List.getElem_cons_zero, List.getElem_cons_succ, List.setIfInBounds_toArray, List.set_cons_zero, List.set_cons_succ]
            refine wpAnyH_take (i := 26) (v := undef) rfl (by kernel_rfl) (by kernel_rfl) (by kernel_rfl) (fun c a w h => h) (Or.inr ⟨by rfl, rfl⟩) hHeld ?_
            simp only [Act.put, List.getElem_toArray, List.getElem_cons_zero, List.getElem_cons_succ, List.setIfInBounds_toArray, List.set_cons_zero, List.set_cons_succ]
            refine wpAnyH_take (i := 27) (v := undef) rfl (by kernel_rfl) (by kernel_rfl) (by kernel_rfl) (fun c a w h => h) (Or.inr ⟨by rfl, rfl⟩) hHeld ?_
            simp only [Act.put, List.getElem_toArray, List.getElem_cons_zero, List.getElem_cons_succ, List.setIfInBounds_toArray, List.set_cons_zero, List.set_cons_succ]
            refine wpAnyH_take (i := 28) (v := undef) rfl (by kernel_rfl) (by kernel_rfl) (by kernel_rfl) (fun c a w h => h) (Or.inr ⟨by rfl, rfl⟩) hHeld ?_
            simp only [Act.put, List.getElem_toArray, List.getElem_cons_zero, List.getElem_cons_succ, List.setIfInBounds_toArray, List.set_cons_zero, List.set_cons_succ]
            refine wpAnyH_take (i := 29) (v := undef) rfl (by kernel_rfl) (by kernel_rfl) (by kernel_rfl) (fun c a w h => h) (Or.inr ⟨by rfl, rfl⟩) hHeld ?_
            simp only [Act.put, List.getElem_toArray, List.getElem_cons_zero, List.getElem_cons_succ, List.setIfInBounds_toArray, List.set_cons_zero, List.set_cons_succ]
            refine wpAnyH_take (i := 30) (v := undef) rfl (by kernel_rfl) (by kernel_rfl) (by kernel_rfl) (fun c a w h => h) (Or.inr ⟨by rfl, rfl⟩) hHeld ?_
            simp only [Act.put, List.getElem_toArray, List.getElem_cons_zero, List.getElem_cons_succ, List.setIfInBounds_toArray, List.set_cons_zero, List.set_cons_succ]
            refine wpAnyH_take (i := 31) (v := undef) rfl (by kernel_rfl) (by kernel_rfl) (by kernel_rfl) (fun c a w h => h) (Or.inr ⟨by rfl, rfl⟩) hHeld ?_
            simp only [Act.put, List.getElem_toArray, List.getElem_cons_zero, List.getElem_cons_succ, List.setIfInBounds_toArray, List.set_cons_zero, List.set_cons_succ]
            refine wpAnyH_take (i := 32) (v := undef) rfl (by kernel_rfl) (by kernel_rfl) (by kernel_rfl) (fun c a w h => h) (Or.inr ⟨by rfl, rfl⟩) hHeld ?_
            simp only [Act.put, List.getElem_toArray, List.getElem_cons_zero, List.getElem_cons_succ, List.setIfInBounds_toArray, List.set_cons_zero, List.set_cons_succ]
            refine wpAnyH_take (i := 33) (v := undef) rfl (by kernel_rfl) (by kernel_rfl) (by kernel_rfl) (fun c a w h => h) (Or.inr ⟨by rfl, rfl⟩) hHeld ?_
            simp only [Act.put, List.getElem_toArray, List.getElem_cons_zero, List.getElem_cons_succ, List.setIfInBounds_toArray, List.set_cons_zero, List.set_cons_succ]
            refine wpAnyH_take (i := 34) (v := ?_) rfl (by kernel_rfl) (by kernel_rfl) (by kernel_rfl) (fun c a w h => h) (Or.inl ⟨by rfl, ?_⟩) hHeld ?_
            rotate_left
            · (intro w hSw; (try dsimp only at hSw); go_simp; try with_reducible rfl)
            simp only [Act.put, List.getElem_toArray, List.getElem_cons_zero, List.getElem_cons_succ, List.setIfInBounds_toArray, List.set_cons_zero, List.set_cons_succ]
            refine wpAnyH_take (i := 35) (v := ?_) rfl (by kernel_rfl) (by kernel_rfl) (by kernel_rfl) (fun c a w h => h) (Or.inl ⟨by rfl, ?_⟩) hHeld ?_
            rotate_left
            · (intro w hSw; (try dsimp only at hSw); go_simp; try with_reducible rfl)
            simp only [Act.put, List.getElem_toArray, List.getElem_cons_zero, List.getElem_cons_succ, List.setIfInBounds_toArray, List.set_cons_zero, List.set_cons_succ]
            refine wpAnyH_done (by kernel_rfl) ?_ _
            clear hHeld
            all_goals
              try simp only [Act.put, List.setIfInBounds_toArray, List.set_cons_zero, List.set_cons_succ]
              have B1 := B0
              clear B0 s0
              generalize A1.drew = w3 at B1 ⊢
              obtain ⟨⟨_, _, m2, m0, _, _⟩, m3, mv⟩ := HMK.out w3 B1.out
              clear c0 c1 c2 c3' g0 g1 g2 g3 g4 g5 y0
              go_wp2
              have ra : (rms ds (k + 1)).2.1 = A + D := HS.out.2.2.2.2.2.1.trans HDD.out.1
              have rr : (rms ds (k + 1)).2.2 = R + d.v := HS.out.2.2.2.2.2.2.trans HDD.out.2
              refine ⟨⟨k + 1, by omega, by first | rfl | go_num, by rw [ra], by rw [rr], HI1.out.next B1.out⟩, ?_⟩
              simp [intOf]
              omega
          · skip
            have hdr : dr d = 0 := by unfold dr; rw [if_neg hk3]
            have n1 : (d.k == 1) = false := by rw [Bool.eq_false_iff]; intro c; exact hk1 (by simpa using c)
            have n3 : (d.k == 3) = false := by rw [Bool.eq_false_iff]; intro c; exact hk3 (by simpa using c)
            rw [if_neg hk3] at c3'
            obtain ⟨D, hDd⟩ : ∃ D : Int, D = db d := ⟨_, rfl⟩
            have hDb := db_le d (by rw [← HC.out]; exact hcc)
            rw [← hDd] at c2 hDb
            have hD2 : A2 = A + D := by rw [hDd]; exact HS.out.1
            have hR3 : R2 = R + 0 := by rw [← hdr]; exact HS.out.2.1
            have mk : ∀ w', Below A1.heap.size A1 w' → (w'.cell? ⟨g, k * 4 + 1, none⟩ = some (.int .u16 A) ∧ w'.cell? ⟨g, k * 4, none⟩ = some (.string d.nm) ∧ w'.cell? ⟨g, k * 4 + 2, none⟩ = some (.int .i64 D) ∧ w'.cell? ⟨wr.heap.size, 0, none⟩ = some (.int .i64 d.k) ∧ w'.cell? ⟨wr.heap.size, 1, none⟩ = some (.string d.nm) ∧ w'.cell? ⟨wr.heap.size, 3, none⟩ = some (.slice q1 d.body.length d1)) ∧ w'.cell? ⟨g, k * 4 + 3, none⟩ = some (.int .u16 0) ∧ w'.cell? ⟨wr.heap.size, 2, none⟩ = some (.int .u16 d.v) := fun w' hb => by
              have zz : Below wr.heap.size wr w' := (show Below wr.heap.size wr A1 by rw [HA.out]; exact (Below.refl _ wr).alloc (Nat.le_refl _) _).trans (hb.mono (by rw [HA.out]; simp))
              have kc : ∀ (j : Nat) (u : Value), wr.cell? ⟨g, j, none⟩ = some u → w'.cell? ⟨g, j, none⟩ = some u := fun j u h => by rw [zz.cell lg]; exact h
              have vx := (hb.block _ (S.lt_of HX.out)).trans HX.out
              exact ⟨⟨kc _ _ c1, kc _ _ c0, kc _ _ c2, S.cell_of w' wr.heap.size 0 _ 36 _ vx rfl, S.cell_of w' wr.heap.size 1 _ 36 _ vx rfl, S.cell_of w' wr.heap.size 3 _ 36 _ vx rfl⟩, kc _ _ c3', S.cell_of w' wr.heap.size 2 _ 36 _ vx rfl⟩
            have s0 := (mk A1.drew (Below.refl _ A1).drew).1
            have B0 := hid (Below.refl A1.heap.size A1).drew
            have HMK := hid mk
            have HDD := hid (And.intro hD2 hR3)
            clear mk hDd hdr hD2 hR3 hk1 hk3
            go_wp2_with fail
            rw [← HA.out]
            refine wp_region_held_drew (S := fun w' => w'.cell? ⟨g, k * 4 + 1, none⟩ = some (.int .u16 A) ∧ w'.cell? ⟨g, k * 4, none⟩ = some (.string d.nm) ∧ w'.cell? ⟨g, k * 4 + 2, none⟩ = some (.int .i64 D) ∧ w'.cell? ⟨wr.heap.size, 0, none⟩ = some (.int .i64 d.k) ∧ w'.cell? ⟨wr.heap.size, 1, none⟩ = some (.string d.nm) ∧ w'.cell? ⟨wr.heap.size, 3, none⟩ = some (.slice q1 d.body.length d1)) (by kernel_rfl) s0 (fun hHeld => ?_)
            refine wpAnyH_take (i := 0) (v := ?_) rfl (by kernel_rfl) (by kernel_rfl) (by kernel_rfl) (fun c a w h => h) (Or.inl ⟨by rfl, ?_⟩) hHeld ?_
            rotate_left
            · (intro w hSw; (try dsimp only at hSw); go_simp; try with_reducible rfl)
            simp only [Act.put, List.getElem_toArray, List.getElem_cons_zero, List.getElem_cons_succ, List.setIfInBounds_toArray, List.set_cons_zero, List.set_cons_succ]
            refine wpAnyH_take (i := 1) (v := ?_) rfl (by kernel_rfl) (by kernel_rfl) (by kernel_rfl) (fun c a w h => h) (Or.inl ⟨by rfl, ?_⟩) hHeld ?_
            rotate_left
            · (intro w hSw; (try dsimp only at hSw); go_simp; try with_reducible rfl)
            simp only [Act.put, List.getElem_toArray, List.getElem_cons_zero, List.getElem_cons_succ, List.setIfInBounds_toArray, List.set_cons_zero, List.set_cons_succ]
            refine wpAnyH_take (i := 2) (v := ?_) rfl (by kernel_rfl) (by kernel_rfl) (by kernel_rfl) (fun c a w h => h) (Or.inl ⟨by rfl, ?_⟩) hHeld ?_
            rotate_left
            · (intro w hSw; (try dsimp only at hSw); go_simp; try with_reducible rfl)
            simp only [Act.put, List.getElem_toArray, List.getElem_cons_zero, List.getElem_cons_succ, List.setIfInBounds_toArray, List.set_cons_zero, List.set_cons_succ]
            refine wpAnyH_take (i := 3) (v := ?_) rfl (by kernel_rfl) (by kernel_rfl) (by kernel_rfl) (fun c a w h => h) (Or.inl ⟨by rfl, ?_⟩) hHeld ?_
            rotate_left
            · (intro w hSw; (try dsimp only at hSw); go_simp; try with_reducible rfl)
            simp only [Act.put, List.getElem_toArray, List.getElem_cons_zero, List.getElem_cons_succ, List.setIfInBounds_toArray, List.set_cons_zero, List.set_cons_succ]
            refine wpAnyH_take (i := 4) (v := ?_) rfl (by kernel_rfl) (by kernel_rfl) (by kernel_rfl) (fun c a w h => h) (Or.inl ⟨by rfl, ?_⟩) hHeld ?_
            rotate_left
            · (intro w hSw; (try dsimp only at hSw); go_simp; try with_reducible rfl)
            simp only [Act.put, List.getElem_toArray, List.getElem_cons_zero, List.getElem_cons_succ, List.setIfInBounds_toArray, List.set_cons_zero, List.set_cons_succ]
            refine wpAnyH_take (i := 5) (v := ?_) rfl (by kernel_rfl) (by kernel_rfl) (by kernel_rfl) (fun c a w h => h) (Or.inl ⟨by rfl, ?_⟩) hHeld ?_
            rotate_left
            · (intro w hSw; (try dsimp only at hSw); go_simp; try with_reducible rfl)
            simp only [Act.put, List.getElem_toArray, List.getElem_cons_zero, List.getElem_cons_succ, List.setIfInBounds_toArray, List.set_cons_zero, List.set_cons_succ]
            refine wpAnyH_take (i := 6) (v := ?_) rfl (by kernel_rfl) (by kernel_rfl) (by kernel_rfl) (fun c a w h => h) (Or.inl ⟨by rfl, ?_⟩) hHeld ?_
            rotate_left
            · (intro w hSw; (try dsimp only at hSw); go_simp; try with_reducible rfl)
            simp only [Act.put, List.getElem_toArray, List.getElem_cons_zero, List.getElem_cons_succ, List.setIfInBounds_toArray, List.set_cons_zero, List.set_cons_succ]
            refine wpAnyH_take (i := 7) (v := ?_) rfl (by kernel_rfl) (by kernel_rfl) (by kernel_rfl) (fun c a w h => h) (Or.inl ⟨by rfl, ?_⟩) hHeld ?_
            rotate_left
            · (intro w hSw; (try dsimp only at hSw); go_simp; try with_reducible rfl)
            simp only [Act.put, List.getElem_toArray, List.getElem_cons_zero, List.getElem_cons_succ, List.setIfInBounds_toArray, List.set_cons_zero, List.set_cons_succ]
            refine wpAnyH_take (i := 8) (v := ?_) rfl (by kernel_rfl) (by kernel_rfl) (by kernel_rfl) (fun c a w h => h) (Or.inl ⟨by rfl, ?_⟩) hHeld ?_
            rotate_left
            · (intro w hSw; (try dsimp only at hSw); go_simp; try with_reducible rfl)
            simp only [Act.put, List.getElem_toArray, List.getElem_cons_zero, List.getElem_cons_succ, List.setIfInBounds_toArray, List.set_cons_zero, List.set_cons_succ]
            refine wpAnyH_take (i := 9) (v := ?_) rfl (by kernel_rfl) (by kernel_rfl) (by kernel_rfl) (fun c a w h => h) (Or.inl ⟨by rfl, ?_⟩) hHeld ?_
            rotate_left
            · (intro w hSw; (try dsimp only at hSw); go_simp; try with_reducible rfl)
            simp only [Act.put, List.getElem_toArray, List.getElem_cons_zero, List.getElem_cons_succ, List.setIfInBounds_toArray, List.set_cons_zero, List.set_cons_succ]
            refine wpAnyH_take (i := 10) (v := ?_) rfl (by kernel_rfl) (by kernel_rfl) (by kernel_rfl) (fun c a w h => h) (Or.inl ⟨by rfl, ?_⟩) hHeld ?_
            rotate_left
            · (intro w hSw; (try dsimp only at hSw); go_simp; try with_reducible rfl)
            simp only [Act.put, List.getElem_toArray, List.getElem_cons_zero, List.getElem_cons_succ, List.setIfInBounds_toArray, List.set_cons_zero, List.set_cons_succ]
            refine wpAnyH_take (i := 11) (v := ?_) rfl (by kernel_rfl) (by kernel_rfl) (by kernel_rfl) (fun c a w h => h) (Or.inl ⟨by rfl, ?_⟩) hHeld ?_
            rotate_left
            · (intro w hSw; (try dsimp only at hSw); go_simp; try with_reducible rfl)
            simp only [Act.put, List.getElem_toArray, List.getElem_cons_zero, List.getElem_cons_succ, List.setIfInBounds_toArray, List.set_cons_zero, List.set_cons_succ]
            refine wpAnyH_take (i := 12) (v := ?_) rfl (by kernel_rfl) (by kernel_rfl) (by kernel_rfl) (fun c a w h => h) (Or.inl ⟨by rfl, ?_⟩) hHeld ?_
            rotate_left
            · (intro w hSw; (try dsimp only at hSw); go_simp; try with_reducible rfl)
            simp only [Act.put, List.getElem_toArray, List.getElem_cons_zero, List.getElem_cons_succ, List.setIfInBounds_toArray, List.set_cons_zero, List.set_cons_succ]
            refine wpAnyH_take (i := 13) (v := ?_) rfl (by kernel_rfl) (by kernel_rfl) (by kernel_rfl) (fun c a w h => h) (Or.inl ⟨by rfl, ?_⟩) hHeld ?_
            rotate_left
            · (intro w hSw; (try dsimp only at hSw); go_simp; try with_reducible rfl)
            simp only [Act.put, List.getElem_toArray, List.getElem_cons_zero, List.getElem_cons_succ, List.setIfInBounds_toArray, List.set_cons_zero, List.set_cons_succ]
            refine wpAnyH_take (i := 14) (v := ?_) rfl (by kernel_rfl) (by kernel_rfl) (by kernel_rfl) (fun c a w h => h) (Or.inl ⟨by rfl, ?_⟩) hHeld ?_
            rotate_left
            · (intro w hSw; (try dsimp only at hSw); go_simp; try with_reducible rfl)
            simp only [Act.put, List.getElem_toArray, List.getElem_cons_zero, List.getElem_cons_succ, List.setIfInBounds_toArray, List.set_cons_zero, List.set_cons_succ]
            refine wpAnyH_take (i := 15) (v := ?_) rfl (by kernel_rfl) (by kernel_rfl) (by kernel_rfl) (fun c a w h => h) (Or.inl ⟨by rfl, ?_⟩) hHeld ?_
            rotate_left
            · (intro w hSw; (try dsimp only at hSw); go_simp; try with_reducible rfl)
            simp only [Act.put, List.getElem_toArray, List.getElem_cons_zero, List.getElem_cons_succ, List.setIfInBounds_toArray, List.set_cons_zero, List.set_cons_succ]
            refine wpAnyH_take (i := 16) (v := ?_) rfl (by kernel_rfl) (by kernel_rfl) (by kernel_rfl) (fun c a w h => h) (Or.inl ⟨by rfl, ?_⟩) hHeld ?_
            rotate_left
            · (intro w hSw; (try dsimp only at hSw); go_simp; try with_reducible rfl)
            simp only [Act.put, List.getElem_toArray, List.getElem_cons_zero, List.getElem_cons_succ, List.setIfInBounds_toArray, List.set_cons_zero, List.set_cons_succ]
            refine wpAnyH_take (i := 17) (v := ?_) rfl (by kernel_rfl) (by kernel_rfl) (by kernel_rfl) (fun c a w h => h) (Or.inl ⟨by rfl, ?_⟩) hHeld ?_
            rotate_left
            · (intro w hSw; (try dsimp only at hSw); go_simp; try with_reducible rfl)
            simp only [Act.put, List.getElem_toArray, List.getElem_cons_zero, List.getElem_cons_succ, List.setIfInBounds_toArray, List.set_cons_zero, List.set_cons_succ]
            refine wpAnyH_take (i := 18) (v := ?_) rfl (by kernel_rfl) (by kernel_rfl) (by kernel_rfl) (fun c a w h => h) (Or.inl ⟨by rfl, ?_⟩) hHeld ?_
            rotate_left
            · (intro w hSw; (try dsimp only at hSw); go_simp; try with_reducible rfl)
            simp only [Act.put, List.getElem_toArray, List.getElem_cons_zero, List.getElem_cons_succ, List.setIfInBounds_toArray, List.set_cons_zero, List.set_cons_succ]
            refine wpAnyH_take (i := 19) (v := ?_) rfl (by kernel_rfl) (by kernel_rfl) (by kernel_rfl) (fun c a w h => h) (Or.inl ⟨by rfl, ?_⟩) hHeld ?_
            rotate_left
            · (intro w hSw; (try dsimp only at hSw); go_simp; try with_reducible rfl)
            simp only [Act.put, List.getElem_toArray, List.getElem_cons_zero, List.getElem_cons_succ, List.setIfInBounds_toArray, List.set_cons_zero, List.set_cons_succ]
            refine wpAnyH_take (i := 20) (v := ?_) rfl (by kernel_rfl) (by kernel_rfl) (by kernel_rfl) (fun c a w h => h) (Or.inl ⟨by rfl, ?_⟩) hHeld ?_
            rotate_left
            · (intro w hSw; (try dsimp only at hSw); go_simp; try with_reducible rfl)
            simp only [Act.put, List.getElem_toArray, List.getElem_cons_zero, List.getElem_cons_succ, List.setIfInBounds_toArray, List.set_cons_zero, List.set_cons_succ]
            refine wpAnyH_take (i := 21) (v := ?_) rfl (by kernel_rfl) (by kernel_rfl) (by kernel_rfl) (fun c a w h => h) (Or.inl ⟨by rfl, ?_⟩) hHeld ?_
            rotate_left
            · (intro w hSw; (try dsimp only at hSw); go_simp; try with_reducible rfl)
            simp only [Act.put, List.getElem_toArray, List.getElem_cons_zero, List.getElem_cons_succ, List.setIfInBounds_toArray, List.set_cons_zero, List.set_cons_succ]
            refine wpAnyH_take (i := 22) (v := ?_) rfl (by kernel_rfl) (by kernel_rfl) (by kernel_rfl) (fun c a w h => h) (Or.inl ⟨by rfl, ?_⟩) hHeld ?_
            rotate_left
            · (intro w hSw; (try dsimp only at hSw); go_simp; try with_reducible rfl)
            simp only [Act.put, List.getElem_toArray, List.getElem_cons_zero, List.getElem_cons_succ, List.setIfInBounds_toArray, List.set_cons_zero, List.set_cons_succ]
            refine wpAnyH_take (i := 23) (v := ?_) rfl (by kernel_rfl) (by kernel_rfl) (by kernel_rfl) (fun c a w h => h) (Or.inl ⟨by rfl, ?_⟩) hHeld ?_
            rotate_left
            · (intro w hSw; (try dsimp only at hSw); go_simp; try with_reducible rfl)
            simp only [Act.put, List.getElem_toArray, List.getElem_cons_zero, List.getElem_cons_succ, List.setIfInBounds_toArray, List.set_cons_zero, List.set_cons_succ]
            refine wpAnyH_take (i := 24) (v := undef) rfl (by kernel_rfl) (by kernel_rfl) (by kernel_rfl) (fun c a w h => h) (Or.inr ⟨by rfl, rfl⟩) hHeld ?_
            simp only [Act.put, List.getElem_toArray, List.getElem_cons_zero, List.getElem_cons_succ, List.setIfInBounds_toArray, List.set_cons_zero, List.set_cons_succ]
            refine wpAnyH_take (i := 25) (v := undef) rfl (by kernel_rfl) (by kernel_rfl) (by kernel_rfl) (fun c a w h => h) (Or.inr ⟨by rfl, rfl⟩) hHeld ?_
            simp only [Act.put, List.getElem_toArray, List.getElem_cons_zero, List.getElem_cons_succ, List.setIfInBounds_toArray, List.set_cons_zero, List.set_cons_succ]
            refine wpAnyH_take (i := 26) (v := undef) rfl (by kernel_rfl) (by kernel_rfl) (by kernel_rfl) (fun c a w h => h) (Or.inr ⟨by rfl, rfl⟩) hHeld ?_
            simp only [Act.put, List.getElem_toArray, List.getElem_cons_zero, List.getElem_cons_succ, List.setIfInBounds_toArray, List.set_cons_zero, List.set_cons_succ]
            refine wpAnyH_take (i := 27) (v := undef) rfl (by kernel_rfl) (by kernel_rfl) (by kernel_rfl) (fun c a w h => h) (Or.inr ⟨by rfl, rfl⟩) hHeld ?_
            simp only [Act.put, List.getElem_toArray, List.getElem_cons_zero, List.getElem_cons_succ, List.setIfInBounds_toArray, List.set_cons_zero, List.set_cons_succ]
            refine wpAnyH_take (i := 28) (v := undef) rfl (by kernel_rfl) (by kernel_rfl) (by kernel_rfl) (fun c a w h => h) (Or.inr ⟨by rfl, rfl⟩) hHeld ?_
            simp only [Act.put, List.getElem_toArray, List.getElem_cons_zero, List.getElem_cons_succ, List.setIfInBounds_toArray, List.set_cons_zero, List.set_cons_succ]
            refine wpAnyH_take (i := 29) (v := undef) rfl (by kernel_rfl) (by kernel_rfl) (by kernel_rfl) (fun c a w h => h) (Or.inr ⟨by rfl, rfl⟩) hHeld ?_
            simp only [Act.put, List.getElem_toArray, List.getElem_cons_zero, List.getElem_cons_succ, List.setIfInBounds_toArray, List.set_cons_zero, List.set_cons_succ]
            refine wpAnyH_take (i := 30) (v := undef) rfl (by kernel_rfl) (by kernel_rfl) (by kernel_rfl) (fun c a w h => h) (Or.inr ⟨by rfl, rfl⟩) hHeld ?_
            simp only [Act.put, List.getElem_toArray, List.getElem_cons_zero, List.getElem_cons_succ, List.setIfInBounds_toArray, List.set_cons_zero, List.set_cons_succ]
            refine wpAnyH_take (i := 31) (v := undef) rfl (by kernel_rfl) (by kernel_rfl) (by kernel_rfl) (fun c a w h => h) (Or.inr ⟨by rfl, rfl⟩) hHeld ?_
            simp only [Act.put, List.getElem_toArray, List.getElem_cons_zero, List.getElem_cons_succ, List.setIfInBounds_toArray, List.set_cons_zero, List.set_cons_succ]
            refine wpAnyH_take (i := 32) (v := undef) rfl (by kernel_rfl) (by kernel_rfl) (by kernel_rfl) (fun c a w h => h) (Or.inr ⟨by rfl, rfl⟩) hHeld ?_
            simp only [Act.put, List.getElem_toArray, List.getElem_cons_zero, List.getElem_cons_succ, List.setIfInBounds_toArray, List.set_cons_zero, List.set_cons_succ]
            refine wpAnyH_take (i := 33) (v := undef) rfl (by kernel_rfl) (by kernel_rfl) (by kernel_rfl) (fun c a w h => h) (Or.inr ⟨by rfl, rfl⟩) hHeld ?_
            simp only [Act.put, List.getElem_toArray, List.getElem_cons_zero, List.getElem_cons_succ, List.setIfInBounds_toArray, List.set_cons_zero, List.set_cons_succ]
            refine wpAnyH_take (i := 34) (v := ?_) rfl (by kernel_rfl) (by kernel_rfl) (by kernel_rfl) (fun c a w h => h) (Or.inl ⟨by rfl, ?_⟩) hHeld ?_
            rotate_left
            · (intro w hSw; (try dsimp only at hSw); go_simp; try with_reducible rfl)
            simp only [Act.put, List.getElem_toArray, List.getElem_cons_zero, List.getElem_cons_succ, List.setIfInBounds_toArray, List.set_cons_zero, List.set_cons_succ]
            refine wpAnyH_take (i := 35) (v := ?_) rfl (by kernel_rfl) (by kernel_rfl) (by kernel_rfl) (fun c a w h => h) (Or.inl ⟨by rfl, ?_⟩) hHeld ?_
            rotate_left
            · (intro w hSw; (try dsimp only at hSw); go_simp; try with_reducible rfl)
            simp only [Act.put, List.getElem_toArray, List.getElem_cons_zero, List.getElem_cons_succ, List.setIfInBounds_toArray, List.set_cons_zero, List.set_cons_succ]
            refine wpAnyH_done (by kernel_rfl) ?_ _
            clear hHeld
            all_goals
              try simp only [Act.put, List.setIfInBounds_toArray, List.set_cons_zero, List.set_cons_succ]
              have B1 := B0
              clear B0 s0
              generalize A1.drew = w3 at B1 ⊢
              obtain ⟨⟨_, _, m2, m0, _, _⟩, m3, mv⟩ := HMK.out w3 B1.out
              clear c0 c1 c2 c3' g0 g1 g2 g3 g4 g5 y0
              go_wp2
              have ra : (rms ds (k + 1)).2.1 = A + D := HS.out.2.2.2.2.2.1.trans HDD.out.1
              have rr : (rms ds (k + 1)).2.2 = R + 0 := HS.out.2.2.2.2.2.2.trans HDD.out.2
              refine ⟨⟨k + 1, by omega, by first | rfl | go_num, by rw [ra], by rw [rr] <;> simp, HI1.out.next B1.out⟩, ?_⟩
              simp [intOf]
              omega
      · obtain rfl : k = ds.length := by omega
        have i1 : ¬ (ds.length : Int) < ds.length := by omega
        obtain ⟨hz1, hz2⟩ := HZ.out
        rw [hz1, hz2]
        have hlast : zc ≤ 16384 ∧ zr ≤ 16384 ∧ ds.length ≤ 512 := by
          rw [← hz1, ← hz2]
          have hone := (mild_at ds HM.out ds.length (Nat.le_refl _)).1
          by_cases h0 : ds.length = 0
          · rw [h0]
            exact ⟨(by decide : (128 : Int) ≤ 16384), (by decide : (0 : Int) ≤ 16384), by omega⟩
          · have hw := ps_words (HF.out (ds.length - 1) (by omega))
            rw [show ds.length - 1 + 1 = ds.length by omega] at hw
            refine ⟨hw.2.1, hw.2.2, ?_⟩
            have := hw.1
            rw [hone] at this
            omega
        obtain ⟨hl1, hl2, hl3⟩ := hlast
        have y0 := S.cell_of wr W.heap.size 0 [_, _] 32 _ hI.box rfl
        have HI2 := hid hI
        clear hI hz1 hz2
        have tb1 : n.tmod ((ds.length : Int) + 1) ≤ ds.length := by
          have := Int.tmod_lt_of_pos n (show (0 : Int) < (ds.length : Int) + 1 by omega)
          omega
        have tb2 : -(ds.length : Int) ≤ n.tmod ((ds.length : Int) + 1) := by
          have h2 := Int.tmod_lt_of_pos (-n) (show (0 : Int) < (ds.length : Int) + 1 by omega)
          rw [Int.neg_tmod] at h2
          omega
        by_cases hneg : n.tmod ((ds.length : Int) + 1) < 0
        · obtain ⟨k0, ht⟩ : ∃ k0 : Nat, n.tmod ((ds.length : Int) + 1) = -(k0 : Int) := ⟨(-(n.tmod ((ds.length : Int) + 1))).toNat, by omega⟩
          have hneg2 : -(k0 : Int) < 0 := by omega
          have hk0 : (k0 : Int) ≤ ds.length := by omega
          have hkn : k0 ≤ ds.length := by omega
          have hkc : (k0 : Int) ≤ c2 := by omega
          clear tb1 tb2
          go_wp2_with fail
          have hof := of_any (ds.take k0) (.slice q k0 c2) (.slice none 0 0) ⟨_, _, _, rfl⟩ O wr (fun i hi => Nat.lt_of_lt_of_le (HI2.out.o i hi) HI2.out.bel.size) (HI2.out.d.take k0 hkn)
          refine Calls.mono hof ?_
          rintro e w5 ⟨hR, hb⟩
          have hlk : (ds.take k0).length = k0 := by rw [List.length_take]; omega
          rcases hR with ⟨u, _, rfl, ho⟩ | ⟨j, d, hd, _, hp, _⟩
          case inr =>
            exfalso
            have hj : j < k0 := by
              have := (List.getElem?_eq_some_iff.1 hd).1
              omega
            rw [rms_take ds k0 (j + 1) (by omega)] at hp
            exact hp (HF.out j (by omega))
          case inl =>
            rw [hlk, pls_take ds k0 k0 (Nat.le_refl _)] at ho
            have hv2 : ∃ p c, u = .slice p k0 c := by
              rcases ho.2 with ⟨rfl, e⟩ | ⟨g, cap, cur, rfl, _⟩
              · exact ⟨none, 0, by rw [e]⟩
              · exact ⟨_, _, rfl⟩
            obtain ⟨up, uc, rfl⟩ := hv2
            have hJ : FJ W w5 O (.slice q ds.length c2) (.slice bp bl bc) (.slice vp ds.length vc) (.slice up k0 uc) ds k0 := ⟨HI2.out.next hb, S.own_mono ho (by have := S.lt_of HI2.out.box; omega)⟩
            have HJ := hid hJ
            generalize (rms (ds.take k0) (ds.take k0).length).2.1 = za at *
            generalize (rms (ds.take k0) (ds.take k0).length).2.2 = zb at *
            clear hof hb ho hJ hlk y0
            go_wp2
            go_loopw [20] (fun i wr => ∃ j : Nat, j ≤ k0 ∧ i = .int .i64 (j : Int) ∧ FJ W wr O (.slice q ds.length c2) (.slice bp bl bc) (.slice vp ds.length vc) (.slice up k0 uc) ds k0) (fun i _ => k0 - (intOf i).toNat)
            case atStart => exact ⟨0, by omega, rfl, HJ.out.next ((Below.refl _ _).alloc (Nat.le_refl _) _)⟩
            case round =>
              clear HJ
              obtain ⟨j, hj, rfl, hJ⟩ := hrel
              by_cases hlt2 : j < k0
              · have i2 : (j : Int) < k0 := by omega
                have ea := List.getElem?_eq_getElem (show j < ds.length by omega)
                generalize ds[j] = d at *
                obtain ⟨g, cap, eg⟩ := S.own_pos hJ.i.row (by omega)
                cases eg
                obtain ⟨g2, cap2, eg2⟩ := S.own_pos hJ.row (by omega)
                cases eg2
                have a0 := hJ.i.cells j d ea 0 _ rfl
                have a1 := hJ.i.cells j d ea 1 _ rfl
                have a2 := hJ.i.cells j d ea 2 _ rfl
                have a3 := hJ.i.cells j d ea 3 _ rfl
                have b0 := hJ.cells hkn j hlt2 d ea 0 _ rfl
                have b1 := hJ.cells hkn j hlt2 d ea 1 _ rfl
                have b2 := hJ.cells hkn j hlt2 d ea 2 _ rfl
                have b3 := hJ.cells hkn j hlt2 d ea 3 _ rfl
                have en : (bt d (rms ds j) (rms ds (j + 1))).nm = d.nm := rfl
                rw [en] at a0 b0
                simp only [Nat.add_zero] at a0 b0
                generalize (bt d (rms ds j) (rms ds (j + 1))).at_ = z1 at *
                generalize (bt d (rms ds j) (rms ds (j + 1))).sz = z2 at *
                generalize (bt d (rms ds j) (rms ds (j + 1))).ram = z3 at *
                have s0 : (fun w' : World => w'.cell? ⟨g2, j * 4, none⟩ = some (.string d.nm) ∧ w'.cell? ⟨g2, j * 4 + 1, none⟩ = some (.int .u16 z1) ∧ w'.cell? ⟨g2, j * 4 + 2, none⟩ = some (.int .i64 z2) ∧ w'.cell? ⟨g2, j * 4 + 3, none⟩ = some (.int .u16 z3) ∧ w'.cell? ⟨g, j * 4, none⟩ = some (.string d.nm) ∧ w'.cell? ⟨g, j * 4 + 1, none⟩ = some (.int .u16 z1) ∧ w'.cell? ⟨g, j * 4 + 2, none⟩ = some (.int .i64 z2) ∧ w'.cell? ⟨g, j * 4 + 3, none⟩ = some (.int .u16 z3)) wr.drew := ⟨b0, b1, b2, b3, a0, a1, a2, a3⟩
                have i3 : (j : Int) < ds.length := by omega
                have HJ := hid hJ
                clear hJ ea en a0 a1 a2 a3 b0 b1 b2 b3
                go_wp2_with fail
                go_region_held (fun w' => w'.cell? ⟨g2, j * 4, none⟩ = some (.string d.nm) ∧ w'.cell? ⟨g2, j * 4 + 1, none⟩ = some (.int .u16 z1) ∧ w'.cell? ⟨g2, j * 4 + 2, none⟩ = some (.int .i64 z2) ∧ w'.cell? ⟨g2, j * 4 + 3, none⟩ = some (.int .u16 z3) ∧ w'.cell? ⟨g, j * 4, none⟩ = some (.string d.nm) ∧ w'.cell? ⟨g, j * 4 + 1, none⟩ = some (.int .u16 z1) ∧ w'.cell? ⟨g, j * 4 + 2, none⟩ = some (.int .i64 z2) ∧ w'.cell? ⟨g, j * 4 + 3, none⟩ = some (.int .u16 z3)) (first | (with_reducible exact s0)) (fail)
                all_goals
                  try simp only [Act.put, List.setIfInBounds_toArray, List.set_cons_zero, List.set_cons_succ]
                  clear s0
                  go_wp2
                  refine ⟨⟨j + 1, by omega, by first | rfl | go_num, HJ.out.next (Below.refl _ _).drew⟩, ?_⟩
                  simp [intOf]
                  omega
              · have i2 : ¬ (j : Int) < k0 := by omega
                go_wp2
                go_ret
                exact ⟨rfl, hJ.i.bel⟩
        · obtain ⟨k0, ht⟩ : ∃ k0 : Nat, n.tmod ((ds.length : Int) + 1) = (k0 : Int) := ⟨(n.tmod ((ds.length : Int) + 1)).toNat, by omega⟩
          have hneg2 : ¬ (k0 : Int) < 0 := by omega
          have hk0 : (k0 : Int) ≤ ds.length := by omega
          have hkn : k0 ≤ ds.length := by omega
          have hkc : (k0 : Int) ≤ c2 := by omega
          clear tb1 tb2
          go_wp2_with fail
          have hof := of_any (ds.take k0) (.slice q k0 c2) (.slice none 0 0) ⟨_, _, _, rfl⟩ O wr (fun i hi => Nat.lt_of_lt_of_le (HI2.out.o i hi) HI2.out.bel.size) (HI2.out.d.take k0 hkn)
          refine Calls.mono hof ?_
          rintro e w5 ⟨hR, hb⟩
          have hlk : (ds.take k0).length = k0 := by rw [List.length_take]; omega
          rcases hR with ⟨u, _, rfl, ho⟩ | ⟨j, d, hd, _, hp, _⟩
          case inr =>
            exfalso
            have hj : j < k0 := by
              have := (List.getElem?_eq_some_iff.1 hd).1
              omega
            rw [rms_take ds k0 (j + 1) (by omega)] at hp
            exact hp (HF.out j (by omega))
          case inl =>
            rw [hlk, pls_take ds k0 k0 (Nat.le_refl _)] at ho
            have hv2 : ∃ p c, u = .slice p k0 c := by
              rcases ho.2 with ⟨rfl, e⟩ | ⟨g, cap, cur, rfl, _⟩
              · exact ⟨none, 0, by rw [e]⟩
              · exact ⟨_, _, rfl⟩
            obtain ⟨up, uc, rfl⟩ := hv2
            have hJ : FJ W w5 O (.slice q ds.length c2) (.slice bp bl bc) (.slice vp ds.length vc) (.slice up k0 uc) ds k0 := ⟨HI2.out.next hb, S.own_mono ho (by have := S.lt_of HI2.out.box; omega)⟩
            have HJ := hid hJ
            generalize (rms (ds.take k0) (ds.take k0).length).2.1 = za at *
            generalize (rms (ds.take k0) (ds.take k0).length).2.2 = zb at *
            clear hof hb ho hJ hlk y0
            go_wp2
            go_loopw [20] (fun i wr => ∃ j : Nat, j ≤ k0 ∧ i = .int .i64 (j : Int) ∧ FJ W wr O (.slice q ds.length c2) (.slice bp bl bc) (.slice vp ds.length vc) (.slice up k0 uc) ds k0) (fun i _ => k0 - (intOf i).toNat)
            case atStart => exact ⟨0, by omega, rfl, HJ.out.next ((Below.refl _ _).alloc (Nat.le_refl _) _)⟩
            case round =>
              clear HJ
              obtain ⟨j, hj, rfl, hJ⟩ := hrel
              by_cases hlt2 : j < k0
              · have i2 : (j : Int) < k0 := by omega
                have ea := List.getElem?_eq_getElem (show j < ds.length by omega)
                generalize ds[j] = d at *
                obtain ⟨g, cap, eg⟩ := S.own_pos hJ.i.row (by omega)
                cases eg
                obtain ⟨g2, cap2, eg2⟩ := S.own_pos hJ.row (by omega)
                cases eg2
                have a0 := hJ.i.cells j d ea 0 _ rfl
                have a1 := hJ.i.cells j d ea 1 _ rfl
                have a2 := hJ.i.cells j d ea 2 _ rfl
                have a3 := hJ.i.cells j d ea 3 _ rfl
                have b0 := hJ.cells hkn j hlt2 d ea 0 _ rfl
                have b1 := hJ.cells hkn j hlt2 d ea 1 _ rfl
                have b2 := hJ.cells hkn j hlt2 d ea 2 _ rfl
                have b3 := hJ.cells hkn j hlt2 d ea 3 _ rfl
                have en : (bt d (rms ds j) (rms ds (j + 1))).nm = d.nm := rfl
                rw [en] at a0 b0
                simp only [Nat.add_zero] at a0 b0
                generalize (bt d (rms ds j) (rms ds (j + 1))).at_ = z1 at *
                generalize (bt d (rms ds j) (rms ds (j + 1))).sz = z2 at *
                generalize (bt d (rms ds j) (rms ds (j + 1))).ram = z3 at *
                have s0 : (fun w' : World => w'.cell? ⟨g2, j * 4, none⟩ = some (.string d.nm) ∧ w'.cell? ⟨g2, j * 4 + 1, none⟩ = some (.int .u16 z1) ∧ w'.cell? ⟨g2, j * 4 + 2, none⟩ = some (.int .i64 z2) ∧ w'.cell? ⟨g2, j * 4 + 3, none⟩ = some (.int .u16 z3) ∧ w'.cell? ⟨g, j * 4, none⟩ = some (.string d.nm) ∧ w'.cell? ⟨g, j * 4 + 1, none⟩ = some (.int .u16 z1) ∧ w'.cell? ⟨g, j * 4 + 2, none⟩ = some (.int .i64 z2) ∧ w'.cell? ⟨g, j * 4 + 3, none⟩ = some (.int .u16 z3)) wr.drew := ⟨b0, b1, b2, b3, a0, a1, a2, a3⟩
                have i3 : (j : Int) < ds.length := by omega
                have HJ := hid hJ
                clear hJ ea en a0 a1 a2 a3 b0 b1 b2 b3
                go_wp2_with fail
                go_region_held (fun w' => w'.cell? ⟨g2, j * 4, none⟩ = some (.string d.nm) ∧ w'.cell? ⟨g2, j * 4 + 1, none⟩ = some (.int .u16 z1) ∧ w'.cell? ⟨g2, j * 4 + 2, none⟩ = some (.int .i64 z2) ∧ w'.cell? ⟨g2, j * 4 + 3, none⟩ = some (.int .u16 z3) ∧ w'.cell? ⟨g, j * 4, none⟩ = some (.string d.nm) ∧ w'.cell? ⟨g, j * 4 + 1, none⟩ = some (.int .u16 z1) ∧ w'.cell? ⟨g, j * 4 + 2, none⟩ = some (.int .i64 z2) ∧ w'.cell? ⟨g, j * 4 + 3, none⟩ = some (.int .u16 z3)) (first | (with_reducible exact s0)) (fail)
                all_goals
                  try simp only [Act.put, List.setIfInBounds_toArray, List.set_cons_zero, List.set_cons_succ]
                  clear s0
                  go_wp2
                  refine ⟨⟨j + 1, by omega, by first | rfl | go_num, HJ.out.next (Below.refl _ _).drew⟩, ?_⟩
                  simp [intOf]
                  omega
              · have i2 : ¬ (j : Int) < k0 := by omega
                go_wp2
                go_ret
                exact ⟨rfl, hJ.i.bel⟩
end Go.Proofs.Yteeanomkbclinaa.Y
