import Derived.Test.YteeanomkbclinaaYWhoN
import Derived.Test.YteeanomkbclinaaYRSize
import Derived.Test.YteeanomkbclinaaYOf
/-! The reference's Size, Bytes, Of. -/
namespace Go.Proofs.Yteeanomkbclinaa.Y
open Go.RowKit
open Go.Proofs
set_option linter.unusedVariables false
set_option linter.unusedSimpArgs false
set_option maxHeartbeats 4000000
set_option maxRecDepth 100000
theorem rsize_any (l : List Nd) (v : Value) (O : Nat → Prop) (W : World) (hO : ∀ i, O i → i < W.heap.size) (h : NV W O v l) :
    Calls Try.prog 14 #[v] W fun e w' => e = .returned (.int .i64 (wrap64 (2 * cl l))) ∧ Below W.heap.size W w' := by
  have hc := all_any l v O W hO h
  obtain ⟨p, c, rfl, _, _⟩ := h.ex
  have HE := hid (w_m2 (cl l))
  generalize wrap64 (cl l) = z at *
  clear h hO
  go_enter Try.func14, Try.ntmps14
  go_wp2_with fail
  refine hc.mono ?_
  rintro e w ⟨rfl, k⟩
  have HB := hid k
  clear k hc
  go_wp2
  go_ret
  refine ⟨?_, HB.out⟩
  show Ending.returned (.int .i64 (wrap64 (2 * z))) = _
  rw [HE.out]
theorem rbytes_any (d : Df) (bv : Value) (O : Nat → Prop) (W : World) (hO : ∀ i, O i → i < W.heap.size) (ht : NV W O bv d.body) :
    Calls Try.prog 22 #[.agg (dfc d bv).toArray] W fun e w' => e = .returned (.int .i64 (wrap64 (db d))) ∧ Below W.heap.size W w' := by
  obtain ⟨q1, d1, rfl, _, _⟩ := ht.ex
  obtain ⟨W1, hW1⟩ : ∃ W1, W.alloc (.cells (dfc d (.slice q1 d.body.length d1)).toArray 36) = W1 := ⟨_, rfl⟩
  have b1 : Below W.heap.size W W1 := by rw [← hW1]; exact (Below.refl _ _).alloc (Nat.le_refl _) _
  have v1 : W1.heap[W.heap.size]? = some (.cells (dfc d (.slice q1 d.body.length d1)).toArray 36 (0, 0)) := by rw [← hW1]; exact heap_alloc_new W _
  have hc := rsize_any d.body _ O W1 (fun i hi => Nat.lt_of_lt_of_le (hO i hi) b1.size) (ht.below b1 hO)
  obtain ⟨x0, x1, x2, x3, x4, x5⟩ := cells6 (W := W1) (b := W.heap.size) (o := 0) fun j x hx => by rw [Nat.zero_add]; exact S.cell_of W1 _ j _ 36 x v1 hx
  simp only [Nat.zero_add] at x1 x2 x3 x4 x5
  have HB := hid b1
  unfold dfc at hW1 ⊢
  have HW := hid hW1
  have HE : Hd (wrap64 (wrap64 (2 + wrap64 (2 * cl d.body)) + 2) = wrap64 (4 + 2 * cl d.body)) := hid (by rw [w_al]; exact w_eq (by have := w_em (2 * cl d.body); omega))
  generalize hz : wrap64 (2 * cl d.body) = z at *
  clear ht hO b1 v1 hW1 hz
  have hdb : db d = if d.k = 1 then 4 + 2 * cl d.body else if d.k = 2 ∨ d.k = 3 then 4 else 0 := rfl
  rw [hdb]
  by_cases h1 : d.k = 1
  · rw [if_pos h1]
    rw [h1] at x0 HW ⊢
    clear hdb h1
    go_enter Try.func22, Try.ntmps22
    go_wp2_with fail
    rw [HW.out]
    refine hc.mono ?_
    rintro e w ⟨rfl, k⟩
    have HB2 := hid (HB.out.trans (k.mono HB.out.size))
    clear k hc x0 x1 x2 x3 x4 x5
    go_wp2
    go_ret
    refine ⟨?_, HB2.out⟩
    show Ending.returned (.int .i64 (wrap64 (wrap64 (2 + z) + 2))) = _
    rw [HE.out]
  · rw [if_neg h1]
    clear hc HE
    by_cases h2 : d.k = 2
    · rw [if_pos (.inl h2), w_in 4 (by omega)]
      rw [h2] at x0 HW ⊢
      clear hdb h1 h2
      go_enter Try.func22, Try.ntmps22
      go_wp2
      go_ret
      exact ⟨rfl, by rw [HW.out]; exact HB.out⟩
    · by_cases h3 : d.k = 3
      · rw [if_pos (.inr h3), w_in 4 (by omega)]
        rw [h3] at x0 HW ⊢
        clear hdb h1 h2 h3
        go_enter Try.func22, Try.ntmps22
        go_wp2
        go_ret
        exact ⟨rfl, by rw [HW.out]; exact HB.out⟩
      · rw [if_neg (by rintro (h | h); exact h2 h; exact h3 h), w_in 0 (by omega)]
        have n1 : (d.k == 1) = false := by simpa using h1
        have n2 : (d.k == 2) = false := by simpa using h2
        have n3 : (d.k == 3) = false := by simpa using h3
        clear hdb
        go_enter Try.func22, Try.ntmps22
        go_wp2
        go_ret
        exact ⟨rfl, by rw [HW.out]; exact HB.out⟩
def RfR (W : World) (ds : List Df) (e : Ending) (w' : World) : Prop :=
  (∃ v, (∀ j, j < ds.length → ps (rms ds (j + 1)) = 0) ∧ e = .returned (.tuple #[v, .int .i64 (rms ds ds.length).2.1, .int .i64 (rms ds ds.length).2.2, .agg #[.int .i64 0, .int .i64 0], .int .i64 0]) ∧ w'.ownsRow W.heap.size 66 4 v ds.length (S.en plc (pls ds ds.length))) ∨
  (∃ (k : Nat) (d : Df), ds[k]? = some d ∧ (∀ j, j < k → ps (rms ds (j + 1)) = 0) ∧ ps (rms ds (k + 1)) ≠ 0 ∧ e = .returned (.tuple #[.slice none 0 0, .int .i64 0, .int .i64 0, .agg #[.int .i64 d.p.1, .int .i64 d.p.2], .int .i64 (ps (rms ds (k + 1)))]))
theorem infoRp : (Try.prog.info? 66).map (fun i => (i.zero, i.size, i.bytes)) = some (some (.agg #[.string ⟨#[]⟩, .int .u16 0, .int .i64 0, .int .u16 0]), 4, 40) := by kernel_rfl
/-- While the definitions are gone through. -/
structure RO (W wr : World) (dv bkv : Value) (ds : List Df) (k : Nat) (out : Value) : Prop where
  bel : Below W.heap.size W wr
  b0 : wr.heap[W.heap.size]? = some (.cells [dv, bkv].toArray 32 (0, 0))
  b1 : wr.heap[W.heap.size + 1]? = some (.cells [.int .i64 0, .int .i64 0].toArray 25 (0, 0))
  fit : ∀ j, j < k → ps (rms ds (j + 1)) = 0
  row : wr.ownsRow (W.heap.size + 2) 66 4 out k (S.en plc (pls ds k))
theorem RO.next {W w w' : World} {dv bkv : Value} {ds : List Df} {k : Nat} {out : Value} (h : RO W w dv bkv ds k out) (b : Below w.heap.size w w') : RO W w' dv bkv ds k out :=
  ⟨h.bel.trans (b.mono h.bel.size), (b.block _ (S.lt_of h.b0)).trans h.b0, (b.block _ (S.lt_of h.b1)).trans h.b1, h.fit, S.own_kept h.row fun g _ hg => b.block g hg⟩
/-- A box for the place. -/
structure PX (W Y : World) (g : Nat) (cs : List Value) : Prop where
  bel : Below W.heap.size W Y
  ge : W.heap.size ≤ g
  a : Y.heap[g]? = some (.cells cs.toArray 66 (0, 0))
theorem rms_at (ds : List Df) (k : Nat) (d : Df) (h : ds[k]? = some d) : (rms ds (k + 1)).2.1 = wrap64 ((rms ds k).2.1 + db d) ∧ (rms ds (k + 1)).2.2 = wrap64 ((rms ds k).2.2 + dr d) := by
  rw [rms_succ ds k d h]; exact ⟨rfl, rfl⟩
theorem ps_at (ds : List Df) (k : Nat) (hk : k < ds.length) (hl : ds.length ≤ 140737488355328) : ps (rms ds (k + 1)) = if (512 : Int) < (k : Int) + 1 then 110 else if 16384 < (rms ds (k + 1)).2.1 then 111 else if 16384 < (rms ds (k + 1)).2.2 then 112 else 0 := by
  have := rms_one ds (k + 1) (by omega) (by omega)
  unfold ps
  rw [this]
  rfl
theorem plc_at (ds : List Df) (k : Nat) (d : Df) (h : ds[k]? = some d) : plc (bt d (rms ds k) (rms ds (k + 1))) = [.string d.nm, .int .u16 ((rms ds k).2.1 % 65536), .int .i64 (wrap64 (db d)), .int .u16 (if d.k = 3 then (32768 + (rms ds k).2.2) % 65536 else 0)] := by
  have e : wrap64 ((rms ds (k + 1)).2.1 - (rms ds k).2.1) = wrap64 (db d) := by rw [(rms_at ds k d h).1, w_sl]; exact w_eq (by omega)
  simp only [plc, bt, e]
theorem plc_one (p : Pl) : ∀ u ∈ plc p, u.oneCell' = true := by
  intro u hu
  simp only [plc, List.mem_cons, List.not_mem_nil, or_false] at hu
  rcases hu with rfl | rfl | rfl | rfl <;> rfl
theorem rof_any (ds : List Df) (dv bkv : Value) (hbk : ∃ p l c, bkv = .slice p l c) (O : Nat → Prop) (W : World) (hO : ∀ i, O i → i < W.heap.size) (hD : DV W O dv ds) :
    Calls Try.prog 12 #[.agg #[dv, bkv]] W fun e w' => RfR W ds e w' ∧ Below W.heap.size W w' := by
  obtain ⟨bp, bl, bc, rfl⟩ := hbk
  obtain ⟨q, c2, rfl, hl, hp⟩ := id hD
  obtain ⟨W1, hW1⟩ : ∃ W1, (W.alloc (.cells #[.slice q ds.length c2, .slice bp bl bc] 32)).alloc (.cells #[.int .i64 0, .int .i64 0] 25) = W1 := ⟨_, rfl⟩
  have hI : RO W W1 (.slice q ds.length c2) (.slice bp bl bc) ds 0 (.slice none 0 0) := by
    rw [← hW1]
    exact ⟨((Below.refl _ W).alloc (Nat.le_refl _) _).alloc (by simp) _, heap_alloc2_old W _ _, heap_alloc2_new W _ _, fun j hj => by omega, World.ownsRow_nil _ _ _ _⟩
  have HI := hid hI
  have HW := hid hW1
  have HH := hid (And.intro hO hp)
  clear hI hW1 hO hp hD
  go_enter Try.func12, Try.ntmps12
  go_wp2
  rw [HW.out]
  go_loopw [7, 8, 9, 10] (fun out c r i wr => ∃ k : Nat, k ≤ ds.length ∧ i = .int .i64 (k : Int) ∧ c = .int .i64 (rms ds k).2.1 ∧ r = .int .i64 (rms ds k).2.2 ∧ RO W wr (.slice q ds.length c2) (.slice bp bl bc) ds k out) (fun _ _ _ i _ => ds.length - (intOf i).toNat)
  case atStart => exact ⟨0, by omega, rfl, rfl, rfl, HI.out⟩
  case round =>
    obtain ⟨k, hk, rfl, rfl, rfl, hI⟩ := hrel
    have y0 := S.cell_of wr W.heap.size 0 _ 32 _ hI.b0 rfl
    by_cases hlt : k < ds.length
    · have i1 : (k : Int) < ds.length := by omega
      have ea := List.getElem?_eq_getElem hlt
      have hk5 : k ≤ 512 := by
        by_cases h0 : k = 0
        · omega
        · have h1 := hI.fit (k - 1) (by omega)
          rw [Nat.sub_add_cancel (by omega)] at h1
          have h2 := (ps_words h1).1
          rw [rms_one ds k (by omega) (by omega)] at h2
          omega
      generalize ds[k] = d at *
      obtain ⟨b, o, rfl, hOb, bv, hc, hn⟩ := HH.out.2 k d ea
      obtain ⟨q1, d1, rfl, _, _⟩ := hn.ex
      have hB := hI.bel
      obtain ⟨g0, g1, g2, g3, g4, g5⟩ := cells6 fun j x hx => (World.cell?_of_block (w := W) (a := ⟨b, o + k * 6 + j, none⟩) (hB.block b (HH.out.1 b hOb))).trans (hc j x hx)
      obtain ⟨W2, hW2⟩ : ∃ W2, wr.alloc (.cells #[.int .i64 d.k, .string d.nm, .int .u16 d.v, .slice q1 d.body.length d1, .int .i64 d.p.1, .int .i64 d.p.2] 36) = W2 := ⟨_, rfl⟩
      have z1 : Below wr.heap.size wr W2 := by rw [← hW2]; exact (Below.refl _ _).alloc (Nat.le_refl _) _
      obtain ⟨bx, hbx⟩ : ∃ bx, bx = wr.heap.size := ⟨_, rfl⟩
      have v1 : W2.heap[bx]? = some (.cells (dfc d (.slice q1 d.body.length d1)).toArray 36 (0, 0)) := by rw [hbx, ← hW2]; exact heap_alloc_new wr _
      have hB2 : Below W.heap.size W W2 := hB.trans (z1.mono hB.size)
      have hmk : ∀ X : World, Below W2.heap.size W2 X → (fun wz : World => wz.cell? ⟨bx, 0, none⟩ = some (.int .i64 d.k) ∧ wz.cell? ⟨bx, 1, none⟩ = some (.string d.nm) ∧ wz.cell? ⟨bx, 2, none⟩ = some (.int .u16 d.v) ∧ wz.cell? ⟨bx, 3, none⟩ = some (.slice q1 d.body.length d1) ∧ wz.cell? ⟨bx, 4, none⟩ = some (.int .i64 d.p.1) ∧ wz.cell? ⟨bx, 5, none⟩ = some (.int .i64 d.p.2)) X := fun X hX => by
        have vx := (hX.block _ (S.lt_of v1)).trans v1
        exact ⟨S.cell_of X bx 0 _ 36 _ vx rfl, S.cell_of X bx 1 _ 36 _ vx rfl, S.cell_of X bx 2 _ 36 _ vx rfl, S.cell_of X bx 3 _ 36 _ vx rfl, S.cell_of X bx 4 _ 36 _ vx rfl, S.cell_of X bx 5 _ 36 _ vx rfl⟩
      have HMK := hid hmk
      have HL := hid (And.intro (hI.next z1) (And.intro (show ∀ i, O i → i < W2.heap.size from fun i hi => Nat.lt_of_lt_of_le (HH.out.1 i hi) hB2.size) (hn.below hB2 HH.out.1)))
      have HE := hid (And.intro ea (And.intro (ps_at ds k hlt hl) (And.intro (rms_at ds k d ea) (And.intro (plc_at ds k d ea) (pls_succ ds k d ea)))))
      have HBz0 := hid (Below.refl W2.heap.size W2).drew
      have HX := hid hbx
      have HW2 := hid hW2
      obtain ⟨o3, m3, c3, rfl⟩ := own_slice hI.row
      have HN : Hd (∀ g, Value.ownBlock (.slice o3 m3 c3) = some g → g < bx) := hid fun g hg => by rw [HX.out]; exact (World.ownsRow.lt hI.row g hg).2
      generalize hC : (rms ds k).2.1 = C at *
      generalize hR : (rms ds k).2.2 = R at *
      generalize hBd : wrap64 (db d) = B at *
      have HQ := hid (And.intro hC (And.intro hR hBd))
      have HNE : Hd (W.heap.size + 1 < bx) := hid (by rw [HX.out]; exact S.lt_of hI.b1)
      clear hmk hI hB hB2 v1 z1 hW2 hbx hc hn ea hC hR hBd
      go_upto_region 7 with fail
      rw [HW2.out, ← HX.out]
      go_cut [12] (fun s12 wc => ∃ gX, s12 = .pointer (some ⟨gX, 0, none⟩) ∧ PX W2 wc gX ([.string d.nm, .int .u16 (C % 65536), .int .i64 B, .int .u16 0]))
      case first =>
        refine wp_region_held_drew (S := (fun wz : World => wz.cell? ⟨bx, 0, none⟩ = some (.int .i64 d.k) ∧ wz.cell? ⟨bx, 1, none⟩ = some (.string d.nm) ∧ wz.cell? ⟨bx, 2, none⟩ = some (.int .u16 d.v) ∧ wz.cell? ⟨bx, 3, none⟩ = some (.slice q1 d.body.length d1) ∧ wz.cell? ⟨bx, 4, none⟩ = some (.int .i64 d.p.1) ∧ wz.cell? ⟨bx, 5, none⟩ = some (.int .i64 d.p.2))) (by kernel_rfl) (HMK.out _ HBz0.out) (fun hHeld => ?_)
        generalize W2.drew = z0 at *
        refine wpAnyH_take (i := 0) (v := ?_) rfl (by kernel_rfl) (by kernel_rfl) (by kernel_rfl) (fun c a w h => h) (Or.inl ⟨by rfl, ?_⟩) hHeld ?_
        rotate_left
        · (intro w hSw; (try dsimp only at hSw); go_simp; try with_reducible rfl)
        simp only [Act.put, List.getElem_toArray, List.getElem_cons_zero, List.getElem_cons_succ, List.setIfInBounds_toArray, List.set_cons_zero, List.set_cons_succ]
        refine wpAnyH_take (i := 1) (v := ?_) rfl (by kernel_rfl) (by kernel_rfl) (by kernel_rfl) (fun c a w h => h) (Or.inl ⟨by rfl, ?_⟩) hHeld ?_
        rotate_left
        · (intro w hSw; (try dsimp only at hSw); go_simp; try with_reducible rfl)
        simp only [Act.put, List.getElem_toArray, List.getElem_cons_zero, List.getElem_cons_succ, List.setIfInBounds_toArray, List.set_cons_zero, List.set_cons_succ]
        refine wpAnyH_take (i := 2) (v := ?_) rfl (by kernel_rfl) (by kernel_rfl) (by kernel_rfl) (fun c a w h => h) (Or.inl ⟨by rfl, ?_⟩) hHeld ?_
        rotate_left
        · (intro w hSw; (try dsimp only at hSw); go_simp; try with_reducible rfl)
        simp only [Act.put, List.getElem_toArray, List.getElem_cons_zero, List.getElem_cons_succ, List.setIfInBounds_toArray, List.set_cons_zero, List.set_cons_succ]
        refine wpAnyH_take (i := 3) (v := ?_) rfl (by kernel_rfl) (by kernel_rfl) (by kernel_rfl) (fun c a w h => h) (Or.inl ⟨by rfl, ?_⟩) hHeld ?_
        rotate_left
        · (intro w hSw; (try dsimp only at hSw); go_simp; try with_reducible rfl)
        simp only [Act.put, List.getElem_toArray, List.getElem_cons_zero, List.getElem_cons_succ, List.setIfInBounds_toArray, List.set_cons_zero, List.set_cons_succ]
        refine wpAnyH_take (i := 4) (v := ?_) rfl (by kernel_rfl) (by kernel_rfl) (by kernel_rfl) (fun c a w h => h) (Or.inl ⟨by rfl, ?_⟩) hHeld ?_
        rotate_left
        · (intro w hSw; (try dsimp only at hSw); go_simp; try with_reducible rfl)
        simp only [Act.put, List.getElem_toArray, List.getElem_cons_zero, List.getElem_cons_succ, List.setIfInBounds_toArray, List.set_cons_zero, List.set_cons_succ]
        refine wpAnyH_ready (rs := [5, 7]) (by kernel_rfl) (by simp) ?_
        refine AllReadyH.cons rfl (fun K hK => ?_) ?_
        · go_simp
          have hcall := rbytes_any d _ O z0 (fun i hi => Nat.lt_of_lt_of_le (HL.out.2.1 i hi) HBz0.out.size) (HL.out.2.2.below HBz0.out HL.out.2.1)
          unfold dfc at hcall
          rw [HQ.out.2.2] at hcall
          refine hcall.mono ?_
          rintro e z1 ⟨rfl, kk⟩
          have HBz1 := hid (HBz0.out.trans (kk.mono HBz0.out.size))
          refine hK.out _ _ (HMK.out _ HBz1.out) (fun hHeld => ?_)
          clear hK K kk hcall
          try simp only [Act.put, List.getElem_toArray, List.getElem_cons_zero, List.getElem_cons_succ, List.setIfInBounds_toArray, List.set_cons_zero, List.set_cons_succ]
          refine wpAnyH_take (i := 6) (v := ?_) rfl (by kernel_rfl) (by kernel_rfl) (by kernel_rfl) (fun c a w h => h) (Or.inl ⟨by rfl, ?_⟩) hHeld ?_
          rotate_left
          · (intro w hSw; (try dsimp only at hSw); go_simp; try with_reducible rfl)
          simp only [Act.put, List.getElem_toArray, List.getElem_cons_zero, List.getElem_cons_succ, List.setIfInBounds_toArray, List.set_cons_zero, List.set_cons_succ]
          refine wpAnyH_ready (rs := [7]) (by kernel_rfl) (by simp) ?_
          refine AllReadyH.cons rfl (fun K hK => ?_) AllReadyH.nil
          go_simp
          have kk : Below z1.heap.size z1 (z1.alloc (.cells #[.string ⟨#[]⟩, .int .u16 0, .int .i64 0, .int .u16 0] 66)) := (Below.refl _ _).alloc (Nat.le_refl _) _
          have hz : (z1.alloc (.cells #[.string ⟨#[]⟩, .int .u16 0, .int .i64 0, .int .u16 0] 66)).heap[z1.heap.size]? = some (.cells #[.string ⟨#[]⟩, .int .u16 0, .int .i64 0, .int .u16 0] 66 (0, 0)) := heap_alloc_new z1 _
          generalize z1.alloc (.cells #[.string ⟨#[]⟩, .int .u16 0, .int .i64 0, .int .u16 0] 66) = z2 at *
          obtain ⟨gX, hbn⟩ : ∃ bn, z1.heap.size = bn := ⟨_, rfl⟩
          have HBz2 := hid (HBz1.out.trans (kk.mono HBz1.out.size))
          have HZ := hid (And.intro (show z2.heap[gX]? = some (.cells #[.string ⟨#[]⟩, .int .u16 0, .int .i64 0, .int .u16 0] 66 (0, 0)) by rw [← hbn]; exact hz) (show W2.heap.size ≤ gX by rw [← hbn]; exact HBz1.out.size))
          rw [hbn]
          refine hK.out _ _ (HMK.out _ HBz2.out) (fun hHeld => ?_)
          clear hK K kk hz hbn
          try simp only [Act.put, List.getElem_toArray, List.getElem_cons_zero, List.getElem_cons_succ, List.setIfInBounds_toArray, List.set_cons_zero, List.set_cons_succ]
          refine wpAnyH_ready (rs := [8]) (by kernel_rfl) (by simp) ?_
          refine AllReadyH.cons rfl (fun K hK => ?_) AllReadyH.nil
          rw [if_pos (by rfl)]
          refine wp_store_row 66 _ _ rfl gX ([.string d.nm, .int .u16 (C % 65536), .int .i64 B, .int .u16 0]).toArray (by simp [Act.eval]) (by simp [Act.eval]; rfl) 66 #[.string ⟨#[]⟩, .int .u16 0, .int .i64 0, .int .u16 0] HZ.out.1 (by kernel_rfl) (by rfl) (by simp [Value.oneCell']) ?_
          have HP := hid (show PX W2 (z2.setRow gX ([.string d.nm, .int .u16 (C % 65536), .int .i64 B, .int .u16 0]).toArray) gX ([.string d.nm, .int .u16 (C % 65536), .int .i64 B, .int .u16 0]) from ⟨⟨HBz2.out.os, HBz2.out.tape, HBz2.out.output, by rw [size_setRow]; exact HBz2.out.size, fun i hi => (setRow_other _ gX i _ (by have := HZ.out.2; omega)).trans (HBz2.out.block i hi)⟩, HZ.out.2, setRow_heap _ gX _ _ _ _ HZ.out.1⟩)
          refine hK.out _ _ (HMK.out _ HP.out.bel) (fun hHeld => ?_)
          clear hK K hHeld
          try simp only [Act.put, List.getElem_toArray, List.getElem_cons_zero, List.getElem_cons_succ, List.setIfInBounds_toArray, List.set_cons_zero, List.set_cons_succ]
          refine wpAnyH_done (by kernel_rfl) ?_ _
          generalize z2.setRow gX ([.string d.nm, .int .u16 (C % 65536), .int .i64 B, .int .u16 0]).toArray = yz at *
          go_wp2
          go_meet
          case rel => exact ⟨gX, rfl, HP.out⟩
        refine AllReadyH.cons rfl (fun K hK => ?_) AllReadyH.nil
        go_simp
        have kk : Below z0.heap.size z0 (z0.alloc (.cells #[.string ⟨#[]⟩, .int .u16 0, .int .i64 0, .int .u16 0] 66)) := (Below.refl _ _).alloc (Nat.le_refl _) _
        have hz : (z0.alloc (.cells #[.string ⟨#[]⟩, .int .u16 0, .int .i64 0, .int .u16 0] 66)).heap[z0.heap.size]? = some (.cells #[.string ⟨#[]⟩, .int .u16 0, .int .i64 0, .int .u16 0] 66 (0, 0)) := heap_alloc_new z0 _
        generalize z0.alloc (.cells #[.string ⟨#[]⟩, .int .u16 0, .int .i64 0, .int .u16 0] 66) = z1 at *
        obtain ⟨gX, hbn⟩ : ∃ bn, z0.heap.size = bn := ⟨_, rfl⟩
        have HBz1 := hid (HBz0.out.trans (kk.mono HBz0.out.size))
        have HZ := hid (And.intro (show z1.heap[gX]? = some (.cells #[.string ⟨#[]⟩, .int .u16 0, .int .i64 0, .int .u16 0] 66 (0, 0)) by rw [← hbn]; exact hz) (show W2.heap.size ≤ gX by rw [← hbn]; exact HBz0.out.size))
        rw [hbn]
        refine hK.out _ _ (HMK.out _ HBz1.out) (fun hHeld => ?_)
        clear hK K kk hz hbn
        try simp only [Act.put, List.getElem_toArray, List.getElem_cons_zero, List.getElem_cons_succ, List.setIfInBounds_toArray, List.set_cons_zero, List.set_cons_succ]
        refine wpAnyH_ready (rs := [5]) (by kernel_rfl) (by simp) ?_
        refine AllReadyH.cons rfl (fun K hK => ?_) AllReadyH.nil
        go_simp
        have hcall := rbytes_any d _ O z1 (fun i hi => Nat.lt_of_lt_of_le (HL.out.2.1 i hi) HBz1.out.size) (HL.out.2.2.below HBz1.out HL.out.2.1)
        unfold dfc at hcall
        rw [HQ.out.2.2] at hcall
        refine hcall.mono ?_
        rintro e z2 ⟨rfl, kk⟩
        have HBz2 := hid (HBz1.out.trans (kk.mono HBz1.out.size))
        have HZ := hid (And.intro ((kk.block _ (S.lt_of HZ.out.1)).trans HZ.out.1) HZ.out.2)
        refine hK.out _ _ (HMK.out _ HBz2.out) (fun hHeld => ?_)
        clear hK K kk hcall
        try simp only [Act.put, List.getElem_toArray, List.getElem_cons_zero, List.getElem_cons_succ, List.setIfInBounds_toArray, List.set_cons_zero, List.set_cons_succ]
        refine wpAnyH_take (i := 6) (v := ?_) rfl (by kernel_rfl) (by kernel_rfl) (by kernel_rfl) (fun c a w h => h) (Or.inl ⟨by rfl, ?_⟩) hHeld ?_
        rotate_left
        · (intro w hSw; (try dsimp only at hSw); go_simp; try with_reducible rfl)
        simp only [Act.put, List.getElem_toArray, List.getElem_cons_zero, List.getElem_cons_succ, List.setIfInBounds_toArray, List.set_cons_zero, List.set_cons_succ]
        refine wpAnyH_ready (rs := [8]) (by kernel_rfl) (by simp) ?_
        refine AllReadyH.cons rfl (fun K hK => ?_) AllReadyH.nil
        rw [if_pos (by rfl)]
        refine wp_store_row 66 _ _ rfl gX ([.string d.nm, .int .u16 (C % 65536), .int .i64 B, .int .u16 0]).toArray (by simp [Act.eval]) (by simp [Act.eval]; rfl) 66 #[.string ⟨#[]⟩, .int .u16 0, .int .i64 0, .int .u16 0] HZ.out.1 (by kernel_rfl) (by rfl) (by simp [Value.oneCell']) ?_
        have HP := hid (show PX W2 (z2.setRow gX ([.string d.nm, .int .u16 (C % 65536), .int .i64 B, .int .u16 0]).toArray) gX ([.string d.nm, .int .u16 (C % 65536), .int .i64 B, .int .u16 0]) from ⟨⟨HBz2.out.os, HBz2.out.tape, HBz2.out.output, by rw [size_setRow]; exact HBz2.out.size, fun i hi => (setRow_other _ gX i _ (by have := HZ.out.2; omega)).trans (HBz2.out.block i hi)⟩, HZ.out.2, setRow_heap _ gX _ _ _ _ HZ.out.1⟩)
        refine hK.out _ _ (HMK.out _ HP.out.bel) (fun hHeld => ?_)
        clear hK K hHeld
        try simp only [Act.put, List.getElem_toArray, List.getElem_cons_zero, List.getElem_cons_succ, List.setIfInBounds_toArray, List.set_cons_zero, List.set_cons_succ]
        refine wpAnyH_done (by kernel_rfl) ?_ _
        generalize z2.setRow gX ([.string d.nm, .int .u16 (C % 65536), .int .i64 B, .int .u16 0]).toArray = yz at *
        go_wp2
        go_meet
        case rel => exact ⟨gX, rfl, HP.out⟩
      case rest =>
        obtain ⟨gX, rfl, hP⟩ := hcut
        have H3 := hid (HL.out.1.next hP.bel)
        obtain ⟨x0, x1, x2, x3, x4, x5⟩ := HMK.out _ hP.bel
        have p0 := S.cell_of wc gX 0 _ 66 _ hP.a rfl
        have p1 := S.cell_of wc gX 1 _ 66 _ hP.a rfl
        have p2 := S.cell_of wc gX 2 _ 66 _ hP.a rfl
        have p3 := S.cell_of wc gX 3 _ 66 _ hP.a rfl
        have f3 := S.frozen_of wc gX 3 _ 66 hP.a
        have HP := hid hP
        have lw2 : bx < W2.heap.size := World.block_lt_of_cell? W2 _ (HMK.out W2 (Below.refl _ _)).1
        clear hP y0 g0 g1 g2 g3 g4 g5
        obtain ⟨R', hR'⟩ : ∃ R', R' = (rms ds (k + 1)).2.2 := ⟨_, rfl⟩
        obtain ⟨C', hC'⟩ : ∃ C', C' = (rms ds (k + 1)).2.1 := ⟨_, rfl⟩
        have HR' := hid hR'
        have HC' := hid hC'
        clear hR' hC'
        go_upto_if 39 with fail
        go_cut [9] (fun s9 wx => s9 = .int .i64 R' ∧ PX W2 wx gX (plc (bt d (rms ds k) (rms ds (k + 1)))))
        case first =>
          by_cases hk3 : d.k = 3
          · rw [hk3] at x0
            go_wp2_with fail
            go_meet
            case rel =>
              refine ⟨?_, ?_⟩
              · rw [HR'.out, HE.out.2.2.1.2, w_ar]
                unfold dr
                rw [if_pos hk3]
              · rw [HE.out.2.2.2.1, if_pos hk3]
                refine ⟨⟨HP.out.bel.os, HP.out.bel.tape, HP.out.bel.output, by rw [S.setCell_size]; exact HP.out.bel.size, fun i hi => (S.setCell_other _ _ _ _ _ (by have := HP.out.ge; omega)).trans (HP.out.bel.block i hi)⟩, HP.out.ge, ?_⟩
                have e := S.setCell_heap _ gX 3 _ 66 (.int .u16 (IntKind.u16.wrap (wrap64 (32768 + R)))) HP.out.a
                have e2 : IntKind.u16.wrap (wrap64 (32768 + R)) = (32768 + R) % 65536 := w_u16 (32768 + R)
                rw [e2] at e ⊢
                exact e
          · have n3 : (d.k == 3) = false := by simpa using hk3
            go_wp2_with fail
            go_meet
            case rel =>
              refine ⟨?_, ?_⟩
              · rw [HR'.out, HE.out.2.2.1.2]
                unfold dr
                rw [if_neg hk3, Int.add_zero, ← HQ.out.2.1, w_in _ (rms_ri ds k).2.2]
              · rw [HE.out.2.2.2.1, if_neg hk3]
                exact HP.out
        case rest =>
          obtain ⟨rfl, hP2⟩ := hcut
          obtain ⟨x0, x1, x2, x3, x4, x5⟩ := HMK.out _ hP2.bel
          have hH := HL.out.1.next hP2.bel
          obtain ⟨P, hP⟩ : ∃ P, P = bt d (rms ds k) (rms ds (k + 1)) := ⟨_, rfl⟩
          rw [← hP] at hP2
          have p0 := S.cell_of wc gX 0 _ 66 _ hP2.a rfl
          have p1 := S.cell_of wc gX 1 _ 66 _ hP2.a rfl
          have p2 := S.cell_of wc gX 2 _ 66 _ hP2.a rfl
          have p3 := S.cell_of wc gX 3 _ 66 _ hP2.a rfl
          obtain ⟨y4, hy4⟩ : ∃ y4, wc.alloc (.cells #[.string P.nm, .int .u16 P.at_, .int .i64 P.sz, .int .u16 P.ram] 66) = y4 := ⟨_, rfl⟩
          have k4 : Below wc.heap.size wc y4 := by rw [← hy4]; exact (Below.refl _ _).alloc (Nat.le_refl _) _
          have v4 : y4.heap[wc.heap.size]? = some (.cells (plc P).toArray 66 (0, 0)) := by rw [← hy4]; exact heap_alloc_new wc _
          have hcs : S.Cs y4 (.slice (some ⟨wc.heap.size, 0, none⟩) 1 1) 4 1 (plc P) := .inr ⟨_, _, rfl, rfl, fun j u hj => by rw [Addr.add_lit, Nat.zero_add]; exact S.cell_of y4 _ j _ _ u v4 hj, plc_one _⟩
          have hH4 := hH.next k4
          have oR := hH4.row
          have hsz4 : W.heap.size + 2 ≤ y4.heap.size := by have := S.lt_of hH4.b1; omega
          have hbl : bx < y4.heap.size := by have := hP2.bel.size; have := k4.size; omega
          have HS4 := hid (HMK.out _ (hP2.bel.trans (k4.mono hP2.bel.size)))
          have HH4 := hid hH4
          have HY := hid hy4
          have HPP := hid hP
          have hCB : wrap64 (C + B) = C' := by rw [HC'.out, HE.out.2.2.1.1, ← HQ.out.2.2, w_ar]
          rw [hCB]
          have hle1 : C' ≤ 9223372036854775807 := by rw [← hCB]; exact w_hi _
          have hgrow : ∀ (v5 : Value) (w5 : World), w5.ownsRow (W.heap.size + 2) 66 4 v5 (k + 1) (S.en plc (pls ds k) ++ plc P) → S.Grew y4 w5 (.slice o3 m3 c3) v5 → (ps (rms ds (k + 1)) = 0 → RO W w5 (.slice (some ⟨b, o, none⟩) ds.length c2) (.slice bp bl bc) ds (k + 1) v5) ∧ Below W.heap.size W w5 ∧ w5.heap[W.heap.size + 1]? = some (.cells [.int .i64 0, .int .i64 0].toArray 25 (0, 0)) ∧ (fun wz : World => wz.cell? ⟨bx, 0, none⟩ = some (.int .i64 d.k) ∧ wz.cell? ⟨bx, 1, none⟩ = some (.string d.nm) ∧ wz.cell? ⟨bx, 2, none⟩ = some (.int .u16 d.v) ∧ wz.cell? ⟨bx, 3, none⟩ = some (.slice q1 d.body.length d1) ∧ wz.cell? ⟨bx, 4, none⟩ = some (.int .i64 d.p.1) ∧ wz.cell? ⟨bx, 5, none⟩ = some (.int .i64 d.p.2)) w5 := fun v5 w5 hr hg => by
            have hbe : Below (W.heap.size + 2) y4 w5 := hg.below (fun g hg => own_ge HH4.out.row g hg) hsz4
            have hbx5 : w5.heap[bx]? = y4.heap[bx]? := hg.block bx hbl (fun e => by have := HN.out bx e.symm; omega)
            refine ⟨fun h0 => ⟨HH4.out.bel.trans (hbe.mono (by omega)), (hbe.block _ (by omega)).trans HH4.out.b0, (hbe.block _ (by omega)).trans HH4.out.b1, fun j hj => ?_, ?_⟩, HH4.out.bel.trans (hbe.mono (by omega)), (hbe.block _ (by omega)).trans HH4.out.b1, ?_⟩
            · by_cases hjk : j = k
              · rw [hjk]; exact h0
              · exact HH4.out.fit j (by omega)
            · rw [HE.out.2.2.2.2, S.en_append, S.en_cons, S.en_nil, List.append_nil, ← HPP.out]; exact hr
            · have q : ∀ (j : Nat) (u : Value), y4.cell? ⟨bx, j, none⟩ = some u → w5.cell? ⟨bx, j, none⟩ = some u := fun j u h => (World.cell?_of_block (w := y4) (a := ⟨bx, j, none⟩) hbx5).trans h
              exact ⟨q _ _ HS4.out.1, q _ _ HS4.out.2.1, q _ _ HS4.out.2.2.1, q _ _ HS4.out.2.2.2.1, q _ _ HS4.out.2.2.2.2.1, q _ _ HS4.out.2.2.2.2.2⟩
          have HGW := hid hgrow
          have hpp : ps (rms ds (k + 1)) = if (512 : Int) < (k : Int) + 1 then 110 else if 16384 < C' then 111 else if 16384 < R' then 112 else 0 := by rw [HC'.out, HR'.out]; exact HE.out.2.1
          have HPS := hid hpp
          have HCB := hid hCB
          have HKK := hid hk
          clear hgrow hpp hH hH4 v4 k4 hy4 hP hP2 HMK HP H3 hCB
          by_cases h1 : (512 : Int) < (k : Int) + 1
          · have hpe : ps (rms ds (k + 1)) = 110 := by rw [HPS.out, if_pos h1]
            have HPE := hid hpe
            clear hpe
            go_upto_region 21 with (rw [HY.out]; refine S.wpList_append_row y4 rfl _ _ 46 66 _ 4 40 Try.underlying46 infoRp rfl (by decide) rfl (W.heap.size + 2) _ k (S.en plc (pls ds k)) rfl oR _ 1 _ rfl hcs (by unfold S.room; omega) (by unfold maxLen; omega) hsz4 (fun v5 w5 hr1 hg1 => ?_); have HG := hid (And.intro hr1 hg1); clear hr1 hg1)
            obtain ⟨_, hbw, hb1, hs5⟩ := HGW.out _ _ HG.out.1 HG.out.2
            have HBW := hid (And.intro hbw hb1)
            have HS5 := hid hs5
            clear hbw hb1 hs5 p0 p1 p2 p3 x0 x1 x2 x3 x4 x5
            refine wp_region_held_drew (S := (fun wz : World => wz.cell? ⟨bx, 0, none⟩ = some (.int .i64 d.k) ∧ wz.cell? ⟨bx, 1, none⟩ = some (.string d.nm) ∧ wz.cell? ⟨bx, 2, none⟩ = some (.int .u16 d.v) ∧ wz.cell? ⟨bx, 3, none⟩ = some (.slice q1 d.body.length d1) ∧ wz.cell? ⟨bx, 4, none⟩ = some (.int .i64 d.p.1) ∧ wz.cell? ⟨bx, 5, none⟩ = some (.int .i64 d.p.2))) (by kernel_rfl) HS5.out (fun hHeld => ?_)
            generalize hdr : w5.drew = z5 at *
            refine wpAnyH_take (i := 0) (v := ?_) rfl (by kernel_rfl) (by kernel_rfl) (by kernel_rfl) (fun c a w h => h) (Or.inl ⟨by rfl, ?_⟩) hHeld ?_
            rotate_left
            · (intro w hSw; (try dsimp only at hSw); go_simp; try with_reducible rfl)
            simp only [Act.put, List.getElem_toArray, List.getElem_cons_zero, List.getElem_cons_succ, List.setIfInBounds_toArray, List.set_cons_zero, List.set_cons_succ]
            refine wpAnyH_take (i := 1) (v := ?_) rfl (by kernel_rfl) (by kernel_rfl) (by kernel_rfl) (fun c a w h => h) (Or.inl ⟨by rfl, ?_⟩) hHeld ?_
            rotate_left
            · (intro w hSw; (try dsimp only at hSw); go_simp; try with_reducible rfl)
            simp only [Act.put, List.getElem_toArray, List.getElem_cons_zero, List.getElem_cons_succ, List.setIfInBounds_toArray, List.set_cons_zero, List.set_cons_succ]
            refine wpAnyH_take (i := 2) (v := ?_) rfl (by kernel_rfl) (by kernel_rfl) (by kernel_rfl) (fun c a w h => h) (Or.inl ⟨by rfl, ?_⟩) hHeld ?_
            rotate_left
            · (intro w hSw; (try dsimp only at hSw); go_simp; try with_reducible rfl)
            simp only [Act.put, List.getElem_toArray, List.getElem_cons_zero, List.getElem_cons_succ, List.setIfInBounds_toArray, List.set_cons_zero, List.set_cons_succ]
            refine wpAnyH_take (i := 3) (v := ?_) rfl (by kernel_rfl) (by kernel_rfl) (by kernel_rfl) (fun c a w h => h) (Or.inl ⟨by rfl, ?_⟩) hHeld ?_
            rotate_left
            · (intro w hSw; (try dsimp only at hSw); go_simp; try with_reducible rfl)
            simp only [Act.put, List.getElem_toArray, List.getElem_cons_zero, List.getElem_cons_succ, List.setIfInBounds_toArray, List.set_cons_zero, List.set_cons_succ]
            refine wpAnyH_take (i := 4) (v := ?_) rfl (by kernel_rfl) (by kernel_rfl) (by kernel_rfl) (fun c a w h => h) (Or.inl ⟨by rfl, ?_⟩) hHeld ?_
            rotate_left
            · (intro w hSw; (try dsimp only at hSw); go_simp; try with_reducible rfl)
            simp only [Act.put, List.getElem_toArray, List.getElem_cons_zero, List.getElem_cons_succ, List.setIfInBounds_toArray, List.set_cons_zero, List.set_cons_succ]
            refine wpAnyH_take (i := 5) (v := ?_) rfl (by kernel_rfl) (by kernel_rfl) (by kernel_rfl) (fun c a w h => h) (Or.inl ⟨by rfl, ?_⟩) hHeld ?_
            rotate_left
            · (intro w hSw; (try dsimp only at hSw); go_simp; try with_reducible rfl)
            simp only [Act.put, List.getElem_toArray, List.getElem_cons_zero, List.getElem_cons_succ, List.setIfInBounds_toArray, List.set_cons_zero, List.set_cons_succ]
            refine wpAnyH_ready (rs := [6]) (by kernel_rfl) (by simp) ?_
            refine AllReadyH.cons rfl (fun K hK => ?_) AllReadyH.nil
            rw [if_pos (by rfl)]
            have hb1' : z5.heap[W.heap.size + 1]? = some (.cells #[.int .i64 0, .int .i64 0] 25 (0, 0)) := by rw [← hdr]; exact HBW.out.2
            refine wp_store_row 25 _ _ rfl (W.heap.size + 1) #[.int .i64 d.p.1, .int .i64 d.p.2] (by simp [Act.eval]) (by simp [Act.eval]) 25 #[.int .i64 0, .int .i64 0] hb1' (by kernel_rfl) (by rfl) (by simp [Value.oneCell']) ?_
            have hne : bx ≠ W.heap.size + 1 := by have := HNE.out; omega
            have s9 : (fun wz : World => wz.cell? ⟨bx, 0, none⟩ = some (.int .i64 d.k) ∧ wz.cell? ⟨bx, 1, none⟩ = some (.string d.nm) ∧ wz.cell? ⟨bx, 2, none⟩ = some (.int .u16 d.v) ∧ wz.cell? ⟨bx, 3, none⟩ = some (.slice q1 d.body.length d1) ∧ wz.cell? ⟨bx, 4, none⟩ = some (.int .i64 d.p.1) ∧ wz.cell? ⟨bx, 5, none⟩ = some (.int .i64 d.p.2)) (z5.setRow (W.heap.size + 1) #[.int .i64 d.p.1, .int .i64 d.p.2]) := by
              have q : ∀ (j : Nat) (u : Value), z5.cell? ⟨bx, j, none⟩ = some u → (z5.setRow (W.heap.size + 1) #[.int .i64 d.p.1, .int .i64 d.p.2]).cell? ⟨bx, j, none⟩ = some u := fun j u h => (World.cell?_of_block (w := z5) (a := ⟨bx, j, none⟩) (setRow_other z5 _ bx _ hne)).trans h
              exact ⟨q _ _ hHeld.1, q _ _ hHeld.2.1, q _ _ hHeld.2.2.1, q _ _ hHeld.2.2.2.1, q _ _ hHeld.2.2.2.2.1, q _ _ hHeld.2.2.2.2.2⟩
            have hf : Below W.heap.size W (z5.setRow (W.heap.size + 1) #[.int .i64 d.p.1, .int .i64 d.p.2]) := by
              rw [← hdr]
              exact ⟨HBW.out.1.os, HBW.out.1.tape, HBW.out.1.output, by rw [size_setRow]; exact HBW.out.1.size, fun i hi => (setRow_other _ _ i _ (by omega)).trans (HBW.out.1.block i hi)⟩
            have hg := setRow_heap z5 (W.heap.size + 1) _ #[.int .i64 d.p.1, .int .i64 d.p.2] _ _ hb1'
            refine hK.out _ _ s9 (fun hHeld => ?_)
            clear hK K s9
            generalize z5.setRow (W.heap.size + 1) #[.int .i64 d.p.1, .int .i64 d.p.2] = z6 at *
            try simp only [Act.put, List.getElem_toArray, List.getElem_cons_zero, List.getElem_cons_succ, List.setIfInBounds_toArray, List.set_cons_zero, List.set_cons_succ]
            refine wpAnyH_take (i := 7) (v := ?_) rfl (by kernel_rfl) (by kernel_rfl) (by kernel_rfl) (fun c a w h => h) (Or.inl ⟨by rfl, ?_⟩) hHeld ?_
            rotate_left
            · (intro w hSw; (try dsimp only at hSw); go_simp; try with_reducible rfl)
            simp only [Act.put, List.getElem_toArray, List.getElem_cons_zero, List.getElem_cons_succ, List.setIfInBounds_toArray, List.set_cons_zero, List.set_cons_succ]
            refine wpAnyH_done (by kernel_rfl) ?_ _
            have e1 := S.cell_of z6 (W.heap.size + 1) 0 [.int .i64 d.p.1, .int .i64 d.p.2] 25 _ hg rfl
            have e2 := S.cell_of z6 (W.heap.size + 1) 1 [.int .i64 d.p.1, .int .i64 d.p.2] 25 _ hg rfl
            have HF := hid hf
            clear hHeld hg hf hb1' hdr
            go_wp2
            refine bodyPost_ret (v := .tuple #[.slice none 0 0, .int .i64 0, .int .i64 0, .agg #[.int .i64 d.p.1, .int .i64 d.p.2], .int .i64 110]) (by simp [results, Try.results12, go_sem, e1, e2]) rfl ⟨.inr ⟨k, d, HE.out.1, HH4.out.fit, by rw [HPE.out]; decide, by rw [HPE.out]⟩, HF.out⟩
          · by_cases h2 : 16384 < C'
            · have hpe : ps (rms ds (k + 1)) = 111 := by rw [HPS.out, if_neg h1, if_pos h2]
              have HPE := hid hpe
              clear hpe
              go_upto_region 21 with (rw [HY.out]; refine S.wpList_append_row y4 rfl _ _ 46 66 _ 4 40 Try.underlying46 infoRp rfl (by decide) rfl (W.heap.size + 2) _ k (S.en plc (pls ds k)) rfl oR _ 1 _ rfl hcs (by unfold S.room; omega) (by unfold maxLen; omega) hsz4 (fun v5 w5 hr1 hg1 => ?_); have HG := hid (And.intro hr1 hg1); clear hr1 hg1)
              obtain ⟨_, hbw, hb1, hs5⟩ := HGW.out _ _ HG.out.1 HG.out.2
              have HBW := hid (And.intro hbw hb1)
              have HS5 := hid hs5
              clear hbw hb1 hs5 p0 p1 p2 p3 x0 x1 x2 x3 x4 x5
              refine wp_region_held_drew (S := (fun wz : World => wz.cell? ⟨bx, 0, none⟩ = some (.int .i64 d.k) ∧ wz.cell? ⟨bx, 1, none⟩ = some (.string d.nm) ∧ wz.cell? ⟨bx, 2, none⟩ = some (.int .u16 d.v) ∧ wz.cell? ⟨bx, 3, none⟩ = some (.slice q1 d.body.length d1) ∧ wz.cell? ⟨bx, 4, none⟩ = some (.int .i64 d.p.1) ∧ wz.cell? ⟨bx, 5, none⟩ = some (.int .i64 d.p.2))) (by kernel_rfl) HS5.out (fun hHeld => ?_)
              generalize hdr : w5.drew = z5 at *
              refine wpAnyH_take (i := 0) (v := ?_) rfl (by kernel_rfl) (by kernel_rfl) (by kernel_rfl) (fun c a w h => h) (Or.inl ⟨by rfl, ?_⟩) hHeld ?_
              rotate_left
              · (intro w hSw; (try dsimp only at hSw); go_simp; try with_reducible rfl)
              simp only [Act.put, List.getElem_toArray, List.getElem_cons_zero, List.getElem_cons_succ, List.setIfInBounds_toArray, List.set_cons_zero, List.set_cons_succ]
              refine wpAnyH_take (i := 1) (v := ?_) rfl (by kernel_rfl) (by kernel_rfl) (by kernel_rfl) (fun c a w h => h) (Or.inl ⟨by rfl, ?_⟩) hHeld ?_
              rotate_left
              · (intro w hSw; (try dsimp only at hSw); go_simp; try with_reducible rfl)
              simp only [Act.put, List.getElem_toArray, List.getElem_cons_zero, List.getElem_cons_succ, List.setIfInBounds_toArray, List.set_cons_zero, List.set_cons_succ]
              refine wpAnyH_take (i := 2) (v := ?_) rfl (by kernel_rfl) (by kernel_rfl) (by kernel_rfl) (fun c a w h => h) (Or.inl ⟨by rfl, ?_⟩) hHeld ?_
              rotate_left
              · (intro w hSw; (try dsimp only at hSw); go_simp; try with_reducible rfl)
              simp only [Act.put, List.getElem_toArray, List.getElem_cons_zero, List.getElem_cons_succ, List.setIfInBounds_toArray, List.set_cons_zero, List.set_cons_succ]
              refine wpAnyH_take (i := 3) (v := ?_) rfl (by kernel_rfl) (by kernel_rfl) (by kernel_rfl) (fun c a w h => h) (Or.inl ⟨by rfl, ?_⟩) hHeld ?_
              rotate_left
              · (intro w hSw; (try dsimp only at hSw); go_simp; try with_reducible rfl)
              simp only [Act.put, List.getElem_toArray, List.getElem_cons_zero, List.getElem_cons_succ, List.setIfInBounds_toArray, List.set_cons_zero, List.set_cons_succ]
              refine wpAnyH_take (i := 4) (v := ?_) rfl (by kernel_rfl) (by kernel_rfl) (by kernel_rfl) (fun c a w h => h) (Or.inl ⟨by rfl, ?_⟩) hHeld ?_
              rotate_left
              · (intro w hSw; (try dsimp only at hSw); go_simp; try with_reducible rfl)
              simp only [Act.put, List.getElem_toArray, List.getElem_cons_zero, List.getElem_cons_succ, List.setIfInBounds_toArray, List.set_cons_zero, List.set_cons_succ]
              refine wpAnyH_take (i := 5) (v := ?_) rfl (by kernel_rfl) (by kernel_rfl) (by kernel_rfl) (fun c a w h => h) (Or.inl ⟨by rfl, ?_⟩) hHeld ?_
              rotate_left
              · (intro w hSw; (try dsimp only at hSw); go_simp; try with_reducible rfl)
              simp only [Act.put, List.getElem_toArray, List.getElem_cons_zero, List.getElem_cons_succ, List.setIfInBounds_toArray, List.set_cons_zero, List.set_cons_succ]
              refine wpAnyH_ready (rs := [6]) (by kernel_rfl) (by simp) ?_
              refine AllReadyH.cons rfl (fun K hK => ?_) AllReadyH.nil
              rw [if_pos (by rfl)]
              have hb1' : z5.heap[W.heap.size + 1]? = some (.cells #[.int .i64 0, .int .i64 0] 25 (0, 0)) := by rw [← hdr]; exact HBW.out.2
              refine wp_store_row 25 _ _ rfl (W.heap.size + 1) #[.int .i64 d.p.1, .int .i64 d.p.2] (by simp [Act.eval]) (by simp [Act.eval]) 25 #[.int .i64 0, .int .i64 0] hb1' (by kernel_rfl) (by rfl) (by simp [Value.oneCell']) ?_
              have hne : bx ≠ W.heap.size + 1 := by have := HNE.out; omega
              have s9 : (fun wz : World => wz.cell? ⟨bx, 0, none⟩ = some (.int .i64 d.k) ∧ wz.cell? ⟨bx, 1, none⟩ = some (.string d.nm) ∧ wz.cell? ⟨bx, 2, none⟩ = some (.int .u16 d.v) ∧ wz.cell? ⟨bx, 3, none⟩ = some (.slice q1 d.body.length d1) ∧ wz.cell? ⟨bx, 4, none⟩ = some (.int .i64 d.p.1) ∧ wz.cell? ⟨bx, 5, none⟩ = some (.int .i64 d.p.2)) (z5.setRow (W.heap.size + 1) #[.int .i64 d.p.1, .int .i64 d.p.2]) := by
                have q : ∀ (j : Nat) (u : Value), z5.cell? ⟨bx, j, none⟩ = some u → (z5.setRow (W.heap.size + 1) #[.int .i64 d.p.1, .int .i64 d.p.2]).cell? ⟨bx, j, none⟩ = some u := fun j u h => (World.cell?_of_block (w := z5) (a := ⟨bx, j, none⟩) (setRow_other z5 _ bx _ hne)).trans h
                exact ⟨q _ _ hHeld.1, q _ _ hHeld.2.1, q _ _ hHeld.2.2.1, q _ _ hHeld.2.2.2.1, q _ _ hHeld.2.2.2.2.1, q _ _ hHeld.2.2.2.2.2⟩
              have hf : Below W.heap.size W (z5.setRow (W.heap.size + 1) #[.int .i64 d.p.1, .int .i64 d.p.2]) := by
                rw [← hdr]
                exact ⟨HBW.out.1.os, HBW.out.1.tape, HBW.out.1.output, by rw [size_setRow]; exact HBW.out.1.size, fun i hi => (setRow_other _ _ i _ (by omega)).trans (HBW.out.1.block i hi)⟩
              have hg := setRow_heap z5 (W.heap.size + 1) _ #[.int .i64 d.p.1, .int .i64 d.p.2] _ _ hb1'
              refine hK.out _ _ s9 (fun hHeld => ?_)
              clear hK K s9
              generalize z5.setRow (W.heap.size + 1) #[.int .i64 d.p.1, .int .i64 d.p.2] = z6 at *
              try simp only [Act.put, List.getElem_toArray, List.getElem_cons_zero, List.getElem_cons_succ, List.setIfInBounds_toArray, List.set_cons_zero, List.set_cons_succ]
              refine wpAnyH_take (i := 7) (v := ?_) rfl (by kernel_rfl) (by kernel_rfl) (by kernel_rfl) (fun c a w h => h) (Or.inl ⟨by rfl, ?_⟩) hHeld ?_
              rotate_left
              · (intro w hSw; (try dsimp only at hSw); go_simp; try with_reducible rfl)
              simp only [Act.put, List.getElem_toArray, List.getElem_cons_zero, List.getElem_cons_succ, List.setIfInBounds_toArray, List.set_cons_zero, List.set_cons_succ]
              refine wpAnyH_done (by kernel_rfl) ?_ _
              have e1 := S.cell_of z6 (W.heap.size + 1) 0 [.int .i64 d.p.1, .int .i64 d.p.2] 25 _ hg rfl
              have e2 := S.cell_of z6 (W.heap.size + 1) 1 [.int .i64 d.p.1, .int .i64 d.p.2] 25 _ hg rfl
              have HF := hid hf
              clear hHeld hg hf hb1' hdr
              go_wp2
              refine bodyPost_ret (v := .tuple #[.slice none 0 0, .int .i64 0, .int .i64 0, .agg #[.int .i64 d.p.1, .int .i64 d.p.2], .int .i64 111]) (by simp [results, Try.results12, go_sem, e1, e2]) rfl ⟨.inr ⟨k, d, HE.out.1, HH4.out.fit, by rw [HPE.out]; decide, by rw [HPE.out]⟩, HF.out⟩
            · by_cases h3 : 16384 < R'
              · have hpe : ps (rms ds (k + 1)) = 112 := by rw [HPS.out, if_neg h1, if_neg h2, if_pos h3]
                have HPE := hid hpe
                clear hpe
                go_upto_region 21 with (rw [HY.out]; refine S.wpList_append_row y4 rfl _ _ 46 66 _ 4 40 Try.underlying46 infoRp rfl (by decide) rfl (W.heap.size + 2) _ k (S.en plc (pls ds k)) rfl oR _ 1 _ rfl hcs (by unfold S.room; omega) (by unfold maxLen; omega) hsz4 (fun v5 w5 hr1 hg1 => ?_); have HG := hid (And.intro hr1 hg1); clear hr1 hg1)
                obtain ⟨_, hbw, hb1, hs5⟩ := HGW.out _ _ HG.out.1 HG.out.2
                have HBW := hid (And.intro hbw hb1)
                have HS5 := hid hs5
                clear hbw hb1 hs5 p0 p1 p2 p3 x0 x1 x2 x3 x4 x5
                refine wp_region_held_drew (S := (fun wz : World => wz.cell? ⟨bx, 0, none⟩ = some (.int .i64 d.k) ∧ wz.cell? ⟨bx, 1, none⟩ = some (.string d.nm) ∧ wz.cell? ⟨bx, 2, none⟩ = some (.int .u16 d.v) ∧ wz.cell? ⟨bx, 3, none⟩ = some (.slice q1 d.body.length d1) ∧ wz.cell? ⟨bx, 4, none⟩ = some (.int .i64 d.p.1) ∧ wz.cell? ⟨bx, 5, none⟩ = some (.int .i64 d.p.2))) (by kernel_rfl) HS5.out (fun hHeld => ?_)
                generalize hdr : w5.drew = z5 at *
                refine wpAnyH_take (i := 0) (v := ?_) rfl (by kernel_rfl) (by kernel_rfl) (by kernel_rfl) (fun c a w h => h) (Or.inl ⟨by rfl, ?_⟩) hHeld ?_
                rotate_left
                · (intro w hSw; (try dsimp only at hSw); go_simp; try with_reducible rfl)
                simp only [Act.put, List.getElem_toArray, List.getElem_cons_zero, List.getElem_cons_succ, List.setIfInBounds_toArray, List.set_cons_zero, List.set_cons_succ]
                refine wpAnyH_take (i := 1) (v := ?_) rfl (by kernel_rfl) (by kernel_rfl) (by kernel_rfl) (fun c a w h => h) (Or.inl ⟨by rfl, ?_⟩) hHeld ?_
                rotate_left
                · (intro w hSw; (try dsimp only at hSw); go_simp; try with_reducible rfl)
                simp only [Act.put, List.getElem_toArray, List.getElem_cons_zero, List.getElem_cons_succ, List.setIfInBounds_toArray, List.set_cons_zero, List.set_cons_succ]
                refine wpAnyH_take (i := 2) (v := ?_) rfl (by kernel_rfl) (by kernel_rfl) (by kernel_rfl) (fun c a w h => h) (Or.inl ⟨by rfl, ?_⟩) hHeld ?_
                rotate_left
                · (intro w hSw; (try dsimp only at hSw); go_simp; try with_reducible rfl)
                simp only [Act.put, List.getElem_toArray, List.getElem_cons_zero, List.getElem_cons_succ, List.setIfInBounds_toArray, List.set_cons_zero, List.set_cons_succ]
                refine wpAnyH_take (i := 3) (v := ?_) rfl (by kernel_rfl) (by kernel_rfl) (by kernel_rfl) (fun c a w h => h) (Or.inl ⟨by rfl, ?_⟩) hHeld ?_
                rotate_left
                · (intro w hSw; (try dsimp only at hSw); go_simp; try with_reducible rfl)
                simp only [Act.put, List.getElem_toArray, List.getElem_cons_zero, List.getElem_cons_succ, List.setIfInBounds_toArray, List.set_cons_zero, List.set_cons_succ]
                refine wpAnyH_take (i := 4) (v := ?_) rfl (by kernel_rfl) (by kernel_rfl) (by kernel_rfl) (fun c a w h => h) (Or.inl ⟨by rfl, ?_⟩) hHeld ?_
                rotate_left
                · (intro w hSw; (try dsimp only at hSw); go_simp; try with_reducible rfl)
                simp only [Act.put, List.getElem_toArray, List.getElem_cons_zero, List.getElem_cons_succ, List.setIfInBounds_toArray, List.set_cons_zero, List.set_cons_succ]
                refine wpAnyH_take (i := 5) (v := ?_) rfl (by kernel_rfl) (by kernel_rfl) (by kernel_rfl) (fun c a w h => h) (Or.inl ⟨by rfl, ?_⟩) hHeld ?_
                rotate_left
                · (intro w hSw; (try dsimp only at hSw); go_simp; try with_reducible rfl)
                simp only [Act.put, List.getElem_toArray, List.getElem_cons_zero, List.getElem_cons_succ, List.setIfInBounds_toArray, List.set_cons_zero, List.set_cons_succ]
                refine wpAnyH_ready (rs := [6]) (by kernel_rfl) (by simp) ?_
                refine AllReadyH.cons rfl (fun K hK => ?_) AllReadyH.nil
                rw [if_pos (by rfl)]
                have hb1' : z5.heap[W.heap.size + 1]? = some (.cells #[.int .i64 0, .int .i64 0] 25 (0, 0)) := by rw [← hdr]; exact HBW.out.2
                refine wp_store_row 25 _ _ rfl (W.heap.size + 1) #[.int .i64 d.p.1, .int .i64 d.p.2] (by simp [Act.eval]) (by simp [Act.eval]) 25 #[.int .i64 0, .int .i64 0] hb1' (by kernel_rfl) (by rfl) (by simp [Value.oneCell']) ?_
                have hne : bx ≠ W.heap.size + 1 := by have := HNE.out; omega
                have s9 : (fun wz : World => wz.cell? ⟨bx, 0, none⟩ = some (.int .i64 d.k) ∧ wz.cell? ⟨bx, 1, none⟩ = some (.string d.nm) ∧ wz.cell? ⟨bx, 2, none⟩ = some (.int .u16 d.v) ∧ wz.cell? ⟨bx, 3, none⟩ = some (.slice q1 d.body.length d1) ∧ wz.cell? ⟨bx, 4, none⟩ = some (.int .i64 d.p.1) ∧ wz.cell? ⟨bx, 5, none⟩ = some (.int .i64 d.p.2)) (z5.setRow (W.heap.size + 1) #[.int .i64 d.p.1, .int .i64 d.p.2]) := by
                  have q : ∀ (j : Nat) (u : Value), z5.cell? ⟨bx, j, none⟩ = some u → (z5.setRow (W.heap.size + 1) #[.int .i64 d.p.1, .int .i64 d.p.2]).cell? ⟨bx, j, none⟩ = some u := fun j u h => (World.cell?_of_block (w := z5) (a := ⟨bx, j, none⟩) (setRow_other z5 _ bx _ hne)).trans h
                  exact ⟨q _ _ hHeld.1, q _ _ hHeld.2.1, q _ _ hHeld.2.2.1, q _ _ hHeld.2.2.2.1, q _ _ hHeld.2.2.2.2.1, q _ _ hHeld.2.2.2.2.2⟩
                have hf : Below W.heap.size W (z5.setRow (W.heap.size + 1) #[.int .i64 d.p.1, .int .i64 d.p.2]) := by
                  rw [← hdr]
                  exact ⟨HBW.out.1.os, HBW.out.1.tape, HBW.out.1.output, by rw [size_setRow]; exact HBW.out.1.size, fun i hi => (setRow_other _ _ i _ (by omega)).trans (HBW.out.1.block i hi)⟩
                have hg := setRow_heap z5 (W.heap.size + 1) _ #[.int .i64 d.p.1, .int .i64 d.p.2] _ _ hb1'
                refine hK.out _ _ s9 (fun hHeld => ?_)
                clear hK K s9
                generalize z5.setRow (W.heap.size + 1) #[.int .i64 d.p.1, .int .i64 d.p.2] = z6 at *
                try simp only [Act.put, List.getElem_toArray, List.getElem_cons_zero, List.getElem_cons_succ, List.setIfInBounds_toArray, List.set_cons_zero, List.set_cons_succ]
                refine wpAnyH_take (i := 7) (v := ?_) rfl (by kernel_rfl) (by kernel_rfl) (by kernel_rfl) (fun c a w h => h) (Or.inl ⟨by rfl, ?_⟩) hHeld ?_
                rotate_left
                · (intro w hSw; (try dsimp only at hSw); go_simp; try with_reducible rfl)
                simp only [Act.put, List.getElem_toArray, List.getElem_cons_zero, List.getElem_cons_succ, List.setIfInBounds_toArray, List.set_cons_zero, List.set_cons_succ]
                refine wpAnyH_done (by kernel_rfl) ?_ _
                have e1 := S.cell_of z6 (W.heap.size + 1) 0 [.int .i64 d.p.1, .int .i64 d.p.2] 25 _ hg rfl
                have e2 := S.cell_of z6 (W.heap.size + 1) 1 [.int .i64 d.p.1, .int .i64 d.p.2] 25 _ hg rfl
                have HF := hid hf
                clear hHeld hg hf hb1' hdr
                go_wp2
                refine bodyPost_ret (v := .tuple #[.slice none 0 0, .int .i64 0, .int .i64 0, .agg #[.int .i64 d.p.1, .int .i64 d.p.2], .int .i64 112]) (by simp [results, Try.results12, go_sem, e1, e2]) rfl ⟨.inr ⟨k, d, HE.out.1, HH4.out.fit, by rw [HPE.out]; decide, by rw [HPE.out]⟩, HF.out⟩
              · have hpe : ps (rms ds (k + 1)) = 0 := by rw [HPS.out, if_neg h1, if_neg h2, if_neg h3]
                have HPE := hid hpe
                clear hpe
                go_wp2_with (rw [HY.out]; refine S.wpList_append_row y4 rfl _ _ 46 66 _ 4 40 Try.underlying46 infoRp rfl (by decide) rfl (W.heap.size + 2) _ k (S.en plc (pls ds k)) rfl oR _ 1 _ rfl hcs (by unfold S.room; omega) (by unfold maxLen; omega) hsz4 (fun v5 w5 hr1 hg1 => ?_); have HG := hid (And.intro hr1 hg1); clear hr1 hg1)
                go_roundw
                case rel => exact ⟨k + 1, by omega, by go_num, by rw [HC'.out], by rw [HR'.out], (HGW.out _ _ HG.out.1 HG.out.2).1 HPE.out⟩
                case measure => simp [intOf]; omega
    · have i1 : ¬ (k : Int) < ds.length := by omega
      obtain rfl : k = ds.length := by omega
      obtain ⟨o3, m3, c3, rfl⟩ := own_slice hI.row
      have hb1 := hI.b1
      have HI := hid hI
      clear hI
      go_wp2_with (refine wpList_store_row rfl 25 _ _ rfl (W.heap.size + 1) #[.int .i64 0, .int .i64 0] rfl rfl 25 #[.int .i64 0, .int .i64 0] hb1 (by kernel_rfl) (by rfl) (by simp [Value.oneCell']) ?_)
      have hg := setRow_heap wr (W.heap.size + 1) _ #[.int .i64 0, .int .i64 0] _ _ hb1
      have hbf : Below (W.heap.size + 1) wr (wr.setRow (W.heap.size + 1) #[.int .i64 0, .int .i64 0]) := ⟨rfl, rfl, rfl, by rw [size_setRow]; exact Nat.le_refl _, fun i hi => setRow_other _ _ i _ (by omega)⟩
      have hof : ∀ i, i ≠ W.heap.size + 1 → (wr.setRow (W.heap.size + 1) #[.int .i64 0, .int .i64 0]).heap[i]? = wr.heap[i]? := fun i hi => setRow_other _ _ i _ hi
      generalize wr.setRow (W.heap.size + 1) #[.int .i64 0, .int .i64 0] = z6 at *
      have e1 := S.cell_of z6 (W.heap.size + 1) 0 [.int .i64 0, .int .i64 0] 25 _ hg rfl
      have e2 := S.cell_of z6 (W.heap.size + 1) 1 [.int .i64 0, .int .i64 0] 25 _ hg rfl
      refine bodyPost_ret (v := .tuple #[.slice o3 m3 c3, .int .i64 (rms ds ds.length).2.1, .int .i64 (rms ds ds.length).2.2, .agg #[.int .i64 0, .int .i64 0], .int .i64 0]) (by simp [results, Try.results12, go_sem, e1, e2]) rfl ⟨.inl ⟨_, HI.out.fit, rfl, ?_⟩, HI.out.bel.trans (hbf.mono (by omega))⟩
      refine S.own_mono (S.own_kept HI.out.row fun g hg hlt => ?_) (by omega : W.heap.size ≤ W.heap.size + 2)
      have := own_ge HI.out.row g hg
      exact hof g (by omega)
end Go.Proofs.Yteeanomkbclinaa.Y
