import Derived.Test.YtoemoiehjdmheaaGreatZNmp
import Derived.Test.YtoemoiehjdmheaaGreatYSize
namespace Go.Proofs.YtoemoiehjdmheaaGreat.Z
open Go.RowKit
open Go.Proofs
open Go.ChangeMaps (setBlock)
open Go.Proofs.YtoemoiehjdmheaaGreat.Y (Nd Df Ps Pl hid ZV ndc NV N1 nl DV D1 dfc cells6)
set_option linter.unusedVariables false
set_option linter.unusedSimpArgs false
set_option maxHeartbeats 4000000
set_option maxRecDepth 100000
def zD : Df := ⟨0, ⟨#[]⟩, 0, [], z2⟩
def zQ : Pl := ⟨⟨#[]⟩, 0, 0, 0⟩
def evk (ds : List Df) (qs : List Pl) : Nat -> Ev
  | 0 => []
  | k + 1 => nme (evk ds qs k) ((ds[k]?).getD zD) ((qs[k]?).getD zQ)
theorem evk_succ (ds : List Df) (qs : List Pl) (k : Nat) (d : Df) (q : Pl) (h : ds[k]? = some d) (h2 : qs[k]? = some q) : evk ds qs (k + 1) = nme (evk ds qs k) d q := by rw [evk, h, h2]; rfl
def PLV (W : World) (O : Nat -> Prop) (v : Value) (qs : List Pl) : Prop := ∃ p c, v = .slice p qs.length c /\ ∀ (i : Nat) (q : Pl), qs[i]? = some q -> ∃ b o, p = some ⟨b, o, none⟩ /\ O b /\ W.cell? ⟨b, o + i * 4 + 3, none⟩ = some (.int .u16 q.ram)
structure NL (W wr : World) (ds : List Df) (qs : List Pl) (k : Nat) : Prop where
  bel : Below W.heap.size W wr
  ex : ∃ (U : Nat -> Prop) (L : Ez), (∀ i, U i -> W.heap.size < i /\ i < wr.heap.size) /\ MP wr W.heap.size L /\ EvR wr U (evk ds qs k) L
theorem NL.next {W w' : World} {ds : List Df} {qs : List Pl} {k : Nat} {d : Df} {q : Pl} (hb : Below W.heap.size W w') (hd : ds[k]? = some d) (hq : qs[k]? = some q) (U : Nat -> Prop) (E' : Ev) (L : Ez) (he : nme (evk ds qs k) d q = E') (hU : ∀ i, U i -> W.heap.size < i /\ i < w'.heap.size) (hM : MP w' W.heap.size L) (hE : EvR w' U E' L) : NL W w' ds qs (k + 1) :=
  ⟨hb, U, L, hU, hM, by rw [evk_succ ds qs k d q hd hq, he]; exact hE⟩
theorem boxW (w : World) (a b c : Value) (t : TypeId) : (w.alloc (.cells #[a, b, c] t)).heap[w.heap.size]? = some (.cells [a, b, c].toArray t (0, 0)) := heap_alloc_new w _
theorem run_mk (w : World) : (Instr.makeMap 98 none).run Tryz.prog w = .ok (.map (some w.heap.size)) (w.alloc (.map #[] 0)) := by
  simp [Instr.makeMap, run_underlying Tryz.underlying98]
theorem names_of (ds : List Df) (qs : List Pl) (dv pv : Value) (O1 O2 : Nat -> Prop) (W : World) (hO1 : ∀ i, O1 i -> i < W.heap.size) (hO2 : ∀ i, O2 i -> i < W.heap.size) (hD : DV W O1 dv ds) (hP : PLV W O2 pv qs) (hlen : qs.length = ds.length) (hnl : ∀ d ∈ ds, nl d.body <= 1048576) :
    Calls Tryz.prog 34 #[dv, pv] W fun e w' => ∃ (U : Nat -> Prop) (L : Ez), e = .returned (.map (some W.heap.size)) /\ MP w' W.heap.size L /\ EvR w' U (evk ds qs ds.length) L /\ (∀ i, U i -> W.heap.size < i /\ i < w'.heap.size) /\ Below W.heap.size W w' := by
  obtain ⟨p, c, rfl, hl, hp⟩ := hD
  obtain ⟨p2, c2, rfl, hp2⟩ := hP
  rw [hlen]
  have hmk := run_mk
  have h0 : NL W (W.alloc (.map #[] 0)) ds qs 0 := ⟨(Below.refl _ _).alloc (Nat.le_refl _) _, fun _ => False, [], fun _ h => h.elim, MP.made W, trivial⟩
  have H0 := hid h0
  have HD := hid (And.intro hO1 (And.intro hO2 (And.intro hp (And.intro hp2 (And.intro hlen hnl)))))
  clear h0 hO1 hO2 hp hp2 hlen hnl
  go_enter Tryz.func34, Tryz.ntmps34
  go_wp2_with fail
  clear hmk
  go_loopw [11] (fun i wr => ∃ k : Nat, k <= ds.length /\ i = .int .i64 (k : Int) /\ NL W wr ds qs k) (fun i _ => ds.length - (intOf i).toNat)
  case atStart => exact ⟨0, by omega, rfl, H0.out⟩
  case round =>
    obtain ⟨k, hk, rfl, hL⟩ := hrel
    by_cases hlt : k < ds.length
    case neg =>
      obtain rfl : k = ds.length := by omega
      have i1 : ¬ (ds.length : Int) < ds.length := by omega
      obtain ⟨U, L, hU, hM, hE⟩ := hL.ex
      have HF := hid (show MP wr W.heap.size L /\ EvR wr U (evk ds qs ds.length) L /\ (∀ i, U i -> W.heap.size < i /\ i < wr.heap.size) /\ Below W.heap.size W wr from ⟨hM, hE, hU, hL.bel⟩)
      clear hU hM hE hL H0
      go_wp2
      go_ret
      first | exact ⟨U, L, rfl, HF.out⟩ | exact ⟨rfl, U, L, HF.out⟩
    case pos =>
      have i1 : (k : Int) < ds.length := by omega
      have ea := List.getElem?_eq_getElem hlt
      have hnd := HD.out.2.2.2.2.2 ds[k] (List.getElem_mem _)
      generalize ds[k] = d at *
      obtain ⟨q, hq⟩ : ∃ q, qs[k]? = some q := ⟨_, List.getElem?_eq_getElem (by rw [HD.out.2.2.2.2.1]; exact hlt)⟩
      obtain ⟨b, o, rfl, hOb, hdd⟩ := HD.out.2.2.1 k d ea
      obtain ⟨bv, hc, hN⟩ := hdd
      obtain ⟨q1, d1, rfl, _, _⟩ := hN.ex
      have hB := hL.bel
      have k1 := hB.block b (HD.out.1 b hOb)
      obtain ⟨g0, g1, g2, g3, g4, g5⟩ := cells6 fun j x hx => (World.cell?_of_block (w := W) (a := ⟨b, o + k * 6 + j, none⟩) k1).trans (hc j x hx)
      obtain ⟨bx, hbx⟩ : ∃ bx, wr.heap.size = bx := ⟨_, rfl⟩
      have HX := hid hbx
      have hbmx : W.heap.size < bx := by obtain ⟨U, L, _, hM, _⟩ := hL.ex; rw [<- hbx]; exact hM.lt
      have HL := hid (And.intro hL (And.intro hN (And.intro hnd (And.intro ea hq))))
      clear hL hN hc k1 ea hnd hB hOb H0
      obtain ⟨nk, nnm, nv, nbody, np⟩ := d
      obtain ⟨np1, np2⟩ := np
      simp only at g0 g1 g2 g3 g4 g5 HL
      generalize htn : nbody.length = tn at *
      have HTN := hid htn
      clear htn
      obtain ⟨W1, hW1⟩ : ∃ W1, wr.alloc (.cells #[.int .i64 nk, .string nnm, .int .u16 nv, .slice q1 tn d1, .int .i64 np1, .int .i64 np2] 60) = W1 := ⟨_, rfl⟩
      have u1 : W1.heap[bx]? = some (.cells [.int .i64 nk, .string nnm, .int .u16 nv, .slice q1 tn d1, .int .i64 np1, .int .i64 np2].toArray 60 (0, 0)) := by rw [<- hW1, <- hbx]; exact heap_alloc_new wr _
      have hb0 : Below bx wr W1 := by rw [<- hW1, <- hbx]; exact (Below.refl _ _).alloc (Nat.le_refl _) _
      have hs0 : bx < W1.heap.size := S.lt_of u1
      have x0 := S.cell_of W1 _ 0 _ 60 _ u1 rfl
      have x1 := S.cell_of W1 _ 1 _ 60 _ u1 rfl
      have x2 := S.cell_of W1 _ 2 _ 60 _ u1 rfl
      have HW1 := hid hW1
      have HB0 := hid (And.intro hb0 (And.intro hs0 u1))
      clear hW1 hbx hb0 hs0 u1
      by_cases h1 : nk = 1
      · subst h1
        go_upto_region 7 with fail
        rw [HW1.out, HX.out]
        clear g0 g1 g2 g3 g4 g5 x0 x1 x2
        have hH0 : W1.drew.heap[bx]? = some (.cells [.int .i64 1, .string nnm, .int .u16 nv, .slice q1 tn d1, .int .i64 np1, .int .i64 np2].toArray 60 (0, 0)) := HB0.out.2.2
        refine wp_region_held_drew (S := fun wz : World => wz.heap[bx]? = some (.cells [.int .i64 1, .string nnm, .int .u16 nv, .slice q1 tn d1, .int .i64 np1, .int .i64 np2].toArray 60 (0, 0))) (by kernel_rfl) hH0 (fun hHeld => ?_)
        clear hH0
        have HB1 := hid (show Below bx wr W1.drew /\ bx < W1.drew.heap.size from ⟨HB0.out.1.drew, HB0.out.2.1⟩)
        generalize W1.drew = y0 at *
        refine wpAnyH_take (i := 0) (v := ?_) rfl (by kernel_rfl) (by kernel_rfl) (by kernel_rfl) (fun c a w h => h) (Or.inl ⟨by rfl, ?_⟩) hHeld ?_
        rotate_left
        · (intro w hSw; have q0_ := S.cell_of w _ 0 _ 60 _ hSw rfl; have q1_ := S.cell_of w _ 1 _ 60 _ hSw rfl; have q2_ := S.cell_of w _ 2 _ 60 _ hSw rfl; have q3_ := S.cell_of w _ 3 _ 60 _ hSw rfl; have q4_ := S.cell_of w _ 4 _ 60 _ hSw rfl; have q5_ := S.cell_of w _ 5 _ 60 _ hSw rfl; go_simp; try with_reducible rfl)
        simp only [Act.put, List.getElem_toArray, List.getElem_cons_zero, List.getElem_cons_succ, List.setIfInBounds_toArray, List.set_cons_zero, List.set_cons_succ]
        refine wpAnyH_take (i := 1) (v := ?_) rfl (by kernel_rfl) (by kernel_rfl) (by kernel_rfl) (fun c a w h => h) (Or.inl ⟨by rfl, ?_⟩) hHeld ?_
        rotate_left
        · (intro w hSw; have q0_ := S.cell_of w _ 0 _ 60 _ hSw rfl; have q1_ := S.cell_of w _ 1 _ 60 _ hSw rfl; have q2_ := S.cell_of w _ 2 _ 60 _ hSw rfl; have q3_ := S.cell_of w _ 3 _ 60 _ hSw rfl; have q4_ := S.cell_of w _ 4 _ 60 _ hSw rfl; have q5_ := S.cell_of w _ 5 _ 60 _ hSw rfl; go_simp; try with_reducible rfl)
        simp only [Act.put, List.getElem_toArray, List.getElem_cons_zero, List.getElem_cons_succ, List.setIfInBounds_toArray, List.set_cons_zero, List.set_cons_succ]
        refine wpAnyH_take (i := 2) (v := ?_) rfl (by kernel_rfl) (by kernel_rfl) (by kernel_rfl) (fun c a w h => h) (Or.inl ⟨by rfl, ?_⟩) hHeld ?_
        rotate_left
        · (intro w hSw; have q0_ := S.cell_of w _ 0 _ 60 _ hSw rfl; have q1_ := S.cell_of w _ 1 _ 60 _ hSw rfl; have q2_ := S.cell_of w _ 2 _ 60 _ hSw rfl; have q3_ := S.cell_of w _ 3 _ 60 _ hSw rfl; have q4_ := S.cell_of w _ 4 _ 60 _ hSw rfl; have q5_ := S.cell_of w _ 5 _ 60 _ hSw rfl; go_simp; try with_reducible rfl)
        simp only [Act.put, List.getElem_toArray, List.getElem_cons_zero, List.getElem_cons_succ, List.setIfInBounds_toArray, List.set_cons_zero, List.set_cons_succ]
        refine wpAnyH_take (i := 3) (v := ?_) rfl (by kernel_rfl) (by kernel_rfl) (by kernel_rfl) (fun c a w h => h) (Or.inl ⟨by rfl, ?_⟩) hHeld ?_
        rotate_left
        · (intro w hSw; have q0_ := S.cell_of w _ 0 _ 60 _ hSw rfl; have q1_ := S.cell_of w _ 1 _ 60 _ hSw rfl; have q2_ := S.cell_of w _ 2 _ 60 _ hSw rfl; have q3_ := S.cell_of w _ 3 _ 60 _ hSw rfl; have q4_ := S.cell_of w _ 4 _ 60 _ hSw rfl; have q5_ := S.cell_of w _ 5 _ 60 _ hSw rfl; go_simp; try with_reducible rfl)
        simp only [Act.put, List.getElem_toArray, List.getElem_cons_zero, List.getElem_cons_succ, List.setIfInBounds_toArray, List.set_cons_zero, List.set_cons_succ]
        refine wpAnyH_take (i := 4) (v := ?_) rfl (by kernel_rfl) (by kernel_rfl) (by kernel_rfl) (fun c a w h => h) (Or.inl ⟨by rfl, ?_⟩) hHeld ?_
        rotate_left
        · (intro w hSw; have q0_ := S.cell_of w _ 0 _ 60 _ hSw rfl; have q1_ := S.cell_of w _ 1 _ 60 _ hSw rfl; have q2_ := S.cell_of w _ 2 _ 60 _ hSw rfl; have q3_ := S.cell_of w _ 3 _ 60 _ hSw rfl; have q4_ := S.cell_of w _ 4 _ 60 _ hSw rfl; have q5_ := S.cell_of w _ 5 _ 60 _ hSw rfl; go_simp; try with_reducible rfl)
        simp only [Act.put, List.getElem_toArray, List.getElem_cons_zero, List.getElem_cons_succ, List.setIfInBounds_toArray, List.set_cons_zero, List.set_cons_succ]
        refine wpAnyH_take (i := 5) (v := ?_) rfl (by kernel_rfl) (by kernel_rfl) (by kernel_rfl) (fun c a w h => h) (Or.inl ⟨by rfl, ?_⟩) hHeld ?_
        rotate_left
        · (intro w hSw; have q0_ := S.cell_of w _ 0 _ 60 _ hSw rfl; have q1_ := S.cell_of w _ 1 _ 60 _ hSw rfl; have q2_ := S.cell_of w _ 2 _ 60 _ hSw rfl; have q3_ := S.cell_of w _ 3 _ 60 _ hSw rfl; have q4_ := S.cell_of w _ 4 _ 60 _ hSw rfl; have q5_ := S.cell_of w _ 5 _ 60 _ hSw rfl; go_simp; try with_reducible rfl)
        simp only [Act.put, List.getElem_toArray, List.getElem_cons_zero, List.getElem_cons_succ, List.setIfInBounds_toArray, List.set_cons_zero, List.set_cons_succ]
        refine wpAnyH_take (i := 7) (v := ?_) rfl (by kernel_rfl) (by kernel_rfl) (by kernel_rfl) (fun c a w h => h) (Or.inl ⟨by rfl, ?_⟩) hHeld ?_
        rotate_left
        · (intro w hSw; have q0_ := S.cell_of w _ 0 _ 60 _ hSw rfl; have q1_ := S.cell_of w _ 1 _ 60 _ hSw rfl; have q2_ := S.cell_of w _ 2 _ 60 _ hSw rfl; have q3_ := S.cell_of w _ 3 _ 60 _ hSw rfl; have q4_ := S.cell_of w _ 4 _ 60 _ hSw rfl; have q5_ := S.cell_of w _ 5 _ 60 _ hSw rfl; go_simp; try with_reducible rfl)
        simp only [Act.put, List.getElem_toArray, List.getElem_cons_zero, List.getElem_cons_succ, List.setIfInBounds_toArray, List.set_cons_zero, List.set_cons_succ]
        refine wpAnyH_take (i := 8) (v := ?_) rfl (by kernel_rfl) (by kernel_rfl) (by kernel_rfl) (fun c a w h => h) (Or.inl ⟨by rfl, ?_⟩) hHeld ?_
        rotate_left
        · (intro w hSw; have q0_ := S.cell_of w _ 0 _ 60 _ hSw rfl; have q1_ := S.cell_of w _ 1 _ 60 _ hSw rfl; have q2_ := S.cell_of w _ 2 _ 60 _ hSw rfl; have q3_ := S.cell_of w _ 3 _ 60 _ hSw rfl; have q4_ := S.cell_of w _ 4 _ 60 _ hSw rfl; have q5_ := S.cell_of w _ 5 _ 60 _ hSw rfl; go_simp; try with_reducible rfl)
        simp only [Act.put, List.getElem_toArray, List.getElem_cons_zero, List.getElem_cons_succ, List.setIfInBounds_toArray, List.set_cons_zero, List.set_cons_succ]
        refine wpAnyH_ready (rs := [6]) (by kernel_rfl) (by simp) ?_
        refine AllReadyH.cons rfl (fun K hK => ?_) AllReadyH.nil
        go_simp
        obtain ⟨U, L, hU, hM, hE⟩ := HL.out.1.ex
        have hbw : Below W.heap.size W y0 := HL.out.1.bel.trans (HB1.out.1.mono (Nat.le_of_lt hbmx))
        have hkeep : ∀ i, U i -> y0.heap[i]? = wr.heap[i]? := fun i hi => HB1.out.1.block i (by rw [<- HX.out]; exact (hU i hi).2)
        have hM0 : MP y0 W.heap.size L := hM.kept (HB1.out.1.block _ hbmx)
        have hE0 : EvR y0 U (evk ds qs k) L := EvR.kept hkeep (fun _ h => h) _ _ hE
        have hUy : ∀ i, U i -> i < y0.heap.size := fun i hi => by have h2 := (hU i hi).2; rw [HX.out] at h2; have := HB1.out.2; omega
        have hcall := nodes_any nbody (evk ds qs k) L W.heap.size (.slice q1 tn d1) O1 U y0 (fun i hi => Nat.lt_of_lt_of_le (HD.out.1 i hi) hbw.size) hUy (HL.out.2.1.below hbw HD.out.1) hM0 hE0 HL.out.2.2.1
        refine hcall.mono ?_
        rintro e y1 ⟨v6, rfl, hv6, kk⟩
        obtain ⟨pv, cv, rfl, _, _⟩ := hv6.ex
        have hH1 : y1.heap[bx]? = some (.cells [.int .i64 1, .string nnm, .int .u16 nv, .slice q1 tn d1, .int .i64 np1, .int .i64 np2].toArray 60 (0, 0)) := (kk.block _ HB1.out.2).trans hHeld
        have HB2 := hid (show Below W.heap.size W y1 /\ bx < y1.heap.size /\ (∀ i, U i -> W.heap.size < i /\ i < y1.heap.size) /\ MP y1 W.heap.size L /\ EvR y1 U (evk ds qs k) L /\ MNV y1 (nw U y0 y1) (.slice pv (nbody.map (rs (evk ds qs k))).length cv) (nbody.map (rs (evk ds qs k))) /\ W.heap.size < y0.heap.size /\ y0.heap.size <= y1.heap.size from
          ⟨hbw.trans (kk.mono hbw.size), Nat.lt_of_lt_of_le HB1.out.2 kk.size, fun i hi => ⟨(hU i hi).1, Nat.lt_of_lt_of_le (hUy i hi) kk.size⟩, hM0.kept (kk.block _ (by have := HB1.out.2; omega)), EvR.kept (fun i hi => kk.block i (hUy i hi)) (fun _ h => h) _ _ hE0, hv6, by have := HB1.out.2; omega, kk.size⟩)
        clear hcall hv6 kk hU hM hE hbw hkeep hM0 hE0 hUy
        refine hK.out _ _ hH1 (fun hHeld => ?_)
        clear hK K
        try simp only [Act.put, List.getElem_toArray, List.getElem_cons_zero, List.getElem_cons_succ, List.setIfInBounds_toArray, List.set_cons_zero, List.set_cons_succ]
        try simp only [List.length_map] at *
        refine wpAnyH_take (i := 9) (v := ?_) rfl (by kernel_rfl) (by kernel_rfl) (by kernel_rfl) (fun c a w h => h) (Or.inl ⟨by rfl, ?_⟩) hHeld ?_
        rotate_left
        · (intro w hSw; have q0_ := S.cell_of w _ 0 _ 60 _ hSw rfl; have q1_ := S.cell_of w _ 1 _ 60 _ hSw rfl; have q2_ := S.cell_of w _ 2 _ 60 _ hSw rfl; have q3_ := S.cell_of w _ 3 _ 60 _ hSw rfl; have q4_ := S.cell_of w _ 4 _ 60 _ hSw rfl; have q5_ := S.cell_of w _ 5 _ 60 _ hSw rfl; go_simp; try with_reducible rfl)
        simp only [Act.put, List.getElem_toArray, List.getElem_cons_zero, List.getElem_cons_succ, List.setIfInBounds_toArray, List.set_cons_zero, List.set_cons_succ]
        have hs1 : (y1.alloc (.cells #[.slice pv nbody.length cv, .int .i64 np1, .int .i64 np2] 149)).heap.size = y1.heap.size + 1 := by simp
        have hal : ∀ i, i < y1.heap.size -> (y1.alloc (.cells #[.slice pv nbody.length cv, .int .i64 np1, .int .i64 np2] 149)).heap[i]? = y1.heap[i]? := fun i hi => Below.heap_alloc _ _ _ hi
        have hwb := boxW y1 (.slice pv nbody.length cv) (.int .i64 np1) (.int .i64 np2) 149
        have hB3 : Below W.heap.size W (y1.alloc (.cells #[.slice pv nbody.length cv, .int .i64 np1, .int .i64 np2] 149)) := HB2.out.1.alloc HB2.out.1.size _
        have hH2 : (y1.alloc (.cells #[.slice pv nbody.length cv, .int .i64 np1, .int .i64 np2] 149)).heap[bx]? = some (.cells [.int .i64 1, .string nnm, .int .u16 nv, .slice q1 tn d1, .int .i64 np1, .int .i64 np2].toArray 60 (0, 0)) := (hal bx HB2.out.2.1).trans hHeld
        refine wpAnyH_ready (rs := [10]) (by kernel_rfl) (by simp) ?_
        refine AllReadyH.cons rfl (fun K hK => ?_) AllReadyH.nil
        go_simp
        refine hK.out _ _ hH2 (fun hHeld => ?_)
        clear hK K
        try simp only [Act.put, List.getElem_toArray, List.getElem_cons_zero, List.getElem_cons_succ, List.setIfInBounds_toArray, List.set_cons_zero, List.set_cons_succ]
        generalize hy2 : y1.alloc (.cells #[.slice pv nbody.length cv, .int .i64 np1, .int .i64 np2] 149) = y2 at *
        refine wpAnyH_take (i := 11) (v := ?_) rfl (by kernel_rfl) (by kernel_rfl) (by kernel_rfl) (fun c a w h => h) (Or.inl ⟨by rfl, ?_⟩) hHeld ?_
        rotate_left
        · (intro w hSw; have q0_ := S.cell_of w _ 0 _ 60 _ hSw rfl; have q1_ := S.cell_of w _ 1 _ 60 _ hSw rfl; have q2_ := S.cell_of w _ 2 _ 60 _ hSw rfl; have q3_ := S.cell_of w _ 3 _ 60 _ hSw rfl; have q4_ := S.cell_of w _ 4 _ 60 _ hSw rfl; have q5_ := S.cell_of w _ 5 _ 60 _ hSw rfl; go_simp; try with_reducible rfl)
        simp only [Act.put, List.getElem_toArray, List.getElem_cons_zero, List.getElem_cons_succ, List.setIfInBounds_toArray, List.set_cons_zero, List.set_cons_succ]
        have hM2 : MP y2 W.heap.size L := HB2.out.2.2.2.1.kept (hal _ (by have := HB2.out.2.1; omega))
        have hu := run_up y2 W.heap.size nnm (vI ⟨1, 0, [nbody.map (rs (evk ds qs k))], (np1, np2)⟩ (.pointer (some ⟨y1.heap.size, 0, none⟩))) L hM2
        have hM5 := hM2.up nnm (vI ⟨1, 0, [nbody.map (rs (evk ds qs k))], (np1, np2)⟩ (.pointer (some ⟨y1.heap.size, 0, none⟩)))
        have ho5 : ∀ i, i ≠ W.heap.size -> (setBlock y2 W.heap.size (.map (ents 0 (upz L nnm (vI ⟨1, 0, [nbody.map (rs (evk ds qs k))], (np1, np2)⟩ (.pointer (some ⟨y1.heap.size, 0, none⟩))))).toArray (upz L nnm (vI ⟨1, 0, [nbody.map (rs (evk ds qs k))], (np1, np2)⟩ (.pointer (some ⟨y1.heap.size, 0, none⟩)))).length)).heap[i]? = y2.heap[i]? := fun i hi => R.setBlock_other y2 W.heap.size i _ hi
        have hs5 : (setBlock y2 W.heap.size (.map (ents 0 (upz L nnm (vI ⟨1, 0, [nbody.map (rs (evk ds qs k))], (np1, np2)⟩ (.pointer (some ⟨y1.heap.size, 0, none⟩))))).toArray (upz L nnm (vI ⟨1, 0, [nbody.map (rs (evk ds qs k))], (np1, np2)⟩ (.pointer (some ⟨y1.heap.size, 0, none⟩)))).length)).heap.size = y2.heap.size := R.setBlock_size _ _ _
        have hb5 : Below W.heap.size W (setBlock y2 W.heap.size (.map (ents 0 (upz L nnm (vI ⟨1, 0, [nbody.map (rs (evk ds qs k))], (np1, np2)⟩ (.pointer (some ⟨y1.heap.size, 0, none⟩))))).toArray (upz L nnm (vI ⟨1, 0, [nbody.map (rs (evk ds qs k))], (np1, np2)⟩ (.pointer (some ⟨y1.heap.size, 0, none⟩)))).length)) := R.below_setBlock hB3 _ (Nat.le_refl _) _
        unfold vI at hu
        simp only at hu
        have hV : (vI ⟨1, 0, [nbody.map (rs (evk ds qs k))], (np1, np2)⟩ (.pointer (some ⟨y1.heap.size, 0, none⟩))) = .agg #[.int .i64 1, .int .u16 0, .pointer (some ⟨y1.heap.size, 0, none⟩), .int .i64 0, .int .i64 0] := rfl
        rw [hV] at hM5 ho5 hs5 hb5
        have hH5 := (ho5 bx (by omega)).trans hH2
        refine wpAnyH_ready (rs := [12]) (by kernel_rfl) (by simp) ?_
        refine AllReadyH.cons rfl (fun K hK => ?_) AllReadyH.nil
        go_simp
        refine hK.out _ _ hH5 (fun hHeld => ?_)
        clear hK K
        try simp only [Act.put, List.getElem_toArray, List.getElem_cons_zero, List.getElem_cons_succ, List.setIfInBounds_toArray, List.set_cons_zero, List.set_cons_succ]
        refine wpAnyH_done (by kernel_rfl) ?_ _
        generalize setBlock y2 W.heap.size (.map (ents 0 (upz L nnm (.agg #[.int .i64 1, .int .u16 0, .pointer (some ⟨y1.heap.size, 0, none⟩), .int .i64 0, .int .i64 0]))).toArray (upz L nnm (.agg #[.int .i64 1, .int .u16 0, .pointer (some ⟨y1.heap.size, 0, none⟩), .int .i64 0, .int .i64 0])).length) = y5 at *
        have hfin : NL W y5 ds qs (k + 1) := by
          refine NL.next hb5 HL.out.2.2.2.1 HL.out.2.2.2.2 (fun i => U i \/ nw U y0 y1 i \/ i = y1.heap.size) (upn (evk ds qs k) nnm ⟨1, 0, [nbody.map (rs (evk ds qs k))], (np1, np2)⟩) _ (by unfold nme; rw [if_pos rfl]) (fun i hi => ?_) hM5 ?_
          · rw [hs5, hs1]
            rcases hi with hi | hi | rfl
            · have := HB2.out.2.2.1 i hi; omega
            · rcases hi with hi | hi
              · have := HB2.out.2.2.1 i hi; omega
              · have := HB2.out.2.2.2.2.2.2.1; omega
            · have := HB2.out.2.1; omega
          · have kk : ∀ i, U i \/ nw U y0 y1 i -> y5.heap[i]? = y1.heap[i]? := fun i hi => by
              have h1 : W.heap.size < i /\ i < y1.heap.size := by
                rcases hi with hi | hi | hi
                · exact HB2.out.2.2.1 i hi
                · exact HB2.out.2.2.1 i hi
                · have := HB2.out.2.2.2.2.2.2.1; omega
              exact (ho5 i (by omega)).trans (hal i h1.2)
            refine EvR.up nnm ⟨1, 0, [nbody.map (rs (evk ds qs k))], (np1, np2)⟩ (some ⟨y1.heap.size, 0, none⟩) (.inr ⟨y1.heap.size, _, .slice pv nbody.length cv, rfl, rfl, .inr (.inr rfl), ?_, ?_⟩) _ _ (EvR.kept (fun i hi => kk i (.inl hi)) (fun i hi => .inl hi) _ _ HB2.out.2.2.2.2.1)
            · exact (ho5 _ (by have := HB2.out.2.1; omega)).trans hwb
            · have h := HB2.out.2.2.2.2.2.1
              try rw [List.length_map] at h
              exact h.kept (fun i hi => kk i (.inr hi)) fun i hi => .inr (.inl hi)
        have HFIN := hid hfin
        clear hfin hHeld hM5 ho5 hs5 hb5 hu hM2 hal hwb hB3 hH2 hs1 hy2 hH5
        go_wp2
        go_roundw
        case rel => exact ⟨k + 1, by omega, by go_num, HFIN.out⟩
        case measure => simp only [intOf]; omega
      have e1 : (nk == 1) = false := by simp [h1]
      obtain ⟨U, L, hU, hM, hE⟩ := HL.out.1.ex
      have hbw : Below W.heap.size W W1 := HL.out.1.bel.trans (HB0.out.1.mono (Nat.le_of_lt hbmx))
      have hM0 : MP W1 W.heap.size L := hM.kept (HB0.out.1.block _ hbmx)
      have hE0 : EvR W1 U (evk ds qs k) L := EvR.kept (fun i hi => HB0.out.1.block i (by rw [<- HX.out]; exact (hU i hi).2)) (fun _ h => h) _ _ hE
      have hU0 : ∀ i, U i -> W.heap.size < i /\ i < W1.heap.size := fun i hi => by have h2 := hU i hi; rw [HX.out] at h2; have := HB0.out.2.1; omega
      have HU := hid (And.intro hU0 (And.intro hM0 (And.intro hE0 hbw)))
      clear hU hM hE hM0 hE0 hU0 hbw
      by_cases h2 : nk = 2
      · subst h2
        have hfin : NL W (setBlock W1 W.heap.size (.map (ents 0 (upz L nnm (vI ⟨2, nv, [], z2⟩ (.pointer none)))).toArray (upz L nnm (vI ⟨2, nv, [], z2⟩ (.pointer none))).length)) ds qs (k + 1) := by
          refine NL.next (R.below_setBlock HU.out.2.2.2 _ (Nat.le_refl _) _) HL.out.2.2.2.1 HL.out.2.2.2.2 U (upn (evk ds qs k) nnm ⟨2, nv, [], z2⟩) _ (by unfold nme; rw [if_neg (show ¬ (2 : Int) = 1 by decide), if_pos rfl]) (fun i hi => by rw [R.setBlock_size]; exact HU.out.1 i hi) (HU.out.2.1.up nnm _) (EvR.up nnm ⟨2, nv, [], z2⟩ none (.inl ⟨rfl, rfl⟩) _ _ (EvR.kept (fun i hi => R.setBlock_other _ _ i _ (by have := (HU.out.1 i hi).1; omega)) (fun _ h => h) _ _ HU.out.2.2.1))
        have hu := run_up W1 W.heap.size nnm (vI ⟨2, nv, [], z2⟩ (.pointer none)) L HU.out.2.1
        have hV : vI ⟨2, nv, [], z2⟩ (.pointer none) = .agg #[.int .i64 2, .int .u16 nv, .pointer none, .int .i64 0, .int .i64 0] := rfl
        rw [hV] at hfin hu
        have HFIN := hid hfin
        clear hfin h1
        go_upto_region 9 with fail
        rw [HW1.out, HX.out]
        clear g0 g1 g2 g3 g4 g5
        go_wp2_with fail
        go_roundw
        case rel => exact ⟨k + 1, by omega, by go_num, HFIN.out⟩
        case measure => simp only [intOf]; omega
      have e2 : (nk == 2) = false := by simp [h2]
      by_cases h3 : nk = 3
      · subst h3
        obtain ⟨pb, po, rfl, hOp, hcp⟩ := HD.out.2.2.2.1 k q HL.out.2.2.2.2
        have hcp1 : W1.cell? ⟨pb, po + k * 4 + 3, none⟩ = some (.int .u16 q.ram) := (HU.out.2.2.2.cell (World.block_lt_of_cell? W _ hcp)).trans hcp
        have hpb : pb ≠ W.heap.size := by have := HD.out.2.1 pb hOp; omega
        have hfin : NL W (setBlock W1.drew W.heap.size (.map (ents 0 (upz L nnm (vI ⟨2, q.ram, [], z2⟩ (.pointer none)))).toArray (upz L nnm (vI ⟨2, q.ram, [], z2⟩ (.pointer none))).length)) ds qs (k + 1) := by
          refine NL.next (R.below_setBlock HU.out.2.2.2.drew _ (Nat.le_refl _) _) HL.out.2.2.2.1 HL.out.2.2.2.2 U (upn (evk ds qs k) nnm ⟨2, q.ram, [], z2⟩) _ (by unfold nme; rw [if_neg (show ¬ (3 : Int) = 1 by decide), if_neg (show ¬ (3 : Int) = 2 by decide), if_pos rfl]) (fun i hi => by rw [R.setBlock_size]; exact HU.out.1 i hi) (MP.up (W := W1.drew) HU.out.2.1 nnm _) (EvR.up nnm ⟨2, q.ram, [], z2⟩ none (.inl ⟨rfl, rfl⟩) _ _ (EvR.kept (fun i hi => R.setBlock_other _ _ i _ (by have := (HU.out.1 i hi).1; omega)) (fun _ h => h) _ _ (EvR.kept (W := W1) (W' := W1.drew) (fun _ _ => rfl) (fun _ h => h) _ _ HU.out.2.2.1)))
        have hu := run_up W1.drew W.heap.size nnm (vI ⟨2, q.ram, [], z2⟩ (.pointer none)) L HU.out.2.1
        have hV : vI ⟨2, q.ram, [], z2⟩ (.pointer none) = .agg #[.int .i64 2, .int .u16 q.ram, .pointer none, .int .i64 0, .int .i64 0] := rfl
        rw [hV] at hfin hu
        have hS0 : W1.drew.heap[bx]? = some (.cells [.int .i64 3, .string nnm, .int .u16 nv, .slice q1 tn d1, .int .i64 np1, .int .i64 np2].toArray 60 (0, 0)) /\ W1.drew.cell? ⟨pb, po + k * 4 + 3, none⟩ = some (.int .u16 q.ram) := ⟨HB0.out.2.2, hcp1⟩
        have hS5 : (setBlock W1.drew W.heap.size (.map (ents 0 (upz L nnm (.agg #[.int .i64 2, .int .u16 q.ram, .pointer none, .int .i64 0, .int .i64 0]))).toArray (upz L nnm (.agg #[.int .i64 2, .int .u16 q.ram, .pointer none, .int .i64 0, .int .i64 0])).length)).heap[bx]? = some (.cells [.int .i64 3, .string nnm, .int .u16 nv, .slice q1 tn d1, .int .i64 np1, .int .i64 np2].toArray 60 (0, 0)) /\ (setBlock W1.drew W.heap.size (.map (ents 0 (upz L nnm (.agg #[.int .i64 2, .int .u16 q.ram, .pointer none, .int .i64 0, .int .i64 0]))).toArray (upz L nnm (.agg #[.int .i64 2, .int .u16 q.ram, .pointer none, .int .i64 0, .int .i64 0])).length)).cell? ⟨pb, po + k * 4 + 3, none⟩ = some (.int .u16 q.ram) :=
          ⟨(R.setBlock_other _ _ bx _ (by omega)).trans hS0.1, (World.cell?_of_block (w := W1.drew) (R.setBlock_other _ _ pb _ hpb)).trans hS0.2⟩
        have HFIN := hid hfin
        have HDR := hid (And.intro hS0 hS5)
        have HUU := hid hu
        clear hfin h1 h2 hcp hcp1 hS0 hS5 hu
        go_upto_region 11 with fail
        rw [HW1.out, HX.out]
        clear g0 g1 g2 g3 g4 g5 x0 x1 x2
        refine wp_region_held_drew (S := fun wz : World => wz.heap[bx]? = some (.cells [.int .i64 3, .string nnm, .int .u16 nv, .slice q1 tn d1, .int .i64 np1, .int .i64 np2].toArray 60 (0, 0)) /\ wz.cell? ⟨pb, po + k * 4 + 3, none⟩ = some (.int .u16 q.ram)) (by kernel_rfl) HDR.out.1 (fun hHeld => ?_)
        have hu := HUU.out
        have i2 : (k : Int) < (ds.length : Int) := i1
        refine wpAnyH_take (i := 0) (v := ?_) rfl (by kernel_rfl) (by kernel_rfl) (by kernel_rfl) (fun c a w h => h) (Or.inl ⟨by rfl, ?_⟩) hHeld ?_
        rotate_left
        · (intro w hSw; have hpc := hSw.2; have q0_ := S.cell_of w _ 0 _ 60 _ hSw.1 rfl; have q1_ := S.cell_of w _ 1 _ 60 _ hSw.1 rfl; have q2_ := S.cell_of w _ 2 _ 60 _ hSw.1 rfl; have q3_ := S.cell_of w _ 3 _ 60 _ hSw.1 rfl; have q4_ := S.cell_of w _ 4 _ 60 _ hSw.1 rfl; have q5_ := S.cell_of w _ 5 _ 60 _ hSw.1 rfl; go_simp; try with_reducible rfl)
        simp only [Act.put, List.getElem_toArray, List.getElem_cons_zero, List.getElem_cons_succ, List.setIfInBounds_toArray, List.set_cons_zero, List.set_cons_succ]
        refine wpAnyH_take (i := 1) (v := ?_) rfl (by kernel_rfl) (by kernel_rfl) (by kernel_rfl) (fun c a w h => h) (Or.inl ⟨by rfl, ?_⟩) hHeld ?_
        rotate_left
        · (intro w hSw; have hpc := hSw.2; have q0_ := S.cell_of w _ 0 _ 60 _ hSw.1 rfl; have q1_ := S.cell_of w _ 1 _ 60 _ hSw.1 rfl; have q2_ := S.cell_of w _ 2 _ 60 _ hSw.1 rfl; have q3_ := S.cell_of w _ 3 _ 60 _ hSw.1 rfl; have q4_ := S.cell_of w _ 4 _ 60 _ hSw.1 rfl; have q5_ := S.cell_of w _ 5 _ 60 _ hSw.1 rfl; go_simp; try with_reducible rfl)
        simp only [Act.put, List.getElem_toArray, List.getElem_cons_zero, List.getElem_cons_succ, List.setIfInBounds_toArray, List.set_cons_zero, List.set_cons_succ]
        refine wpAnyH_take (i := 2) (v := ?_) rfl (by kernel_rfl) (by kernel_rfl) (by kernel_rfl) (fun c a w h => h) (Or.inl ⟨by rfl, ?_⟩) hHeld ?_
        rotate_left
        · (intro w hSw; have hpc := hSw.2; have q0_ := S.cell_of w _ 0 _ 60 _ hSw.1 rfl; have q1_ := S.cell_of w _ 1 _ 60 _ hSw.1 rfl; have q2_ := S.cell_of w _ 2 _ 60 _ hSw.1 rfl; have q3_ := S.cell_of w _ 3 _ 60 _ hSw.1 rfl; have q4_ := S.cell_of w _ 4 _ 60 _ hSw.1 rfl; have q5_ := S.cell_of w _ 5 _ 60 _ hSw.1 rfl; go_simp; try with_reducible rfl)
        simp only [Act.put, List.getElem_toArray, List.getElem_cons_zero, List.getElem_cons_succ, List.setIfInBounds_toArray, List.set_cons_zero, List.set_cons_succ]
        refine wpAnyH_take (i := 3) (v := ?_) rfl (by kernel_rfl) (by kernel_rfl) (by kernel_rfl) (fun c a w h => h) (Or.inl ⟨by rfl, ?_⟩) hHeld ?_
        rotate_left
        · (intro w hSw; have hpc := hSw.2; have q0_ := S.cell_of w _ 0 _ 60 _ hSw.1 rfl; have q1_ := S.cell_of w _ 1 _ 60 _ hSw.1 rfl; have q2_ := S.cell_of w _ 2 _ 60 _ hSw.1 rfl; have q3_ := S.cell_of w _ 3 _ 60 _ hSw.1 rfl; have q4_ := S.cell_of w _ 4 _ 60 _ hSw.1 rfl; have q5_ := S.cell_of w _ 5 _ 60 _ hSw.1 rfl; go_simp; try with_reducible rfl)
        simp only [Act.put, List.getElem_toArray, List.getElem_cons_zero, List.getElem_cons_succ, List.setIfInBounds_toArray, List.set_cons_zero, List.set_cons_succ]
        refine wpAnyH_take (i := 4) (v := ?_) rfl (by kernel_rfl) (by kernel_rfl) (by kernel_rfl) (fun c a w h => h) (Or.inl ⟨by rfl, ?_⟩) hHeld ?_
        rotate_left
        · (intro w hSw; have hpc := hSw.2; have q0_ := S.cell_of w _ 0 _ 60 _ hSw.1 rfl; have q1_ := S.cell_of w _ 1 _ 60 _ hSw.1 rfl; have q2_ := S.cell_of w _ 2 _ 60 _ hSw.1 rfl; have q3_ := S.cell_of w _ 3 _ 60 _ hSw.1 rfl; have q4_ := S.cell_of w _ 4 _ 60 _ hSw.1 rfl; have q5_ := S.cell_of w _ 5 _ 60 _ hSw.1 rfl; go_simp; try with_reducible rfl)
        simp only [Act.put, List.getElem_toArray, List.getElem_cons_zero, List.getElem_cons_succ, List.setIfInBounds_toArray, List.set_cons_zero, List.set_cons_succ]
        refine wpAnyH_take (i := 5) (v := ?_) rfl (by kernel_rfl) (by kernel_rfl) (by kernel_rfl) (fun c a w h => h) (Or.inl ⟨by rfl, ?_⟩) hHeld ?_
        rotate_left
        · (intro w hSw; have hpc := hSw.2; have q0_ := S.cell_of w _ 0 _ 60 _ hSw.1 rfl; have q1_ := S.cell_of w _ 1 _ 60 _ hSw.1 rfl; have q2_ := S.cell_of w _ 2 _ 60 _ hSw.1 rfl; have q3_ := S.cell_of w _ 3 _ 60 _ hSw.1 rfl; have q4_ := S.cell_of w _ 4 _ 60 _ hSw.1 rfl; have q5_ := S.cell_of w _ 5 _ 60 _ hSw.1 rfl; go_simp; try with_reducible rfl)
        simp only [Act.put, List.getElem_toArray, List.getElem_cons_zero, List.getElem_cons_succ, List.setIfInBounds_toArray, List.set_cons_zero, List.set_cons_succ]
        refine wpAnyH_take (i := 6) (v := ?_) rfl (by kernel_rfl) (by kernel_rfl) (by kernel_rfl) (fun c a w h => h) (Or.inl ⟨by rfl, ?_⟩) hHeld ?_
        rotate_left
        · (intro w hSw; have hpc := hSw.2; have q0_ := S.cell_of w _ 0 _ 60 _ hSw.1 rfl; have q1_ := S.cell_of w _ 1 _ 60 _ hSw.1 rfl; have q2_ := S.cell_of w _ 2 _ 60 _ hSw.1 rfl; have q3_ := S.cell_of w _ 3 _ 60 _ hSw.1 rfl; have q4_ := S.cell_of w _ 4 _ 60 _ hSw.1 rfl; have q5_ := S.cell_of w _ 5 _ 60 _ hSw.1 rfl; go_simp; try with_reducible rfl)
        simp only [Act.put, List.getElem_toArray, List.getElem_cons_zero, List.getElem_cons_succ, List.setIfInBounds_toArray, List.set_cons_zero, List.set_cons_succ]
        refine wpAnyH_take (i := 7) (v := ?_) rfl (by kernel_rfl) (by kernel_rfl) (by kernel_rfl) (fun c a w h => h) (Or.inl ⟨by rfl, ?_⟩) hHeld ?_
        rotate_left
        · (intro w hSw; have hpc := hSw.2; have q0_ := S.cell_of w _ 0 _ 60 _ hSw.1 rfl; have q1_ := S.cell_of w _ 1 _ 60 _ hSw.1 rfl; have q2_ := S.cell_of w _ 2 _ 60 _ hSw.1 rfl; have q3_ := S.cell_of w _ 3 _ 60 _ hSw.1 rfl; have q4_ := S.cell_of w _ 4 _ 60 _ hSw.1 rfl; have q5_ := S.cell_of w _ 5 _ 60 _ hSw.1 rfl; go_simp; try with_reducible rfl)
        simp only [Act.put, List.getElem_toArray, List.getElem_cons_zero, List.getElem_cons_succ, List.setIfInBounds_toArray, List.set_cons_zero, List.set_cons_succ]
        refine wpAnyH_take (i := 8) (v := ?_) rfl (by kernel_rfl) (by kernel_rfl) (by kernel_rfl) (fun c a w h => h) (Or.inl ⟨by rfl, ?_⟩) hHeld ?_
        rotate_left
        · (intro w hSw; have hpc := hSw.2; have q0_ := S.cell_of w _ 0 _ 60 _ hSw.1 rfl; have q1_ := S.cell_of w _ 1 _ 60 _ hSw.1 rfl; have q2_ := S.cell_of w _ 2 _ 60 _ hSw.1 rfl; have q3_ := S.cell_of w _ 3 _ 60 _ hSw.1 rfl; have q4_ := S.cell_of w _ 4 _ 60 _ hSw.1 rfl; have q5_ := S.cell_of w _ 5 _ 60 _ hSw.1 rfl; go_simp; try with_reducible rfl)
        simp only [Act.put, List.getElem_toArray, List.getElem_cons_zero, List.getElem_cons_succ, List.setIfInBounds_toArray, List.set_cons_zero, List.set_cons_succ]
        refine wpAnyH_ready (rs := [9]) (by kernel_rfl) (by simp) ?_
        refine AllReadyH.cons rfl (fun K hK => ?_) AllReadyH.nil
        go_simp
        refine hK.out _ _ HDR.out.2 (fun hHeld => ?_)
        clear hK K
        try simp only [Act.put, List.getElem_toArray, List.getElem_cons_zero, List.getElem_cons_succ, List.setIfInBounds_toArray, List.set_cons_zero, List.set_cons_succ]
        refine wpAnyH_done (by kernel_rfl) ?_ _
        clear hHeld hu
        go_wp2
        go_roundw
        case rel => exact ⟨k + 1, by omega, by go_num, HFIN.out⟩
        case measure => simp only [intOf]; omega
      have e3 : (nk == 3) = false := by simp [h3]
      have hfin : NL W W1 ds qs (k + 1) := by
        refine NL.next HU.out.2.2.2 HL.out.2.2.2.1 HL.out.2.2.2.2 U (evk ds qs k) L (by unfold nme; simp only; rw [if_neg h1, if_neg h2, if_neg h3]) HU.out.1 HU.out.2.1 HU.out.2.2.1
      have HFIN := hid hfin
      clear hfin h1 h2 h3
      go_upto_region 12 with fail
      rw [HW1.out]
      clear g0 g1 g2 g3 g4 g5 x0 x1 x2
      go_wp2_with fail
      go_roundw
      case rel => exact ⟨k + 1, by omega, by go_num, HFIN.out⟩
      case measure => simp only [intOf]; omega
end Go.Proofs.YtoemoiehjdmheaaGreat.Z
