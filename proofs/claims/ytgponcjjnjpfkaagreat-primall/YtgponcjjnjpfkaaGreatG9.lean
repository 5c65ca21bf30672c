import Derived.Test.YtgponcjjnjpfkaaGreatG8
/-! PrimAll, walked. -/
namespace Go.Proofs.YtgponcjjnjpfkaaGreat.L
open Go.RowKit Go.Shelf
open Go.Proofs
open P
set_option linter.unusedVariables false
set_option linter.unusedSimpArgs false
set_option maxHeartbeats 4000000
set_option maxRecDepth 100000
attribute [local go_sem] Oper.semAt_some
theorem all_walk (a : Int) (w : World) : Calls Tryz.prog 5 #[.int .i64 a] w fun e w' => e = .returned (.bool true) ∧ Below w.heap.size w w' := by
  have hnl := eqAll
  refine (callsIn_wide (n := 20)).1 ?_
  refine callsIn_of_wp_marks Tryz.func5 rfl trivial ?_ rfl
  simp only [Tryz.ntmps5, List.size_toArray, List.length_cons, List.length_nil, Nat.reduceAdd, Nat.reduceSub, Array.replicate_succ, Array.replicate_zero, List.push_toArray, List.append_toArray, List.nil_append, List.cons_append]
  obtain ⟨wA, hwA⟩ : ∃ wA, ((w.alloc (.cells #[.int .i64 a] 3)).alloc (.cells #[.bool false] 4)).alloc (.cells #[.nilFunc] 56) = wA := ⟨_, rfl⟩
  have hA0 : Below w.heap.size w wA := by rw [← hwA]; exact (((Below.refl _ w).alloc (Nat.le_refl _) _).alloc (by simp) _).alloc (by simp; omega) _
  have hsz : wA.heap.size = w.heap.size + 3 := by rw [← hwA]; simp
  have z1 : (w.alloc (.cells #[.int .i64 a] 3)).heap.size = w.heap.size + 1 := by simp
  have z2 : ((w.alloc (.cells #[.int .i64 a] 3)).alloc (.cells #[.bool false] 4)).heap.size = w.heap.size + 1 + 1 := by simp
  have m0 : wA.heap[w.heap.size]? = some (.cells #[.int .i64 a] 3 (0, 0)) := by rw [← hwA]; exact (Below.heap_alloc _ _ _ (by omega)).trans ((Below.heap_alloc _ _ _ (by omega)).trans (heap_alloc_new w _))
  have m1 : wA.heap[w.heap.size + 1]? = some (.cells #[.bool false] 4 (0, 0)) := by rw [← hwA]; exact (Below.heap_alloc _ _ _ (by omega)).trans (heap_alloc2_new w _ _)
  have m2 : wA.heap[w.heap.size + 1 + 1]? = some (.cells #[.nilFunc] 56 (0, 0)) := by
    rw [← hwA]
    have := heap_alloc_new ((w.alloc (.cells #[.int .i64 a] 3)).alloc (.cells #[.bool false] 4)) (.cells #[.nilFunc] 56)
    rw [z2] at this; exact this
  have k2 := S.cell_of wA (w.heap.size + 1 + 1) 0 [.nilFunc] 56 _ m2 rfl
  have k3 := S.frozen_of wA (w.heap.size + 1 + 1) 0 [.nilFunc] 56 m2
  obtain ⟨wB, hwB⟩ : ∃ wB, wA.setCell ⟨w.heap.size + 1 + 1, 0, none⟩ (.func (.func 54) #[] #[]) = wB := ⟨_, rfl⟩
  have n2 : wB.heap[w.heap.size + 1 + 1]? = some (.cells #[.func (.func 54) #[] #[]] 56 (0, 0)) := by
    rw [← hwB]; exact S.setCell_heap _ (w.heap.size + 1 + 1) 0 [.nilFunc] 56 _ m2
  have n0 : wB.heap[w.heap.size]? = some (.cells #[.int .i64 a] 3 (0, 0)) := by rw [← hwB, S.setCell_other _ _ _ _ _ (by omega)]; exact m0
  have n1 : wB.heap[w.heap.size + 1]? = some (.cells #[.bool false] 4 (0, 0)) := by rw [← hwB, S.setCell_other _ _ _ _ _ (by omega)]; exact m1
  have hB0 : Below w.heap.size w wB := by rw [← hwB]; exact hA0.setCell (p := ⟨w.heap.size + 1 + 1, 0, none⟩) (by show w.heap.size ≤ w.heap.size + 1 + 1; omega) _
  have c2 := S.cell_of wB (w.heap.size + 1 + 1) 0 [.func (.func 54) #[] #[]] 56 _ n2 rfl
  clear z1 z2 m0 m1 hsz hA0
  gi_wp2_with (first | (refine ⟨trivial, ?_⟩; gi_at_call 23; refine (callsIn_wide.2 (all_any _)).mono ?_; rintro e w' ⟨rfl, rfl⟩))
  refine ⟨trivial, (callsIn_wide.2 (fixed_any _)).mono ?_⟩
  rintro e w1 ⟨rfl, b1⟩
  have n0 := (b1.block _ (S.lt_of n0)).trans n0
  have n1 := (b1.block _ (S.lt_of n1)).trans n1
  have n2 := (b1.block _ (S.lt_of n2)).trans n2
  have hB1 := bb hB0 b1
  have c0 := S.cell_of w1 w.heap.size 0 [.int .i64 a] 3 _ n0 rfl
  have f0 := S.frozen_of w1 w.heap.size 0 [.int .i64 a] 3 n0
  obtain ⟨z, hz⟩ : ∃ z, (wrap64 (a.tmod 64 + 64)).tmod 64 = z := ⟨_, rfl⟩
  have hz0 := zr a
  rw [hz] at hz0
  obtain ⟨wC, hwC⟩ : ∃ wC, (w1.setCell ⟨w.heap.size, 0, none⟩ (.int .i64 z)).alloc (.cells #[.int .i64 0] 3) = wC := ⟨_, rfl⟩
  obtain ⟨bn, hbn⟩ : ∃ bn, w1.heap.size = bn := ⟨_, rfl⟩
  have hlB : w.heap.size + 3 ≤ bn := by have := S.lt_of n2; omega
  have hsC : wC.heap.size = bn + 1 := by rw [← hwC, ← hbn]; simp
  have hab : AB wC w.heap.size bn z 0 false := by
    have o0 := S.setCell_heap w1 w.heap.size 0 [.int .i64 a] 3 (.int .i64 z) n0
    have o1 : (w1.setCell ⟨w.heap.size, 0, none⟩ (.int .i64 z)).heap[w.heap.size + 1]? = _ := (S.setCell_other _ _ _ _ _ (by omega)).trans n1
    have o2 : (w1.setCell ⟨w.heap.size, 0, none⟩ (.int .i64 z)).heap[w.heap.size + 1 + 1]? = _ := (S.setCell_other _ _ _ _ _ (by omega)).trans n2
    have o3 := heap_alloc_new (w1.setCell ⟨w.heap.size, 0, none⟩ (.int .i64 z)) (.cells #[.int .i64 0] 3)
    have hs : (w1.setCell ⟨w.heap.size, 0, none⟩ (.int .i64 z)).heap.size = bn := by rw [← hbn]; simp
    rw [hs] at o3
    rw [← hwC]
    exact ⟨(Below.heap_alloc _ _ _ (S.lt_of o0)).trans o0, (Below.heap_alloc _ _ _ (S.lt_of o1)).trans o1, (Below.heap_alloc _ _ _ (S.lt_of o2)).trans o2, o3⟩
  have hBC : Below w.heap.size w wC := by rw [← hwC]; exact (hB1.setCell (p := ⟨w.heap.size, 0, none⟩) (Nat.le_refl _) _).alloc (by have := hB1.size; simp; omega) _
  have c2 := S.cell_of w1 (w.heap.size + 1 + 1) 0 [.func (.func 54) #[] #[]] 56 _ n2 rfl
  have c2r := hab.c2
  rw [← hwC] at c2r
  have HC := S.hid hwC
  clear hwB k3 k2 m2 hwA b1 hB0 n0 n1 n2 hwC
  gi_wp2
  rw [HC.out]
  clear c2 c2r c0 f0 HC hz
  rename_i K2 hK2
  have hrest : ∀ (D : Nat) (W : World), wC.heap.size ≤ D → AB W w.heap.size bn z z false → Below w.heap.size w W → W.heap[D]? = some (.deferred (some [])) → K2 { tmps := #[.int .i64 a, .pointer (some ⟨w.heap.size, 0, none⟩), .pointer (some ⟨w.heap.size + 1, 0, none⟩), .pointer (some ⟨w.heap.size + 1 + 1, 0, none⟩), .pointer (some ⟨bn, 0, none⟩), undef, undef, undef, undef, undef, undef, undef, .func (.func 54) #[] #[], .func (.func 54) #[] #[], .bool false, .bool false, .bool true, .bool false, .bool false, .int .i64 a, .int .i64 (a.tmod 64), .int .i64 (wrap64 (a.tmod 64 + 64)), .int .i64 z, .func (.func 54) #[] #[], undef, undef, undef, undef, undef, undef, undef, undef, undef, undef, undef, undef, undef, undef, undef, undef, undef, undef, undef, undef, undef, undef, undef, undef, undef, undef, undef, undef, undef, undef, undef, undef, undef, undef, undef, undef, undef, undef, undef, undef, undef, undef, undef, undef, undef, undef, undef, undef, undef], defers := [{ target := .collected D, args := #[] }] } W := by
    intro D W hD hab hB hK
    apply hK2
    clear hK2
    have c0 := hab.c0
    have c3 := hab.c3
    obtain ⟨bo, hbo⟩ : ∃ bo, W.heap.size = bo := ⟨_, rfl⟩
    have hDo : D < bo := by have := (Array.getElem?_eq_some_iff.1 hK).1; omega
    have hno : bn < bo := by have := S.lt_of hab.2.2.2; omega
    obtain ⟨wD, hwD⟩ : ∃ wD, W.alloc (.cells #[.int .i64 0] 3) = wD := ⟨_, rfl⟩
    have bWD : Below W.heap.size W wD := by rw [← hwD]; exact bel_alloc W _
    have habD := hab.below bWD
    have hsD : wD.heap.size = bo + 1 := by rw [← hwD, ← hbo]; simp
    have hoD : wD.heap[bo]? = some (.cells #[.int .i64 0] 3 (0, 0)) := by rw [← hwD, ← hbo]; exact heap_alloc_new W _
    have hKD : wD.heap[D]? = some (.deferred (some [])) := (bWD.block _ (by omega)).trans hK
    have hBD : Below w.heap.size w wD := bb hB bWD
    have c2r := habD.c2
    rw [← hwD] at c2r
    have c2 := hab.c2
    have hmn : min z 63 = z := by omega
    have hmn2 : (if z ≤ 63 then z else 63) = z := by rw [if_pos (by omega)]
    have hmn3 : (if 63 < z then 63 else z) = z := by rw [if_neg (by omega)]
    have HD := S.hid hwD
    clear hwD hab hB hK bWD
    gi_wp2
    rw [HD.out]
    rename_i K3 hK3
    clear c0 c3 c2 c2r hmn hmn2 hmn3 HD
    refine wpIn_rangeFunc_ownH rfl (by omega) (gf := 54) (lb := #[]) rfl trivial Tryz.call54 (all_stops 19 w.heap.size (by omega) wD) belowK_t (belowK_b (by omega)) (Below.refl _ _) (fun _ => rfl)
      (fun pre W => ((pre = List.range' 1 pre.length ∧ AB W w.heap.size bn z z false ∧ W.heap[bo]? = some (.cells #[.int .i64 (pre.length : Int)] 3 (0, 0))) ∧ W.heap[D]? = some (.deferred (some []))) ∧ Below w.heap.size w W)
      (fun c pre W => (c = .ret ∧ ¬ pre <+: allN) ∧ Below w.heap.size w W)
      (OwnFrom.and (OwnFrom.and (Own.from (fun s A B row hs hg hr => ⟨hs.1, hs.2.1.kept hg hr, blk_kept hs.2.2 hg hr⟩) _) (own_blk _ D _ (by omega))) (ownFrom_below (Nat.le_refl _) (by omega)))
      (fun c => OwnFrom.and (ownFrom_pure _ (fun pre => c = .ret ∧ ¬ pre <+: allN)) (ownFrom_below (Nat.le_refl _) (by omega)))
      ⟨⟨⟨rfl, habD, hoD⟩, hKD⟩, hBD⟩
      (fun x a' W => ∃ Bx, wD.heap.size ≤ Bx ∧ W.heap[Bx]? = some (.cells #[.int .i64 (x : Int), .string (nm x), .int .i64 (ri x), .int .i64 (ro x), .int .i64 (rc x), .bool (rb x)] 59 (0, 0)) ∧ a' = { tmps := #[.int .i64 a, .pointer (some ⟨w.heap.size, 0, none⟩), .pointer (some ⟨w.heap.size + 1, 0, none⟩), .pointer (some ⟨w.heap.size + 1 + 1, 0, none⟩), .pointer (some ⟨bn, 0, none⟩), undef, undef, undef, .pointer (some ⟨bo, 0, none⟩), .pointer (some ⟨Bx, 0, none⟩), undef, undef, .func (.func 54) #[] #[], .func (.func 54) #[] #[], .bool false, .bool false, .bool true, .bool false, .bool false, .int .i64 a, .int .i64 (a.tmod 64), .int .i64 (wrap64 (a.tmod 64 + 64)), .int .i64 z, .func (.func 54) #[] #[], undef, undef, undef, undef, undef, undef, undef, undef, undef, undef, undef, undef, undef, undef, undef, .int .i64 z, .int .i64 z, .int .i64 z, .bool false, .func (.func 54) #[] #[], .agg #[.int .i64 (x : Int), .string (nm x), .int .i64 (ri x), .int .i64 (ro x), .int .i64 (rc x), .bool (rb x)], undef, undef, undef, undef, undef, undef, undef, undef, undef, undef, undef, undef, undef, undef, undef, undef, undef, undef, undef, undef, undef, undef, undef, undef, undef, undef, undef, undef], defers := [] })
      (fun x a' s A B row hs hg hr => by obtain ⟨Bx, h1, h2, h3⟩ := hs; exact ⟨Bx, h1, blk_kept h2 hg (fun r e => (hr r e).2), h3⟩) ?assign ?body ?done ?stop
    case assign =>
      rintro l pre x W K ⟨⟨⟨hp, hN, hO⟩, hKd⟩, hB⟩ hK
      have hs : wD.heap.size ≤ W.heap.size := by have := S.lt_of hO; omega
      unfold rowV
      gi_wp2
      exact hK _ _ ((KeepsOthers.alloc _ _).from _) ((Below.refl _ W).alloc (by omega) _) ⟨⟨⟨hp, hN.kept (World.grownBy_alloc W _ none) (fun r e => by cases e), (Below.heap_alloc _ _ _ (S.lt_of hO)).trans hO⟩, (Below.heap_alloc _ _ _ (by omega)).trans hKd⟩, hB.alloc hB.size _⟩ ⟨W.heap.size, hs, heap_alloc_new W _, rfl⟩
    case stop =>
      rintro D2 c pre W5 hD2 hpre ⟨⟨rfl, hno2⟩, hB5⟩ hK5
      exact absurd hpre hno2
    case done =>
      rintro D2 ys W5 hD2 rfl ⟨⟨⟨-, hN, hO⟩, hKd⟩, hB5⟩ hK5
      have e63 : ((allN.length : Nat) : Int) = 63 := by simp [allN]
      rw [e63] at hO
      have co := S.cell_of W5 bo 0 [.int .i64 63] 3 _ hO rfl
      have g1 := hN.c1
      have g2 := hN.f1
      have HKK := (KeepsOthers.setCell W5 ⟨w.heap.size + 1, 0, none⟩ (.bool true)).same D2 _ hK5 rfl
      have HKd := (KeepsOthers.setCell W5 ⟨w.heap.size + 1, 0, none⟩ (.bool true)).same D _ hKd rfl
      have HR := S.setCell_heap W5 (w.heap.size + 1) 0 [.bool false] 4 (.bool true) hN.2.1
      have HB5 : Below w.heap.size w (W5.setCell ⟨w.heap.size + 1, 0, none⟩ (.bool true)) := hB5.setCell (p := ⟨w.heap.size + 1, 0, none⟩) (by show w.heap.size ≤ w.heap.size + 1; omega) _
      apply hK3
      clear hK3
      gi_wp2
      generalize W5.setCell ⟨w.heap.size + 1, 0, none⟩ (.bool true) = W6 at *
      have HR : W6.heap[w.heap.size + 1]? = some (.cells #[.bool true] 4 (0, 0)) := HR
      have hDD : D ≠ D2 := by omega
      have HKd2 : (W6.putObj D2 (.deferred none)).heap[D]? = some (.deferred (some [])) := ((grownBy_putObj' W6 D2 (.deferred none)).block D (Array.getElem?_eq_some_iff.1 HKd).1 (fun e => hDD (by injection e))).trans HKd
      have HR2 := blk_kept HR (grownBy_putObj' W6 D2 (.deferred none)) (fun r e => by cases e; exact ⟨_, HKK, rfl⟩)
      have HR3 := blk_kept HR2 (grownBy_putObj' _ D (.deferred none)) (fun r e => by cases e; exact ⟨_, HKd2, rfl⟩)
      have g0 := S.cell_of _ (w.heap.size + 1) 0 [.bool true] 4 _ HR3 rfl
      have HB6 := (HB5.trans (belowK_b (w := w) (Nat.le_refl _) _ D2 _ (.deferred none) (by omega) HKK rfl rfl)).trans (belowK_b (w := w) (Nat.le_refl _) _ D _ (.deferred none) (by omega) HKd2 rfl rfl)
      refine ⟨by simp, .inl ⟨_, _, rfl, run_takeDeferred HKK, ?_⟩⟩
      refine ⟨by simp, .inl ⟨_, _, rfl, run_takeDeferred HKd2, ?_⟩⟩
      refine ⟨.bool true, ?_, rfl, HB6⟩
      simp [results, Tryz.results5, go_sem, g0]
    case body =>
      rintro l pre x a' W hl ⟨r, hr⟩ ⟨⟨⟨hp, hN, hO⟩, hKd⟩, hB⟩ ⟨Bx, hBx, hX, rfl⟩ hlt
      clear hK3 habD hoD hKD hBD hab hBC
      obtain ⟨m, hm⟩ : ∃ m, pre.length = m := ⟨_, rfl⟩
      rw [hm] at hp hO hlt
      have co := S.cell_of W bo 0 [.int .i64 (m : Int)] 3 _ hO rfl
      have fo := S.frozen_of W bo 0 [.int .i64 (m : Int)] 3 hO
      obtain ⟨bi, hbi⟩ : ∃ bi, W.heap.size = bi := ⟨_, rfl⟩
      have hio : bo < bi := by have := S.lt_of hO; omega
      have hxi : Bx < bi := by have := S.lt_of hX; omega
      have hli : l < bi := by have := (Array.getElem?_eq_some_iff.1 hr).1; omega
      have hD3 : D < bi := by omega
      have hsB : w.heap.size ≤ bi := by omega
      obtain ⟨WE, hWE⟩ : ∃ WE, W.setCell ⟨bo, 0, none⟩ (.int .i64 ((m + 1 : Nat) : Int)) = WE := ⟨_, rfl⟩
      have hsE : WE.heap.size = bi := by rw [← hWE, ← hbi]; simp
      obtain ⟨WF, hWF⟩ : ∃ WF, WE.alloc (.cells #[.int .i64 0] 3) = WF := ⟨_, rfl⟩
      have hsF : WF.heap.size = bi + 1 := by rw [← hWF]; simp [hsE]
      have bEF : Below WE.heap.size WE WF := by rw [← hWF]; exact bel_alloc WE _
      have oE : ∀ k, k ≠ bo → WE.heap[k]? = W.heap[k]? := fun k hk => by rw [← hWE]; exact S.setCell_other _ _ _ _ _ hk
      have hNF : AB WF w.heap.size bn z z false := AB.below ⟨(oE _ (by omega)).trans hN.1, (oE _ (by omega)).trans hN.2.1, (oE _ (by omega)).trans hN.2.2.1, (oE _ (by omega)).trans hN.2.2.2⟩ bEF
      have hOE : WE.heap[bo]? = some (.cells #[.int .i64 ((m + 1 : Nat) : Int)] 3 (0, 0)) := by rw [← hWE]; exact S.setCell_heap W bo 0 [.int .i64 (m : Int)] 3 _ hO
      have hOF : WF.heap[bo]? = some (.cells #[.int .i64 ((m + 1 : Nat) : Int)] 3 (0, 0)) := (bEF.block _ (by omega)).trans hOE
      have hKF : WF.heap[D]? = some (.deferred (some [])) := (bEF.block _ (by omega)).trans ((oE _ (by omega)).trans hKd)
      have hXF : RX WF Bx (x : Int) (nm x) (ri x) (ro x) (rc x) (rb x) := (bEF.block _ (by omega)).trans ((oE _ (by omega)).trans hX)
      have hIF : WF.heap[bi]? = some (.cells #[.int .i64 0] 3 (0, 0)) := by rw [← hWF, ← hsE]; exact heap_alloc_new WE _
      have hrF : WF.heap[l]? = some (.loop r) := (bEF.block _ (by omega)).trans ((oE _ (by omega)).trans hr)
      have bWE : Below w.heap.size W WE := by rw [← hWE]; exact (Below.refl _ W).setCell (p := ⟨bo, 0, none⟩) (by show w.heap.size ≤ bo; omega) _
      have bWF : Below w.heap.size W WF := bWE.trans (bEF.mono (by omega))
      have kWF : KeepsFrom wD.heap.size W WF := by
        have k1 : KeepsFrom wD.heap.size W WE := by rw [← hWE]; exact (KeepsOthers.setCell _ _ _).from _
        exact k1.trans (keeps_of bEF)
      have c2r := hNF.c2
      rw [← hWF] at c2r
      have hpos : m + 1 ≤ 63 := by omega
      have hgt : decide (((m + 1 : Nat) : Int) > 63) = false := decide_eq_false (by omega)
      have HF := S.hid hWF
      clear hWF bEF
      have hn1 : IntKind.i64.wrap ((m : Int) + 1) = ((m + 1 : Nat) : Int) := by rw [S.i64_id _ (by omega) (by omega)]; omega
      have hn2 : wrap64 ((m : Int) + 1) = ((m + 1 : Nat) : Int) := by unfold wrap64; omega
      generalize hzk : ((m + 1 : Nat) : Int) = q at *
      gi_wp2
      rw [HF.out]
      clear hn1 hn2 co fo c2r HF
      have hq1 : decide (63 < q) = false := decide_eq_false (by omega)
      have hq2 : ¬ 63 < q := by omega
      refine wpIn_rangeFunc_ownN (l₀ := l) (r₀ := r) rfl hrF (by omega) (gf := 54) (lb := #[]) rfl trivial Tryz.call54 ((all_stops 17 w.heap.size (by omega) WF).inRound l) belowK_t (belowK_b (by omega)) (Below.refl _ _) (fun _ => rfl)
        (fun pre3 W3 => ((pre3 = List.range' 1 pre3.length ∧ AB W3 w.heap.size bn z z false ∧ W3.heap[bo]? = some (.cells #[.int .i64 q] 3 (0, 0)) ∧ W3.heap[Bx]? = some (.cells #[.int .i64 (x : Int), .string (nm x), .int .i64 (ri x), .int .i64 (ro x), .int .i64 (rc x), .bool (rb x)] 59 (0, 0)) ∧ W3.heap[bi]? = some (.cells #[.int .i64 (pre3.length : Int)] 3 (0, 0))) ∧ W3.heap[D]? = some (.deferred (some []))) ∧ (Below w.heap.size W W3 ∧ KeepsFrom wD.heap.size W W3))
        (fun c pre3 W3 => c = .ret ∧ ¬ pre3 <+: allN)
        (OwnFrom.and (OwnFrom.and (Own.from (fun s A B row hs hg hr => ⟨hs.1, hs.2.1.kept hg hr, blk_kept hs.2.2.1 hg hr, blk_kept hs.2.2.2.1 hg hr, blk_kept hs.2.2.2.2 hg hr⟩) _) (own_blk _ D _ (by omega))) (OwnFrom.and (ownFrom_below hB.size (by omega)) (ownFrom_keepsFrom (by omega))))
        (fun c => ownFrom_pure _ (fun pre => c = .ret ∧ ¬ pre <+: allN))
        ⟨⟨⟨rfl, hNF, hOF, hXF, hIF⟩, hKF⟩, bWF, kWF⟩
        (fun y a' W => ∃ By, WF.heap.size ≤ By ∧ W.heap[By]? = some (.cells #[.int .i64 (y : Int), .string (nm y), .int .i64 (ri y), .int .i64 (ro y), .int .i64 (rc y), .bool (rb y)] 59 (0, 0)) ∧ a' = { tmps := #[.int .i64 a, .pointer (some ⟨w.heap.size, 0, none⟩), .pointer (some ⟨w.heap.size + 1, 0, none⟩), .pointer (some ⟨w.heap.size + 1 + 1, 0, none⟩), .pointer (some ⟨bn, 0, none⟩), undef, undef, undef, .pointer (some ⟨bo, 0, none⟩), .pointer (some ⟨Bx, 0, none⟩), .pointer (some ⟨bi, 0, none⟩), .pointer (some ⟨By, 0, none⟩), .func (.func 54) #[] #[], .func (.func 54) #[] #[], .bool false, .bool false, .bool true, .bool false, .bool false, .int .i64 a, .int .i64 (a.tmod 64), .int .i64 (wrap64 (a.tmod 64 + 64)), .int .i64 z, .func (.func 54) #[] #[], undef, undef, undef, undef, undef, undef, undef, undef, undef, undef, undef, undef, undef, undef, undef, .int .i64 z, .int .i64 z, .int .i64 z, .bool false, .func (.func 54) #[] #[], .agg #[.int .i64 (x : Int), .string (nm x), .int .i64 (ri x), .int .i64 (ro x), .int .i64 (rc x), .bool (rb x)], .int .i64 (m : Int), .int .i64 q, .func (.func 54) #[] #[], .agg #[.int .i64 (y : Int), .string (nm y), .int .i64 (ri y), .int .i64 (ro y), .int .i64 (rc y), .bool (rb y)], undef, undef, undef, undef, undef, undef, undef, undef, undef, undef, undef, undef, undef, undef, undef, undef, undef, undef, undef, undef, undef, undef, undef, undef], defers := [] })
        (fun x a' s A B row hs hg hr => by obtain ⟨Bx, h1, h2, h3⟩ := hs; exact ⟨Bx, h1, blk_kept h2 hg (fun r e => (hr r e).2), h3⟩) ?assign3 ?body3 ?done3 ?stop3
      case assign3 =>
        rintro l3 pre3 y W3 K ⟨⟨⟨hp3, hN3, hO3, hX3, hI3⟩, hKd3⟩, hBW, hKW⟩ hK
        have hs : WF.heap.size ≤ W3.heap.size := by have := S.lt_of hI3; omega
        unfold rowV
        gi_wp2
        have bA := bel_alloc W3 (.cells #[.int .i64 (y : Int), .string (nm y), .int .i64 (ri y), .int .i64 (ro y), .int .i64 (rc y), .bool (rb y)] 59)
        exact hK _ _ ((KeepsOthers.alloc _ _).from _) ((Below.refl _ W3).alloc (by omega) _) ⟨⟨⟨hp3, hN3.below bA, (bA.block _ (S.lt_of hO3)).trans hO3, (bA.block _ (S.lt_of hX3)).trans hX3, (bA.block _ (S.lt_of hI3)).trans hI3⟩, (bA.block _ (by omega)).trans hKd3⟩, hBW.trans (bA.mono (by omega)), hKW.trans (keeps_of bA)⟩ ⟨W3.heap.size, hs, heap_alloc_new W3 _, rfl⟩
      case stop3 =>
        rintro c pre3 W3 hpre ⟨rfl, hno2⟩
        exact absurd hpre hno2
      case done3 =>
        rintro ys W3 rfl ⟨⟨⟨-, hN3, hO3, hX3, hI3⟩, hKd3⟩, hBW, hKW⟩
        have e63 : ((allN.length : Nat) : Int) = 63 := by simp [allN]
        rw [e63] at hI3
        have ci := S.cell_of W3 bi 0 [.int .i64 63] 3 _ hI3 rfl
        have co := S.cell_of W3 bo 0 [.int .i64 q] 3 _ hO3 rfl
        have cx := S.cell_of W3 Bx 0 [.int .i64 (x : Int), .string (nm x), .int .i64 (ri x), .int .i64 (ro x), .int .i64 (rc x), .bool (rb x)] 59 _ hX3 rfl
        by_cases hx : x = m + 1
        · have hxq : (x : Int) = q := by omega
          rw [hxq] at cx
          have hL : (pre ++ [x]).length = m + 1 := by rw [List.length_append, hm]; rfl
          have hfin : (pre ++ [x] = List.range' 1 (pre ++ [x]).length ∧ AB W3 w.heap.size bn z z false ∧ W3.heap[bo]? = some (.cells #[.int .i64 ((pre ++ [x]).length : Int)] 3 (0, 0))) ∧ W3.heap[D]? = some (.deferred (some [])) := by
            rw [hL, hzk]
            refine ⟨⟨?_, hN3, hO3⟩, hKd3⟩
            rw [hp, hx, ← range_snoc, Nat.add_comm]
          have HE := S.hid (And.intro hKW (And.intro hBW (And.intro hfin (hB.trans hBW))))
          clear hfin hL hxq hx hp hm hzk hKW hBW hN3 hO3 hX3 hI3 hKd3 e63 hnl hsD hsF hsE oE hNF hOE hOF hKF hXF hIF hrF bWE bWF kWF hbi hio hxi hli hWE hr hX hN hO hKd hB
          gi_wp2
          exact ⟨HE.out.1, HE.out.2.1, HE.out.2.2.1, HE.out.2.2.2⟩
        · have hxn : ¬ (x : Int) = q := by omega
          have hxq : ((x : Int) == q) = false := beq_eq_false_iff_ne.2 hxn
          have hnp := not_pre m x (by omega)
          rw [← hp] at hnp
          have g1 := hN3.c1
          have g2 := hN3.f1
          have HE := S.hid (And.intro hKW (And.intro hnp (hB.trans hBW)))
          clear hnp hx hp hm hzk hKW hBW hN3 hO3 hX3 hI3 hKd3 e63 hnl hsD hsF hsE oE hNF hOE hOF hKF hXF hIF hrF bWE bWF kWF hbi hio hxi hli hWE hr hX hN hO hKd hB
          gi_wp2
          exact ⟨HE.out.1.trans ((KeepsOthers.setCell _ _ _).from _), ⟨rfl, HE.out.2.1⟩, HE.out.2.2.setCell (p := ⟨w.heap.size + 1, 0, none⟩) (by show w.heap.size ≤ w.heap.size + 1; omega) _⟩
      case body3 =>
        rintro l3 pre3 y a3 W3 hl3 ⟨r3, hr3⟩ ⟨⟨⟨hp3, hN3, hO3, hX3, hI3⟩, hKd3⟩, hBW, hKW⟩ ⟨By, hBy, hY, rfl⟩ hlt3
        obtain ⟨k, hk⟩ : ∃ k, pre3.length = k := ⟨_, rfl⟩
        rw [hk] at hp3 hI3 hlt3
        have ci := S.cell_of W3 bi 0 [.int .i64 (k : Int)] 3 _ hI3 rfl
        have fi := S.frozen_of W3 bi 0 [.int .i64 (k : Int)] 3 hI3
        obtain ⟨W4, hW4⟩ : ∃ W4, W3.setCell ⟨bi, 0, none⟩ (.int .i64 ((k + 1 : Nat) : Int)) = W4 := ⟨_, rfl⟩
        have o4 : ∀ j, j ≠ bi → W4.heap[j]? = W3.heap[j]? := fun j hj => by rw [← hW4]; exact S.setCell_other _ _ _ _ _ hj
        have hN4 : AB W4 w.heap.size bn z z false := ⟨(o4 _ (by omega)).trans hN3.1, (o4 _ (by omega)).trans hN3.2.1, (o4 _ (by omega)).trans hN3.2.2.1, (o4 _ (by omega)).trans hN3.2.2.2⟩
        have hI4 : W4.heap[bi]? = some (.cells #[.int .i64 ((k + 1 : Nat) : Int)] 3 (0, 0)) := by rw [← hW4]; exact S.setCell_heap W3 bi 0 [.int .i64 (k : Int)] 3 _ hI3
        have hY4 : W4.heap[By]? = some (.cells #[.int .i64 (y : Int), .string (nm y), .int .i64 (ri y), .int .i64 (ro y), .int .i64 (rc y), .bool (rb y)] 59 (0, 0)) := (o4 _ (by omega)).trans hY
        have b34 : Below w.heap.size W3 W4 := by rw [← hW4]; exact (Below.refl _ W3).setCell (p := ⟨bi, 0, none⟩) (by show w.heap.size ≤ bi; omega) _
        have k34 : ∀ Z, KeepsFrom Z W3 W4 := fun Z => by rw [← hW4]; exact (KeepsOthers.setCell _ _ _).from _
        have c4 := S.cell_of W4 bi 0 [.int .i64 ((k + 1 : Nat) : Int)] 3 _ hI4 rfl
        have cy := S.cell_of W4 By 0 [.int .i64 (y : Int), .string (nm y), .int .i64 (ri y), .int .i64 (ro y), .int .i64 (rc y), .bool (rb y)] 59 _ hY4 rfl
        have hO4 := (o4 bo (by omega)).trans hO3
        have hX4 := (o4 Bx (by omega)).trans hX3
        have hKd4 := (o4 D (by omega)).trans hKd3
        have hnp : y ≠ k + 1 → ¬ (pre3 ++ [y] <+: allN) := fun h => by rw [hp3]; exact not_pre k y (by omega)
        have hle4 : decide (63 < ((k + 1 : Nat) : Int)) = false := decide_eq_false (by omega)
        have hlf4 : ¬ 63 < ((k + 1 : Nat) : Int) := by omega
        have hL : (pre3 ++ [y]).length = k + 1 := by rw [List.length_append, hk]; rfl
        have hrg : (y : Int) = ((k + 1 : Nat) : Int) → ((pre3 ++ [y] = List.range' 1 (pre3 ++ [y]).length ∧ AB W4 w.heap.size bn z z false ∧ W4.heap[bo]? = some (.cells #[.int .i64 q] 3 (0, 0)) ∧ W4.heap[Bx]? = some (.cells #[.int .i64 (x : Int), .string (nm x), .int .i64 (ri x), .int .i64 (ro x), .int .i64 (rc x), .bool (rb x)] 59 (0, 0)) ∧ W4.heap[bi]? = some (.cells #[.int .i64 ((pre3 ++ [y]).length : Int)] 3 (0, 0))) ∧ W4.heap[D]? = some (.deferred (some []))) ∧ (Below w.heap.size W W4 ∧ KeepsFrom wD.heap.size W W4) := fun h => by
          have hy : y = k + 1 := by omega
          rw [hL]
          refine ⟨⟨⟨?_, hN4, hO4, hX4, hI4⟩, hKd4⟩, hBW.trans b34, hKW.trans (k34 _)⟩
          rw [hp3, hy, ← range_snoc, Nat.add_comm]
        have hno3 : ¬ (y : Int) = ((k + 1 : Nat) : Int) → ¬ (pre3 ++ [y] <+: allN) := fun h => hnp (by omega)
        have g1 := hN4.c1
        have g2 := hN4.f1
        have HH := S.hid (And.intro hrg (And.intro hno3 (And.intro k34 b34)))
        have hn1 : IntKind.i64.wrap ((k : Int) + 1) = ((k + 1 : Nat) : Int) := by rw [S.i64_id _ (by omega) (by omega)]; omega
        have hn2 : wrap64 ((k : Int) + 1) = ((k + 1 : Nat) : Int) := by unfold wrap64; omega
        clear hnp hno3 hrg hL hp3 hk hKW hBW hN3 hO3 hX3 hI3 hKd3 hN4 hO4 hX4 hI4 hKd4 hY4 hY o4 b34 k34 hnl hsD hsF hsE oE hNF hOE hOF hKF hXF hIF hrF bWE bWF kWF hbi hio hxi hli hWE hr hX hN hO hKd hB hr3 hl3
        generalize ((k + 1 : Nat) : Int) = q3 at *
        by_cases hyq : (y : Int) = q3
        · rw [hyq] at cy
          have HY := S.hid hyq
          clear hyq
          gi_wp2
          exact ⟨HH.out.2.2.1 _, HH.out.2.2.2, HH.out.1 HY.out⟩
        · have hyb : ((y : Int) == q3) = false := beq_eq_false_iff_ne.2 hyq
          gi_wp2
          exact ⟨(HH.out.2.2.1 _).trans ((KeepsOthers.setCell _ _ _).from _), rfl, HH.out.2.1 hyq⟩
  clear hK2
  refine wpIn_rangeFunc_ownH rfl (by omega) (gf := 54) (lb := #[]) rfl trivial Tryz.call54 (all_stops 19 w.heap.size (by omega) wC) belowK_t (belowK_b (by omega)) (Below.refl _ _) (fun _ => rfl)
    (fun pre W => ((pre = List.range' 1 pre.length ∧ (pre.length : Int) ≤ z) ∧ AB W w.heap.size bn z (pre.length : Int) false) ∧ Below w.heap.size w W)
    (fun c pre W => ((c = .exit 0 ∧ AB W w.heap.size bn z z false) ∨ (c = .ret ∧ ¬ pre <+: allN)) ∧ Below w.heap.size w W)
    (OwnFrom.and (Own.from (fun s A B row hs hg hr => ⟨hs.1, hs.2.kept hg hr⟩) _) (ownFrom_below (Nat.le_refl _) (by omega)))
    (fun c => OwnFrom.and (Own.from (fun s A B row hs hg hr => hs.imp (fun h => ⟨h.1, h.2.kept hg hr⟩) id) _) (ownFrom_below (Nat.le_refl _) (by omega)))
    ⟨⟨⟨rfl, hz0.1⟩, hab⟩, hBC⟩
    (fun x a' W => ∃ Bx, wC.heap.size ≤ Bx ∧ W.heap[Bx]? = some (.cells #[.int .i64 (x : Int), .string (nm x), .int .i64 (ri x), .int .i64 (ro x), .int .i64 (rc x), .bool (rb x)] 59 (0, 0)) ∧ a' = { tmps := #[.int .i64 a, .pointer (some ⟨w.heap.size, 0, none⟩), .pointer (some ⟨w.heap.size + 1, 0, none⟩), .pointer (some ⟨w.heap.size + 1 + 1, 0, none⟩), .pointer (some ⟨bn, 0, none⟩), .pointer (some ⟨Bx, 0, none⟩), undef, undef, undef, undef, undef, undef, .func (.func 54) #[] #[], .func (.func 54) #[] #[], .bool false, .bool false, .bool true, .bool false, .bool false, .int .i64 a, .int .i64 (a.tmod 64), .int .i64 (wrap64 (a.tmod 64 + 64)), .int .i64 z, .func (.func 54) #[] #[], .agg #[.int .i64 (x : Int), .string (nm x), .int .i64 (ri x), .int .i64 (ro x), .int .i64 (rc x), .bool (rb x)], undef, undef, undef, undef, undef, undef, undef, undef, undef, undef, undef, undef, undef, undef, undef, undef, undef, undef, undef, undef, undef, undef, undef, undef, undef, undef, undef, undef, undef, undef, undef, undef, undef, undef, undef, undef, undef, undef, undef, undef, undef, undef, undef, undef, undef, undef, undef, undef], defers := [] })
    (fun x a' s A B row hs hg hr => by obtain ⟨Bx, h1, h2, h3⟩ := hs; exact ⟨Bx, h1, blk_kept h2 hg (fun r e => (hr r e).2), h3⟩) ?assign ?body ?done ?stop
  case assign =>
    rintro l pre x W K ⟨⟨hp, hN⟩, hB⟩ hK
    have hs : wC.heap.size ≤ W.heap.size := by have := S.lt_of hN.2.2.2; omega
    unfold rowV
    gi_wp2
    exact hK _ _ ((KeepsOthers.alloc _ _).from _) ((Below.refl _ W).alloc (by omega) _) ⟨⟨hp, hN.kept (World.grownBy_alloc W _ none) (fun r e => by cases e)⟩, hB.alloc hB.size _⟩ ⟨W.heap.size, hs, heap_alloc_new W _, rfl⟩
  case done =>
    rintro D ys W hD rfl ⟨⟨⟨-, hle⟩, hN⟩, hB⟩ hK
    have e : ((allN.length : Nat) : Int) = z := by have : allN.length = 63 := by simp [allN]
                                                   omega
    rw [e] at hN
    exact hrest D W hD hN hB hK
  case stop =>
    rintro D c pre W hD hpre ⟨⟨rfl, hN⟩ | ⟨rfl, hno⟩, hB⟩ hK
    · gi_wp2
      exact hrest D W hD hN hB hK
    · exact absurd hpre hno
  case body =>
    rintro l pre x a' W hl ⟨r, hr⟩ ⟨⟨⟨hp, hle⟩, hN⟩, hB⟩ ⟨Bx, hBx, hX, rfl⟩ hlt
    have c0 := hN.c0
    have c3 := hN.c3
    have f3 := hN.f3
    obtain ⟨m, hm⟩ : ∃ m, pre.length = m := ⟨_, rfl⟩
    rw [hm] at hp hle hN hlt c3
    by_cases hz1 : (m : Int) = z
    · rw [hz1] at c3 hN
      gi_wp2
      exact ⟨KeepsFrom.refl _ _, .inl ⟨rfl, hN⟩, hB⟩
    · have hzb : ((m : Int) == z) = false := beq_eq_false_iff_ne.2 hz1
      have hmz : (m : Int) + 1 ≤ z := by omega
      have hBn : w.heap.size ≤ bn := by omega
      have hsz1 : bn < W.heap.size := S.lt_of hN.2.2.2
      have hro := rof_at (m + 1) (by omega) (by omega)
      obtain ⟨W2, hW2⟩ : ∃ W2, W.setCell ⟨bn, 0, none⟩ (.int .i64 ((m + 1 : Nat) : Int)) = W2 := ⟨_, rfl⟩
      have hN2 : AB W2 w.heap.size bn z ((m + 1 : Nat) : Int) false := by rw [← hW2]; exact hN.set (by omega) _
      have r2 : RX W2 Bx (x : Int) (nm x) (ri x) (ro x) (rc x) (rb x) := by rw [← hW2]; exact (S.setCell_other _ _ _ _ _ (by omega)).trans hX
      have hB2 : Below w.heap.size w W2 := by rw [← hW2]; exact hB.setCell (p := ⟨bn, 0, none⟩) (by show w.heap.size ≤ bn; omega) _
      have hWW : Below w.heap.size W W2 := by rw [← hW2]; exact (Below.refl _ W).setCell (p := ⟨bn, 0, none⟩) (by show w.heap.size ≤ bn; omega) _
      have hKF : KeepsFrom wC.heap.size W W2 := by rw [← hW2]; exact (KeepsOthers.setCell _ _ _).from _
      have c32 := hN2.c3
      unfold rowN rowV at hro
      by_cases hx : x = m + 1
      · subst hx
        have hn1 : IntKind.i64.wrap ((m : Int) + 1) = ((m + 1 : Nat) : Int) := by rw [S.i64_id _ (by omega) (by omega)]; omega
        have hn2 : wrap64 ((m : Int) + 1) = ((m + 1 : Nat) : Int) := by unfold wrap64; omega
        generalize hzk : ((m + 1 : Nat) : Int) = q at *
        generalize ha1 : nm (m + 1) = a1 at *
        generalize ha2 : ri (m + 1) = a2 at *
        generalize ha3 : ro (m + 1) = a3 at *
        generalize ha4 : rc (m + 1) = a4 at *
        generalize ha5 : rb (m + 1) = a5 at *
        have hsame := same_row q a1 a2 a3 a4 a5
        unfold rowV at hsame
        gi_wp2_with (first
          | (refine ⟨trivial, ?_⟩; gi_at_call 24; refine (CallsIn.inRound l (callsIn_wide.2 (hro _))).mono ?_; clear hro; rintro e w3 ⟨rfl, b3⟩; have r3 := rx_cell (r2.below b3 (S.lt_of r2)); obtain ⟨w4, hw4⟩ : ∃ w4, w3.alloc (.cells #[.int .i64 q, .string a1, .int .i64 a2, .int .i64 a3, .int .i64 a4, .bool a5] 59) = w4 := ⟨_, rfl⟩; have b4 : Below w3.heap.size w3 w4 := by { rw [← hw4]; exact bel_alloc w3 _ }; have r4 : RX w4 w3.heap.size q a1 a2 a3 a4 a5 := by { rw [← hw4]; exact heap_alloc_new w3 _ }; have s4 := rx_cell r4; have s5 := rx_cell (r2.below (bb b3 b4) (S.lt_of r2)))
          | (refine ⟨trivial, ?_⟩; gi_at_call 25; refine (CallsIn.inRound l (callsIn_wide.2 (hsame _))).mono ?_; clear hsame; rintro e w5 ⟨rfl, b5⟩))
        have bT := bb (bb b3 b4) b5
        refine ⟨hKF.trans (keeps_of bT), hWW.trans (bT.mono hB2.size), ⟨⟨?_, ?_⟩, ?_⟩, hB2.trans (bT.mono hB2.size)⟩
        · rw [List.length_append, hm, hp]; simp; rw [← range_snoc, Nat.add_comm]
        · clear hn1 hn2; rw [List.length_append, hm]; simp; omega
        · have := hN2.below bT
          rw [List.length_append, hm]
          rw [← hzk] at this
          exact this
      · have hsame := same_ne (x : Int) ((m + 1 : Nat) : Int) (by omega) (nm x) (nm (m + 1)) (ri x) (ro x) (rc x) (ri (m + 1)) (ro (m + 1)) (rc (m + 1)) (rb x) (rb (m + 1))
        unfold rowV at hsame
        have hnp := not_pre m x (by omega)
        rw [← hp] at hnp
        have hn1 : IntKind.i64.wrap ((m : Int) + 1) = ((m + 1 : Nat) : Int) := by rw [S.i64_id _ (by omega) (by omega)]; omega
        have hn2 : wrap64 ((m : Int) + 1) = ((m + 1 : Nat) : Int) := by unfold wrap64; omega
        generalize hzk : ((m + 1 : Nat) : Int) = q at *
        generalize ha1 : nm (m + 1) = a1 at *
        generalize ha2 : ri (m + 1) = a2 at *
        generalize ha3 : ro (m + 1) = a3 at *
        generalize ha4 : rc (m + 1) = a4 at *
        generalize ha5 : rb (m + 1) = a5 at *
        generalize hy0 : (x : Int) = y0 at *
        generalize hy1 : nm x = y1 at *
        generalize hy2 : ri x = y2 at *
        generalize hy3 : ro x = y3 at *
        generalize hy4 : rc x = y4 at *
        generalize hy5 : rb x = y5 at *
        gi_wp2_with (first
          | (refine ⟨trivial, ?_⟩; gi_at_call 24; refine (CallsIn.inRound l (callsIn_wide.2 (hro _))).mono ?_; clear hro; rintro e w3 ⟨rfl, b3⟩; have r3 := rx_cell (r2.below b3 (S.lt_of r2)); obtain ⟨w4, hw4⟩ : ∃ w4, w3.alloc (.cells #[.int .i64 q, .string a1, .int .i64 a2, .int .i64 a3, .int .i64 a4, .bool a5] 59) = w4 := ⟨_, rfl⟩; have b4 : Below w3.heap.size w3 w4 := by { rw [← hw4]; exact bel_alloc w3 _ }; have r4 : RX w4 w3.heap.size q a1 a2 a3 a4 a5 := by { rw [← hw4]; exact heap_alloc_new w3 _ }; have s4 := rx_cell r4; have s5 := rx_cell (r2.below (bb b3 b4) (S.lt_of r2)))
          | (refine ⟨trivial, ?_⟩; gi_at_call 25; refine (CallsIn.inRound l (callsIn_wide.2 (hsame _))).mono ?_; clear hsame; rintro e w5 ⟨rfl, b5⟩; have hN5 := hN2.below (bb (bb b3 b4) b5); have g1 := hN5.c1; have g2 := hN5.f1))
        have bT := bb (bb b3 b4) b5
        refine ⟨(hKF.trans (keeps_of bT)).trans ((KeepsOthers.setCell _ _ _).from _), .inr ⟨rfl, hnp⟩, (hB2.trans (bT.mono hB2.size)).setCell (p := ⟨w.heap.size + 1, 0, none⟩) (by show w.heap.size ≤ w.heap.size + 1; omega) _⟩
end Go.Proofs.YtgponcjjnjpfkaaGreat.L
