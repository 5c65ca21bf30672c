import Derived.Test.YteldjmecomngeaaGreatVRRs8
import Derived.Test.YteldjmecomngeaaGreatVLSt
import Derived.Test.YteldjmecomngeaaGreatVRSmS
import Derived.Test.YteldjmecomngeaaGreatVDrop
import Derived.Test.YteldjmecomngeaaGreatVNew
import Derived.Test.YteldjmecomngeaaGreatVRStep
import Derived.Test.YteldjmecomngeaaGreatMOps
import Derived.Test.YteldjmecomngeaaGreatMRImage
import Derived.Deep.DeepCutAuto
import Derived.Deep.RegionHeldLaw
import Derived.Deep.RegionHeld3
namespace Go.Proofs.YteldjmecomngeaaGreat.V
open Go.RowKit
open Go.Proofs
set_option linter.unusedVariables false
set_option linter.unusedSimpArgs false
set_option maxHeartbeats 40000000
set_option maxRecDepth 100000
theorem step_tones (v : VS) : (step v).2.m.tones.length <= v.m.tones.length + 3 := by
 have hd := doo_tones (look v).op (look v).x v
 unfold step
 split
 ·split
  ·split
   ·exact hd
   ·show v.m.tones.length <= _; omega
  ·show v.m.tones.length <= _; omega
 ·show v.m.tones.length <= _; omega
theorem ops_walk (op x at_ : Int) (p q : Option Addr) (cd cr : Nat) (D : List Int) (R : List (Int × Int)) (bx : UInt8) (w : World) (hD : ∀ z ∈ D, C.C z) (hR : ∀ z ∈ R, C.C z.2) (hx : C.C x) (ha : C.C at_) (h1 : S.Sl S.eU 1 w p D) (h2 : S.Sl S.eK 2 w q R) :
  Calls Tryz.prog 8 #[.agg #[.int .i64 op, .slice p D.length cd, .slice q R.length cr, .int .u16 x, .int .u16 at_, .int .u8 (M.bt bx)]] w fun e w' => e = .returned (.bool true) /\ Below w.heap.size w w' := by
 obtain ⟨nD, hnD⟩ : ∃ n, D.length = n := ⟨_, rfl⟩
 obtain ⟨nR, hnR⟩ : ∃ n, R.length = n := ⟨_, rfl⟩
 rw [hnD, hnR]
 obtain ⟨W0, hW0⟩ : ∃ W, w.alloc (.cells #[.int .i64 op, .slice p nD cd, .slice q nR cr, .int .u16 x, .int .u16 at_, .int .u8 (M.bt bx)] 98) = W := ⟨_, rfl⟩
 have hB0 : Below w.heap.size w W0 := by rw [<- hW0]; exact P.bel_alloc w _
 have n0 : W0.heap[w.heap.size]? = some (.cells [.int .i64 op, .slice p nD cd, .slice q nR cr, .int .u16 x, .int .u16 at_, .int .u8 (M.bt bx)].toArray 98 (0, 0)) := by rw [<- hW0]; exact heap_alloc_new w _
 have hs0 : w.heap.size < W0.heap.size := S.lt_of n0
 obtain ⟨t1, ht1⟩ : ∃ t, op.tmod 64 = t := ⟨_, rfl⟩
 have r1 := tm_r op 64 (by decide)
 rw [ht1] at r1
 obtain ⟨N, hN⟩ : ∃ n, (t1 + 64).tmod 64 = n := ⟨_, rfl⟩
 have rN : 0 <= N /\ N < 64 := by rw [<- hN]; exact ⟨Int.tmod_nonneg 64 (by omega), Int.tmod_lt_of_pos _ (by decide)⟩
 have u1 : IntKind.i64.wrap t1 = t1 := IntWalk.i64_in _ (by omega)
 have u2 : IntKind.i64.wrap (t1 + 64) = t1 + 64 := IntWalk.i64_in _ (by omega)
 have u3 : IntKind.i64.wrap N = N := IntWalk.i64_in _ (by omega)
 have c0 := S.cell_of W0 _ 0 _ _ _ n0 rfl
 have HN0 : Hid _ := n0
 have HB0 : Hid _ := hB0
 have HW0 : Hid _ := hW0
 have HNL : Hid _ := And.intro hnD hnR
 have HRN : Hid _ := rN
 have HI : Hid _ := And.intro hD (And.intro hR (And.intro hx (And.intro ha (And.intro h1 h2))))
 clear hB0 n0 hW0 hnD hnR rN hD hR hx ha h1 h2
 go_enter Tryz.func8, Tryz.ntmps8
 go_upto_region 1 with fail
 rw [HW0.out]
 go_upto_region 2 with fail
 clear u1 u2 u3 c0 ht1 hN r1
 have hS : ∀ X : World, Below W0.heap.size W0 X -> (fun wz : World => wz.cell? ⟨w.heap.size, 1, none⟩ = some (.slice p nD cd) /\ wz.cell? ⟨w.heap.size, 2, none⟩ = some (.slice q nR cr) /\ wz.cell? ⟨w.heap.size, 4, none⟩ = some (.int .u16 at_) /\ wz.cell? ⟨w.heap.size, 5, none⟩ = some (.int .u8 (M.bt bx))) X := fun X hX => by
  have hn := (hX.block _ hs0).trans HN0.out
  exact ⟨S.cell_of X _ 1 _ _ _ hn rfl, S.cell_of X _ 2 _ _ _ hn rfl, S.cell_of X _ 4 _ _ _ hn rfl, S.cell_of X _ 5 _ _ _ hn rfl⟩
 have HS : Hid _ := hS
 have HBd : Hid (Below W0.heap.size W0 W0.drew) := ⟨rfl, rfl, rfl, Nat.le_refl _, fun _ _ => rfl⟩
 clear hS
 refine wp_region_held_drew (S := (fun wz : World => wz.cell? ⟨w.heap.size, 1, none⟩ = some (.slice p nD cd) /\ wz.cell? ⟨w.heap.size, 2, none⟩ = some (.slice q nR cr) /\ wz.cell? ⟨w.heap.size, 4, none⟩ = some (.int .u16 at_) /\ wz.cell? ⟨w.heap.size, 5, none⟩ = some (.int .u8 (M.bt bx)))) (by kernel_rfl) (HS.out _ HBd.out) (fun hHeld => ?_)
 generalize W0.drew = yd at *
 refine wtk0 (is := [0, 1, 2, 3, 4, 5, 6, 7]) ?_
 iterate 8
  refine wtk (v := ?_) rfl (by kernel_rfl) (by kernel_rfl) (by kernel_rfl) (fun c a w h => h) (Or.inl ⟨by rfl, ?_⟩) hHeld ?_
  rotate_left
  ·(intro w hSw; (try dsimp only at hSw); go_simp; try with_reducible rfl)
  simp only [Act.put, List.getElem_toArray, List.getElem_cons_zero, List.getElem_cons_succ, List.setIfInBounds_toArray, List.set_cons_zero, List.set_cons_succ]
 refine wtkE ?_
 refine wtk0 (is := [8, 9, 10, 11]) ?_
 iterate 4
  refine wtk (v := ?_) rfl (by kernel_rfl) (by kernel_rfl) (by kernel_rfl) (fun c a w h => h) (Or.inl ⟨by rfl, ?_⟩) hHeld ?_
  rotate_left
  ·(intro w hSw; (try dsimp only at hSw); go_simp; try with_reducible rfl)
  simp only [Act.put, List.getElem_toArray, List.getElem_cons_zero, List.getElem_cons_succ, List.setIfInBounds_toArray, List.set_cons_zero, List.set_cons_succ]
 refine wtkE ?_
 refine wpAnyH_done (by kernel_rfl) ?_ _
 clear hHeld HS
 have v1 : IntKind.i64.wrap (2 * N) = 2 * N := IntWalk.i64_in _ (by have := HRN.out; omega)
 have v2 : IntKind.u16.wrap (2 * N) = 2 * N := by rw [M.u16_wrap]; have := HRN.out; omega
 have nd := (HBd.out.block _ hs0).trans HN0.out
 have e3 := S.cell_of yd _ 3 _ _ _ nd rfl
 obtain ⟨y1, hy1⟩ : ∃ y, yd.alloc (.cells #[.int .u16 (2 * N), .int .u16 x, .int .u16 18, .int .u16 18, .int .u16 16] 23) = y := ⟨_, rfl⟩
 have b1 : Below yd.heap.size yd y1 := by rw [<- hy1]; exact P.bel_alloc yd _
 have s1 : S.Sl S.eU 1 y1 (some ⟨yd.heap.size, 0, none⟩) [2 * N, x, 18, 18, 16] := by rw [<- hy1]; exact P.sl_block S.hU _ _ _ [2 * N, x, 18, 18, 16] (heap_alloc_new yd (.cells #[.int .u16 (2 * N), .int .u16 x, .int .u16 18, .int .u16 18, .int .u16 16] 23))
 have kT := threads_any (some ⟨yd.heap.size, 0, none⟩) 5 [2 * N, x, 18, 18, 16] (by simp) (fun z hz => by
  simp only [List.mem_cons, List.not_mem_nil, or_false] at hz
  rcases hz with rfl | rfl | rfl | rfl | rfl
  ·have := HRN.out; exact ⟨by omega, by omega⟩
  ·exact HI.out.2.2.1
  ·exact ⟨by decide, by decide⟩
  ·exact ⟨by decide, by decide⟩
  ·exact ⟨by decide, by decide⟩) y1 s1
 have e3' : (yd.alloc (.cells #[.int .u16 (2 * N), .int .u16 x, .int .u16 18, .int .u16 18, .int .u16 16] 23)).cell? ⟨w.heap.size, 3, none⟩ = some (.int .u16 x) := by rw [hy1, b1.cell (World.block_lt_of_cell? yd _ e3)]; exact e3
 have HY1 : Hid _ := hy1
 have HB1 : Hid (Below w.heap.size w y1) := by
  have z0 := HB0.out.trans (HBd.out.mono HB0.out.size)
  exact z0.trans (b1.mono z0.size)
 clear hy1 b1 s1 nd
 go_wp2_with fail
 try rw [HY1.out]
 refine kT.mono ?_
 rintro e w2 ⟨kv, rfl, hC2, hk2, hb2⟩
 clear kT v1 v2 e3 e3' HN0 HBd
 obtain ⟨kp, kc, hkv, _⟩ := hC2.code.ex
 subst hkv
 unfold T.cv at hC2 ⊢
 have HC2 : Hid _ := hC2
 have HB2 : Hid (Below w.heap.size w w2) := HB1.out.trans (hb2.mono HB1.out.size)
 obtain ⟨cl, hcl⟩ : ∃ n, (tcode [2 * N, x, 18, 18, 16]).length = n := ⟨_, rfl⟩
 rw [hcl]
 have HCL : Hid _ := hcl
 clear hC2 hk2 hb2 hcl
 obtain ⟨y3, hy3⟩ : ∃ y, w2.alloc (.cells #[.slice kp cl kc, .int .u16 128, .slice none 0 0, .slice none 0 0] 27) = y := ⟨_, rfl⟩
 have b3 : Below w2.heap.size w2 y3 := by rw [<- hy3]; exact P.bel_alloc w2 _
 have n3 : y3.heap[w2.heap.size]? = some (.cells [.slice kp cl kc, .int .u16 128, .slice none 0 0, .slice none 0 0].toArray 27 (0, 0)) := by rw [<- hy3]; exact heap_alloc_new w2 _
 obtain ⟨y4, hy4⟩ : ∃ y, y3.alloc (.cells #[.int .u16 0, .int .i64 0, .int .i64 0, .slice none 0 0, .slice none 0 0] 55) = y := ⟨_, rfl⟩
 have b4 : Below y3.heap.size y3 y4 := by rw [<- hy4]; exact P.bel_alloc y3 _
 have n4 : y4.heap[y3.heap.size]? = some (.cells [.int .u16 0, .int .i64 0, .int .i64 0, .slice none 0 0, .slice none 0 0].toArray 55 (0, 0)) := by rw [<- hy4]; exact heap_alloc_new y3 _
 obtain ⟨nc, hnc⟩ : ∃ n, w2.heap.size = n := ⟨_, rfl⟩
 obtain ⟨ns, hns⟩ : ∃ n, y3.heap.size = n := ⟨_, rfl⟩
 have lcs : nc < ns := by rw [<- hnc, <- hns]; exact S.lt_of n3
 have HY3 : Hid _ := And.intro hy3 hnc
 have HY4 : Hid _ := And.intro hy4 hns
 rw [hnc] at n3 b3
 rw [hns] at n4 b4
 have f40 := S.cell_of y4 ns 0 _ _ _ n4 rfl
 have g40 := S.frozen_of y4 ns 0 _ _ n4
 have n5 := S.setCell_heap y4 ns 0 _ _ (.int .u16 130) n4
 obtain ⟨y5, hy5⟩ : ∃ y, y4.setCell ⟨ns, 0, none⟩ (.int .u16 130) = y := ⟨_, rfl⟩
 rw [hy5] at n5
 have f51 := S.cell_of y5 ns 1 _ _ _ n5 rfl
 have g51 := S.frozen_of y5 ns 1 _ _ n5
 have n6 := S.setCell_heap y5 ns 1 _ _ (.int .i64 1) n5
 obtain ⟨y6, hy6⟩ : ∃ y, y5.setCell ⟨ns, 1, none⟩ (.int .i64 1) = y := ⟨_, rfl⟩
 rw [hy6] at n6
 have b6 : Below ns y3 y6 := by
  have k5 : ∀ k, k ≠ ns -> y6.heap[k]? = y4.heap[k]? := fun k hk => by rw [<- hy6, <- hy5]; exact (S.setCell_other _ _ _ _ _ hk).trans (S.setCell_other _ _ _ _ _ hk)
  exact ⟨by rw [<- hy6, <- hy5]; exact b4.os, by rw [<- hy6, <- hy5]; exact b4.tape, by rw [<- hy6, <- hy5]; exact b4.output, by rw [<- hy6, <- hy5, S.setCell_size, S.setCell_size]; exact b4.size, fun k hk => (k5 k (by omega)).trans (b4.block k hk)⟩
 have HY5 : Hid _ := hy5
 have HY6 : Hid _ := hy6
 have HO0 : Hid (OL y6 y6 ns (.slice none 0 0) (.slice none 0 0) [] []) := ⟨Below.refl _ _, n6, World.ownsRow_nil _ _ _ _, World.ownsRow_nil _ _ _ _⟩
 have HCB : Hid (y6.heap[nc]? = some (.cells [.slice kp cl kc, .int .u16 128, .slice none 0 0, .slice none 0 0].toArray 27 (0, 0))) := (b6.block nc (by omega)).trans n3
 have HB6 : Hid (Below nc w2 y6) := b3.trans (b6.mono (by omega))
 have HB6w : Hid (Below w.heap.size w y6) := HB2.out.trans (HB6.out.mono (by have := HB2.out.size; omega))
 have HNC : Hid _ := hnc
 clear n3 b3 b4 n5 n6 b6 hy3 hy4 hy5 hy6 hnc hns
 go_upto_region 4 with fail
 try rw [HY3.out.1]
 try rw [HY3.out.2]
 go_upto_region 5 with fail
 try rw [HY4.out.1]
 try rw [HY4.out.2]
 clear n4
 go_upto_region 6 with fail
 try rw [HY5.out]
 clear f40 g40
 go_upto_region 7 with fail
 try rw [HY6.out]
 clear f51 g51 HY1 HY3 HY4 HY5 HY6 HW0
 go_wp2_with fail
 go_loopw [10] (fun i wr => ∃ (k : Nat) (dv : Value), k <= nD /\ k <= 256 /\ i = .int .i64 (k : Int) /\ OL y6 wr ns dv (.slice none 0 0) (D.take k) []) (fun i _ => 256 - (intOf i).toNat)
 case atStart => exact ⟨0, .slice none 0 0, by omega, by omega, rfl, HO0.out⟩
 case round =>
  obtain ⟨k, dv, hk, hk6, rfl, hO⟩ := hrel
  by_cases hlt : k < nD /\ k < 256
  ·obtain ⟨l1, l2⟩ := hlt
   have i1 : (k : Int) < (nD : Int) := by omega
   have i2 : (k : Int) < 256 := by omega
   have hkD : k < D.length := by rw [HNL.out.1]; exact l1
   have hb0 : Below w.heap.size w wr := by
    have z6 := HB6w.out.size
    have zz := HB6.out.size
    have z2 := HB2.out.size
    have zn := HNC.out
    exact HB6w.out.trans (hO.bel.mono (by omega))
   obtain ⟨bD, oD, hp, eD0⟩ := HI.out.2.2.2.2.1.u k D[k] (List.getElem?_eq_getElem hkD)
   have l0 : bD < w.heap.size := World.block_lt_of_cell? w _ eD0
   have eD : wr.cell? ⟨bD, oD + k, none⟩ = some (.int .u16 D[k]) := by rw [hb0.cell l0]; exact eD0
   obtain ⟨dk, hdk⟩ : ∃ d, D[k] = d := ⟨_, rfl⟩
   rw [hdk] at eD
   have HDD : Hid (¬ ns + 1 <= bD) := by
    have z6 := HB6.out.size
    have z2 := HB2.out.size
    have zn := HNC.out
    show ¬ ns + 1 <= bD
    omega
   subst hp
   obtain ⟨vp, vc, hdv⟩ := own_fm hO.d
   subst hdv
   have hlen : (D.take k).length = k := by rw [List.length_take]; omega
   have hO' := hO
   rw [hlen] at hO'
   have e3 := S.cell_of wr ns 3 _ _ _ hO'.blk rfl
   have bdr : Below wr.heap.size wr wr.drew := ⟨rfl, rfl, rfl, Nat.le_refl _, fun _ _ => rfl⟩
   have hS : ∀ X : World, Below wr.heap.size wr X -> (fun wz : World => wz.cell? ⟨ns, 3, none⟩ = some (.slice vp k vc) /\ wz.cell? ⟨bD, oD + k, none⟩ = some (.int .u16 dk)) X := fun X hX => ⟨by rw [hX.cell (World.block_lt_of_cell? wr _ e3)]; exact e3, by rw [hX.cell (World.block_lt_of_cell? wr _ eD)]; exact eD⟩
   have HS : Hid _ := hS
   have HO : Hid _ := hO'
   have HBd : Hid _ := bdr
   have HDK : Hid (D.take (k + 1) = D.take k ++ [dk]) := by show D.take (k + 1) = D.take k ++ [dk]; rw [<- hdk]; exact List.take_succ_eq_append_getElem hkD
   clear hO hO' e3 eD eD0 l0 hS bdr hdk hkD hb0
   go_upto_region 10 with fail
   refine wp_region_drop [9] (S := fun wz : World => wz.cell? ⟨ns, 3, none⟩ = some (.slice vp k vc) /\ wz.cell? ⟨bD, oD + k, none⟩ = some (.int .u16 dk)) (by kernel_rfl) (HS.out _ HBd.out) (fun hHeld => ?_)
   generalize wr.drew = z0 at *
   have hOd := HO.out.next HBd.out
   obtain ⟨z1, hz1⟩ : ∃ y, z0.alloc (.cells #[.int .u16 dk] 23) = y := ⟨_, rfl⟩
   have b1 : Below z0.heap.size z0 z1 := by rw [<- hz1]; exact P.bel_alloc z0 _
   have v1 : z1.heap[z0.heap.size]? = some (.cells [.int .u16 dk].toArray 23 (0, 0)) := by rw [<- hz1]; exact heap_alloc_new z0 _
   have cs1 : S.Cs z1 (.slice (some ⟨z0.heap.size, 0, none⟩) 1 1) 1 1 (S.en S.eU [dk]) := .inr ⟨_, _, rfl, rfl, fun j u hj => by rw [Addr.add_lit, Nat.zero_add]; exact S.cell_of z1 _ j _ _ u v1 hj, S.oneU _⟩
   have hO1 := hOd.next b1
   have od1 := hO1.d
   rw [hlen] at od1
   have s1 := HS.out z1 (HBd.out.trans (b1.mono HBd.out.size))
   have zz : ns + 1 <= z1.heap.size := S.lt_of hO1.blk
   have bd1 : (k + 1) * 2 <= S.room := by unfold S.room; omega
   have bd2 : k + 1 <= maxLen := by unfold maxLen; omega
   have HZ1 : Hid _ := hz1
   have HO1 : Hid _ := hO1
   have HS1 : Hid _ := s1
   have HLE : Hid _ := hlen
   clear hOd hz1 b1 v1 hO1 s1 hlen
   refine wpD_take (i := 0) (v := ?_) rfl (by kernel_rfl) (by kernel_rfl) (by kernel_rfl) (by kernel_rfl) (by kernel_rfl) (fun c a w h => h) (Or.inl ⟨by rfl, ?_⟩) hHeld ?_
   rotate_left
   ·(intro w hSw; (try dsimp only at hSw); go_simp; try with_reducible rfl)
   simp only [Act.put, List.getElem_toArray, List.getElem_cons_zero, List.getElem_cons_succ, List.setIfInBounds_toArray, List.set_cons_zero, List.set_cons_succ]
   refine wpD_take (i := 1) (v := ?_) rfl (by kernel_rfl) (by kernel_rfl) (by kernel_rfl) (by kernel_rfl) (by kernel_rfl) (fun c a w h => h) (Or.inl ⟨by rfl, ?_⟩) hHeld ?_
   rotate_left
   ·(intro w hSw; (try dsimp only at hSw); go_simp; try with_reducible rfl)
   simp only [Act.put, List.getElem_toArray, List.getElem_cons_zero, List.getElem_cons_succ, List.setIfInBounds_toArray, List.set_cons_zero, List.set_cons_succ]
   refine wpD_take (i := 2) (v := ?_) rfl (by kernel_rfl) (by kernel_rfl) (by kernel_rfl) (by kernel_rfl) (by kernel_rfl) (fun c a w h => h) (Or.inl ⟨by rfl, ?_⟩) hHeld ?_
   rotate_left
   ·(intro w hSw; (try dsimp only at hSw); go_simp; try with_reducible rfl)
   simp only [Act.put, List.getElem_toArray, List.getElem_cons_zero, List.getElem_cons_succ, List.setIfInBounds_toArray, List.set_cons_zero, List.set_cons_succ]
   refine wpD_take (i := 3) (v := ?_) rfl (by kernel_rfl) (by kernel_rfl) (by kernel_rfl) (by kernel_rfl) (by kernel_rfl) (fun c a w h => h) (Or.inl ⟨by rfl, ?_⟩) hHeld ?_
   rotate_left
   ·(intro w hSw; (try dsimp only at hSw); go_simp; try with_reducible rfl)
   simp only [Act.put, List.getElem_toArray, List.getElem_cons_zero, List.getElem_cons_succ, List.setIfInBounds_toArray, List.set_cons_zero, List.set_cons_succ]
   refine wpD_take (i := 4) (v := ?_) rfl (by kernel_rfl) (by kernel_rfl) (by kernel_rfl) (by kernel_rfl) (by kernel_rfl) (fun c a w h => h) (Or.inl ⟨by rfl, ?_⟩) hHeld ?_
   rotate_left
   ·(intro w hSw; (try dsimp only at hSw); go_simp; try with_reducible rfl)
   simp only [Act.put, List.getElem_toArray, List.getElem_cons_zero, List.getElem_cons_succ, List.setIfInBounds_toArray, List.set_cons_zero, List.set_cons_succ]
   refine wpD_take (i := 5) (v := ?_) rfl (by kernel_rfl) (by kernel_rfl) (by kernel_rfl) (by kernel_rfl) (by kernel_rfl) (fun c a w h => h) (Or.inl ⟨by rfl, ?_⟩) hHeld ?_
   rotate_left
   ·(intro w hSw; (try dsimp only at hSw); go_simp; try with_reducible rfl)
   simp only [Act.put, List.getElem_toArray, List.getElem_cons_zero, List.getElem_cons_succ, List.setIfInBounds_toArray, List.set_cons_zero, List.set_cons_succ]
   refine wpD_ready (rs := [6]) (by kernel_rfl) (by simp) ?_
   refine AllD.cons rfl (fun K hK => ?_) AllD.nil
   go_simp
   refine hK.out _ _ (by first | exact HS1.out | (rw [HZ1.out]; exact HS1.out)) (fun hHeld => ?_)
   clear hK K
   try rw [HZ1.out]
   try simp only [Act.put, List.getElem_toArray, List.getElem_cons_zero, List.getElem_cons_succ, List.setIfInBounds_toArray, List.set_cons_zero, List.set_cons_succ]
   refine wpD_ready (rs := [7]) (by kernel_rfl) (by simp) ?_
   refine AllD.cons rfl (fun K hK => ?_) AllD.nil
   rw [if_pos (by rfl)]
   refine S.wp_append_row _ _ _ 43 23 _ 1 2 Tryz.underlying43 S.info32 rfl (by decide) rfl (ns + 1) _ k _ rfl od1 _ 1 _ rfl cs1 bd1 bd2 zz (fun v2 z2 o2 g2 => ?_)
   obtain ⟨p2, c2, hv2⟩ := own_fm o2
   subst hv2
   have hG : S.Grew z1 z2 (.slice vp k vc) (.slice p2 (k + 1) c2) := g2
   have hb12 : Below (ns + 1) z1 z2 := hG.below (fun i e => (World.ownsRow.lt od1 i e).1) zz
   have s2 : (fun wz : World => wz.cell? ⟨ns, 3, none⟩ = some (.slice vp k vc) /\ wz.cell? ⟨bD, oD + k, none⟩ = some (.int .u16 dk)) z2 := ⟨by rw [World.cell?_of_block (w := z1) (w' := z2) (a := ⟨ns, 3, none⟩) (hb12.block ns (by omega))]; exact HS1.out.1, by rw [World.cell?_of_block (w := z1) (w' := z2) (a := ⟨bD, oD + k, none⟩) (hG.block bD (World.block_lt_of_cell? z1 _ HS1.out.2) (fun c => HDD.out (by have := (World.ownsRow.lt od1 bD c.symm).1; exact this)))]; exact HS1.out.2⟩
   have hnx := HO1.out.setD (wr := z1) (D' := D.take (k + 1)) hG (by rw [HDK.out, List.length_append, HLE.out, S.en_append]; exact o2)
   have HNX : Hid _ := hnx
   have n2 := (hb12.block ns (by omega)).trans HO1.out.blk
   have fz := S.frozen_of z2 ns 3 _ _ n2
   clear o2 g2 hG hb12 n2 hnx
   refine hK.out _ _ s2 (fun hHeld => ?_)
   clear hK K
   try simp only [Act.put, List.getElem_toArray, List.getElem_cons_zero, List.getElem_cons_succ, List.setIfInBounds_toArray, List.set_cons_zero, List.set_cons_succ]
   refine wpD_take (i := 8) (v := ?_) rfl (by kernel_rfl) (by kernel_rfl) (by kernel_rfl) (by kernel_rfl) (by kernel_rfl) (fun c a w h => h) (Or.inl ⟨by rfl, ?_⟩) hHeld ?_
   rotate_left
   ·(intro w hSw; (try dsimp only at hSw); go_simp; try with_reducible rfl)
   simp only [Act.put, List.getElem_toArray, List.getElem_cons_zero, List.getElem_cons_succ, List.setIfInBounds_toArray, List.set_cons_zero, List.set_cons_succ]
   obtain ⟨c3, c4⟩ := hHeld
   refine wpD_ready (rs := [9]) (by kernel_rfl) (by simp) ?_
   refine AllD.late rfl (by kernel_rfl) (fun K hK => ?_)
   go_simp
   refine hK.out _ _ ?_
   clear hK K
   try simp only [Act.put, List.getElem_toArray, List.getElem_cons_zero, List.getElem_cons_succ, List.setIfInBounds_toArray, List.set_cons_zero, List.set_cons_succ]
   refine wpD_done (by kernel_rfl) ?_ _
   clear s2 c3 c4 fz od1 cs1
   have w1' : wrap64 ((k : Int) + 1) = ((k + 1 : Nat) : Int) := by simp [wrap64]; omega
   go_wp2
   go_roundw
   case rel =>
    first
     | exact ⟨k + 1, _, l1, l2, (by first | rfl | rw [w1']), HNX.out⟩
     | ((repeat apply Exists.intro); refine ⟨⟨k + 1, _, l1, l2, ?_, HNX.out⟩, rfl⟩; first | rfl | rw [w1'])
   case measure => simp [intOf]; omega
  ·have hkk : k = nD \/ k = 256 := by omega
   obtain ⟨Dq, hDq⟩ : ∃ l, D.take k = l := ⟨_, rfl⟩
   rw [hDq] at hO
   have HDL : Hid (Dq.length <= 256) := by show Dq.length <= 256; rw [<- hDq, List.length_take]; omega
   have HDC : Hid (∀ z ∈ Dq, C.C z) := fun z hz => HI.out.1 z (by rw [<- hDq] at hz; exact List.mem_of_mem_take hz)
   have HOq : Hid _ := hO
   clear hDq hO hlt
   go_upto_region 8 with fail
   go_cut [50] (fun s wz => s = .bool false /\ wz = wr)
   case first =>
    by_cases j1 : (k : Int) < (nD : Int)
    ·have j2 : ¬ (k : Int) < 256 := by omega
     go_wp2
     go_meet
     case rel => exact ⟨rfl, rfl⟩
    ·go_wp2
     go_meet
     case rel => exact ⟨rfl, rfl⟩
   case rest =>
    obtain ⟨rfl, hwz⟩ := hcut
    subst hwz
    clear hkk hk hk6
    go_wp2_with fail
    go_loopw [11] (fun i wr => ∃ (k : Nat) (rv : Value), k <= nR /\ k <= 128 /\ i = .int .i64 (k : Int) /\ OL y6 wr ns dv rv Dq (opR R k)) (fun i _ => 128 - (intOf i).toNat)
    case atStart => exact ⟨0, .slice none 0 0, by omega, by omega, rfl, HOq.out⟩
    case round =>
     clear HOq
     obtain ⟨k, rv, hk, hk6, rfl, hO⟩ := hrel
     by_cases hlt : k < nR /\ k < 128
     ·obtain ⟨l1, l2⟩ := hlt
      have i1 : (k : Int) < (nR : Int) := by omega
      have i2 : (k : Int) < 128 := by omega
      have hkR : k < R.length := by rw [HNL.out.2]; exact l1
      have hb0 : Below w.heap.size w wr := by
       have z6 := HB6w.out.size
       have zz := HB6.out.size
       have z2 := HB2.out.size
       have zn := HNC.out
       exact HB6w.out.trans (hO.bel.mono (by omega))
      obtain ⟨bR, oR, hq, eR0, eR1⟩ := HI.out.2.2.2.2.2.k k R[k] (List.getElem?_eq_getElem hkR)
      have l0 : bR < w.heap.size := World.block_lt_of_cell? w _ eR0
      have HRS : Hid (opR R (k + 1) = opR R k ++ [(opK (R[k]).1, (R[k]).2)]) := opR_succ R k hkR
      have hlen : (opR R k).length = k := opR_len R k (by omega)
      generalize R[k] = t at *
      have e0 : wr.cell? ⟨bR, oR + k * 2, none⟩ = some (.int .i64 t.1) := by rw [hb0.cell l0]; exact eR0
      have e1 : wr.cell? ⟨bR, oR + k * 2 + 1, none⟩ = some (.int .u16 t.2) := by rw [hb0.cell l0]; exact eR1
      subst hq
      obtain ⟨vp, vc, hrv⟩ := own_fm hO.r
      subst hrv
      rw [hlen] at hO
      obtain ⟨s1, hs1⟩ : ∃ s, t.1.tmod 4 = s := ⟨_, rfl⟩
      have r1 := tm_r t.1 4 (by decide)
      rw [hs1] at r1
      obtain ⟨s2, hs2⟩ : ∃ s, (s1 + 4).tmod 4 = s := ⟨_, rfl⟩
      have r2 : 0 <= s2 /\ s2 < 4 := by rw [<- hs2]; exact ⟨Int.tmod_nonneg 4 (by omega), Int.tmod_lt_of_pos _ (by decide)⟩
      have hK : opK t.1 = 1 + s2 := by unfold opK; rw [hs1, hs2]
      rw [hK] at HRS
      have u1 : IntKind.i64.wrap s1 = s1 := IntWalk.i64_in _ (by omega)
      have u2 : IntKind.i64.wrap (s1 + 4) = s1 + 4 := IntWalk.i64_in _ (by omega)
      have u3 : IntKind.i64.wrap s2 = s2 := IntWalk.i64_in _ (by omega)
      have u4 : IntKind.i64.wrap (1 + s2) = 1 + s2 := IntWalk.i64_in _ (by omega)
      obtain ⟨z1, hz1⟩ : ∃ y, wr.alloc (.cells #[.int .i64 t.1, .int .u16 t.2] 101) = y := ⟨_, rfl⟩
      have b1 : Below wr.heap.size wr z1 := by rw [<- hz1]; exact P.bel_alloc wr _
      have n1 : z1.heap[wr.heap.size]? = some (.cells [.int .i64 t.1, .int .u16 t.2].toArray 101 (0, 0)) := by rw [<- hz1]; exact heap_alloc_new wr _
      obtain ⟨nk, hnk⟩ : ∃ n, wr.heap.size = n := ⟨_, rfl⟩
      have HZ1 : Hid _ := And.intro hz1 hnk
      rw [hnk] at n1
      have k0 := S.cell_of z1 nk 0 _ _ _ n1 rfl
      have k0f := S.frozen_of z1 nk 0 _ _ n1
      have n2 := S.setCell_heap z1 nk 0 _ _ (.int .i64 (1 + s2)) n1
      obtain ⟨z2, hz2⟩ : ∃ y, z1.setCell ⟨nk, 0, none⟩ (.int .i64 (1 + s2)) = y := ⟨_, rfl⟩
      rw [hz2] at n2
      have b2 : Below wr.heap.size wr z2 := ⟨by rw [<- hz2]; exact b1.os, by rw [<- hz2]; exact b1.tape, by rw [<- hz2]; exact b1.output, by rw [<- hz2, S.setCell_size]; exact b1.size, fun i hi => by rw [<- hz2, S.setCell_other _ _ _ _ _ (by omega)]; exact b1.block i hi⟩
      have hO2 := hO.next b2
      have e4 := S.cell_of z2 ns 4 _ _ _ hO2.blk rfl
      have m0 := S.cell_of z2 nk 0 _ _ _ n2 rfl
      have m1 := S.cell_of z2 nk 1 _ _ _ n2 rfl
      obtain ⟨z3, hz3⟩ : ∃ y, z2.alloc (.cells #[.int .i64 (1 + s2), .int .u16 t.2] 101) = y := ⟨_, rfl⟩
      have b3 : Below z2.heap.size z2 z3 := by rw [<- hz3]; exact P.bel_alloc z2 _
      have v3 : z3.heap[z2.heap.size]? = some (.cells [.int .i64 (1 + s2), .int .u16 t.2].toArray 101 (0, 0)) := by rw [<- hz3]; exact heap_alloc_new z2 _
      have cs3 : S.Cs z3 (.slice (some ⟨z2.heap.size, 0, none⟩) 1 1) 2 1 (S.en S.eK [(1 + s2, t.2)]) := .inr ⟨_, _, rfl, rfl, fun j u hj => by rw [Addr.add_lit, Nat.zero_add]; exact S.cell_of z3 _ j _ _ u v3 hj, S.oneK _⟩
      have hO3 := hO2.next b3
      have or3 := hO3.r
      rw [hlen] at or3
      have zz : ns + 1 <= z3.heap.size := S.lt_of hO3.blk
      have bd1 : (k + 1) * 16 <= S.room := by unfold S.room; omega
      have bd2 : k + 1 <= maxLen := by unfold maxLen; omega
      have HZ2 : Hid _ := hz2
      have HZ3 : Hid _ := hz3
      have HO3 : Hid _ := hO3
      have HLE : Hid _ := hlen
      clear hO hO2 hO3 hz1 hz2 hz3 b1 b2 b3 v3 n1 n2 hlen hK eR0 eR1 l0 hb0 hkR r1 r2 hnk
      go_upto_region 14 with fail
      go_upto_region 15 with fail
      try rw [HZ1.out.1]
      try rw [HZ1.out.2]
      clear e0 e1
      go_upto_region 16 with fail
      try rw [HZ2.out]
      clear k0 k0f u1 u2 u3 u4 hs1 hs2
      have e4' : (z2.alloc (.cells #[.int .i64 (1 + s2), .int .u16 t.2] 101)).cell? ⟨ns, 4, none⟩ = some (.slice vp k vc) := by rw [HZ3.out]; exact S.cell_of z3 ns 4 _ _ _ HO3.out.blk rfl
      go_wp2_with (first | (at_builtin; rw [HZ3.out]; refine S.wpList_append_row _ rfl _ _ 44 101 _ 2 16 Tryz.underlying44 S.info43 rfl (by decide) rfl (ns + 1) _ k _ rfl or3 _ 1 _ rfl cs3 bd1 bd2 zz ?_))
      intro v4 z4 o4 g4
      obtain ⟨p4, c4, hv4⟩ := own_fm o4
      subst hv4
      have hb34 : Below (ns + 1) z3 z4 := g4.below (fun i e => (World.ownsRow.lt or3 i e).1) zz
      have hnx := HO3.out.setR (wr := z3) (R' := opR R (k + 1)) g4 (by rw [HRS.out, List.length_append, HLE.out, S.en_append]; exact o4)
      have HNX : Hid _ := hnx
      have n4 := (hb34.block ns (by omega)).trans HO3.out.blk
      have fz := S.frozen_of z4 ns 4 _ _ n4
      have fc := S.cell_of z4 ns 4 _ _ _ n4 rfl
      clear o4 g4 hb34 n4 hnx e4 e4' m0 m1 or3 cs3
      have w1' : wrap64 ((k : Int) + 1) = ((k + 1 : Nat) : Int) := by simp [wrap64]; omega
      go_wp2
      go_roundw
      case rel =>
       first
        | exact ⟨k + 1, _, l1, l2, (by first | rfl | rw [w1']), HNX.out⟩
        | ((repeat apply Exists.intro); refine ⟨⟨k + 1, _, l1, l2, ?_, HNX.out⟩, rfl⟩; first | rfl | rw [w1'])
      case measure => simp [intOf]; omega
     ·have hkk : k = nR \/ k = 128 := by omega
      obtain ⟨Rq, hRq⟩ : ∃ l, opR R k = l := ⟨_, rfl⟩
      have HRL : Hid (Rq.length <= 128) := by show Rq.length <= 128; rw [<- hRq, opR_len R k (by rw [HNL.out.2]; exact hk)]; exact hk6
      have HRC : Hid (∀ z ∈ Rq, C.C z.2) := by show ∀ z ∈ Rq, C.C z.2; rw [<- hRq]; exact opR_c R k HI.out.2.1
      have HRK : Hid (okRt Rq) := by show okRt Rq; rw [<- hRq]; exact opR_ok R k
      rw [hRq] at hO
      have HOq : Hid _ := hO
      clear hRq hO hlt
      go_upto_region 12 with fail
      go_cut [69] (fun s wz => s = .bool false /\ wz = wr)
      case first =>
       by_cases j1 : (k : Int) < (nR : Int)
       ·have j2 : ¬ (k : Int) < 128 := by omega
        go_wp2
        go_meet
        case rel => exact ⟨rfl, rfl⟩
       ·go_wp2
        go_meet
        case rel => exact ⟨rfl, rfl⟩
      case rest =>
       obtain ⟨rfl, hwz⟩ := hcut
       subst hwz
       clear hkk hk hk6
       obtain ⟨dp, dc, hdv⟩ := own_fm HOq.out.d
       obtain ⟨rp, rc, hrv⟩ := own_fm HOq.out.r
       subst hdv hrv
       obtain ⟨nd, hnd⟩ : ∃ n, Dq.length = n := ⟨_, rfl⟩
       obtain ⟨nr, hnr⟩ : ∃ n, Rq.length = n := ⟨_, rfl⟩
       have HQL : Hid _ := And.intro hnd hnr
       obtain ⟨c, hc⟩ : ∃ c, opc N x = c := ⟨_, rfl⟩
       have hbA : Below nc w2 wc := HB6.out.trans (HOq.out.bel.mono (by omega))
       have hCA : T.IsC wc (.agg #[.slice kp cl kc, .int .u16 128, .slice none 0 0, .slice none 0 0]) c none 0 none 0 (.slice kp cl kc) := by
        have := HC2.out.below (W' := wc) (by rw [HNC.out]; exact hbA)
        rw [HCL.out] at this
        rw [<- hc]
        exact this
       have hmay : T.may c = true := by rw [<- hc]; exact opc_may N x
       have hclen : c.code.length <= 16384 := by rw [<- hc]; show (tcode _).length <= 16384; rw [tcode_len]; simp
       have hnob : ∀ k, (born c).m.banks k = none := by rw [<- hc]; exact born_nobank N x
       have hbnk : c.banks = [] := by rw [<- hc]; rfl
       have hcc : c.entry = 128 := by rw [<- hc]; rfl
       have HCP : Hid _ := And.intro hmay (And.intro hclen (And.intro hnob hbnk))
       have cA := (HOq.out.bel.block nc lcs).trans HCB.out
       have a0 := S.cell_of wc nc 0 _ _ _ cA rfl
       have a1 := S.cell_of wc nc 1 _ _ _ cA rfl
       have a2 := S.cell_of wc nc 2 _ _ _ cA rfl
       have a3 := S.cell_of wc nc 3 _ _ _ cA rfl
       have kN := rnew8 _ c none 0 none 0 _ wc hCA hmay
       have HCA : Hid _ := And.intro hCA cA
       have HBA : Hid (Below w.heap.size w wc) := HB6w.out.trans (HOq.out.bel.mono (by have := HB2.out.size; have := HNC.out; omega))
       have lns : ns < wc.heap.size := S.lt_of HOq.out.blk
       clear hnd hnr hc hbA hCA hmay hclen hnob hbnk cA hcc
       go_wp2_with fail
       refine kN.mono ?_
       rintro e w7 ⟨g0, b0, ku0, F0, rfl, hx7, hf7, hb7⟩
       have H7 : Hid _ := And.intro hx7 (And.intro hf7 hb7)
       have kW := awake_any w7
       clear kN a0 a1 a2 a3 hx7 hf7 hb7
       go_wp2_with fail
       refine kW.mono ?_
       rintro e w8 ⟨rfl, hb8⟩
       have hx8 := H7.out.1.below hb8
       have c6 := hx8.c6
       have kS := M.rstore_any b0 at_ HI.out.2.2.2.1.1 HI.out.2.2.2.1.2 bx w8 hx8.mem (by show ([] : List (Int × Int × Int)).length <= 1000000; simp)
       have H8 : Hid _ := And.intro hx8 hb8
       obtain ⟨m1, hm1⟩ : ∃ m, M.st (born c).m at_ bx = m := ⟨_, rfl⟩
       rw [hm1] at kS
       have HM1 : Hid ((∀ k, m1.banks k = none) /\ m1.tones.length <= 1) := by
        rw [<- hm1]
        exact ⟨nobank_st HCP.out.2.2.1 at_ bx, M.st_tones _ _ _⟩
       clear kW hb8 hx8 hm1
       go_wp2_with fail
       refine kS.mono ?_
       rintro e w9 ⟨rfl, hRD⟩
       have hx9 := H8.out.1.goes hRD
       have hb9 : Below wc.heap.size wc w9 := by
        have z7 := H7.out.2.2.size
        have z8 := H8.out.2.size
        have q1 := H7.out.2.2.trans (H8.out.2.mono z7)
        exact q1.trans (S.Tc.below ⟨hRD.2.os, hRD.2.tape, hRD.2.output, hRD.2.size, hRD.2.block⟩ (by omega) H7.out.2.1.2.2)
       have H9 : Hid _ := And.intro hx9 hb9
       have HRD : Hid _ := hRD
       clear kS c6 hx9 hb9 hRD
       have hS : ∀ X : World, Below w9.heap.size w9 X -> (fun wz : World => wz.cell? ⟨nc, 0, none⟩ = some (.slice kp cl kc) /\ wz.cell? ⟨nc, 1, none⟩ = some (.int .u16 128) /\ wz.cell? ⟨nc, 2, none⟩ = some (.slice none 0 0) /\ wz.cell? ⟨nc, 3, none⟩ = some (.slice none 0 0) /\ wz.cell? ⟨ns, 0, none⟩ = some (.int .u16 130) /\ wz.cell? ⟨ns, 1, none⟩ = some (.int .i64 1) /\ wz.cell? ⟨ns, 2, none⟩ = some (.int .i64 0) /\ wz.cell? ⟨ns, 3, none⟩ = some (.slice dp nd dc) /\ wz.cell? ⟨ns, 4, none⟩ = some (.slice rp nr rc) /\ wz.cell? ⟨g0, 6, none⟩ = some (.pointer (some ⟨b0, 0, none⟩))) X := fun X hX => by
        have hb : Below wc.heap.size wc X := H9.out.2.trans (hX.mono H9.out.2.size)
        have hcx := (hb.block nc (by omega)).trans HCA.out.2
        have hsx := (hb.block ns lns).trans HOq.out.blk
        rw [HQL.out.1, HQL.out.2] at hsx
        exact ⟨S.cell_of X nc 0 _ _ _ hcx rfl, S.cell_of X nc 1 _ _ _ hcx rfl, S.cell_of X nc 2 _ _ _ hcx rfl, S.cell_of X nc 3 _ _ _ hcx rfl, S.cell_of X ns 0 _ _ _ hsx rfl, S.cell_of X ns 1 _ _ _ hsx rfl, S.cell_of X ns 2 _ _ _ hsx rfl, S.cell_of X ns 3 _ _ _ hsx rfl, S.cell_of X ns 4 _ _ _ hsx rfl, (H9.out.1.below hX).c6⟩
       have HS : Hid _ := hS
       have HBd : Hid (Below w9.heap.size w9 w9.drew) := ⟨rfl, rfl, rfl, Nat.le_refl _, fun _ _ => rfl⟩
       have kI := M.rimage_any b0 w9.drew (H9.out.1.below HBd.out).mem (by have := HM1.out.2; show m1.tones.length <= 1000000; omega)
       clear hS
       go_upto_region 21 with fail
       refine wp_region_held_drew (S := (fun wz : World => wz.cell? ⟨nc, 0, none⟩ = some (.slice kp cl kc) /\ wz.cell? ⟨nc, 1, none⟩ = some (.int .u16 128) /\ wz.cell? ⟨nc, 2, none⟩ = some (.slice none 0 0) /\ wz.cell? ⟨nc, 3, none⟩ = some (.slice none 0 0) /\ wz.cell? ⟨ns, 0, none⟩ = some (.int .u16 130) /\ wz.cell? ⟨ns, 1, none⟩ = some (.int .i64 1) /\ wz.cell? ⟨ns, 2, none⟩ = some (.int .i64 0) /\ wz.cell? ⟨ns, 3, none⟩ = some (.slice dp nd dc) /\ wz.cell? ⟨ns, 4, none⟩ = some (.slice rp nr rc) /\ wz.cell? ⟨g0, 6, none⟩ = some (.pointer (some ⟨b0, 0, none⟩)))) (by kernel_rfl) (HS.out _ HBd.out) (fun hHeld => ?_)
       generalize w9.drew = yd at *
       refine wtk0 (is := [0, 1, 2, 3, 4, 5]) ?_
       iterate 6
        refine wtk (v := ?_) rfl (by kernel_rfl) (by kernel_rfl) (by kernel_rfl) (fun c a w h => h) (Or.inl ⟨by rfl, ?_⟩) hHeld ?_
        rotate_left
        ·(intro w hSw; (try dsimp only at hSw); go_simp; try with_reducible rfl)
        simp only [Act.put, List.getElem_toArray, List.getElem_cons_zero, List.getElem_cons_succ, List.setIfInBounds_toArray, List.set_cons_zero, List.set_cons_succ]
       refine wtkE ?_
       refine wpAnyH_ready (rs := [6]) (by kernel_rfl) (by simp) ?_
       refine AllReadyH.cons rfl (fun K hK => ?_) AllReadyH.nil
       go_simp
       refine kI.mono ?_
       rintro e u1 ⟨pb, cb, gr, gc, rfl, hIm, hbu⟩
       dsimp only
       have HU1 : Hid _ := And.intro hIm hbu
       have HBU : Hid (Below w9.heap.size w9 u1) := HBd.out.trans (hbu.mono HBd.out.size)
       clear hIm hbu kI
       unfold M.imgC
       refine hK.out _ _ (HS.out u1 HBU.out) (fun hHeld => ?_)
       clear hK K
       try simp only [Act.put, List.getElem_toArray, List.getElem_cons_zero, List.getElem_cons_succ, List.setIfInBounds_toArray, List.set_cons_zero, List.set_cons_succ]
       have hw1 : M.Wf m1 := H9.out.1.mem.1
       have hin : M.inO m1 16 = [] := nobank_inO HM1.out.1
       have hbW : Below wc.heap.size wc u1 := H9.out.2.trans (HBU.out.mono H9.out.2.size)
       have lsD : S.Ls S.eU 1 u1 (.slice dp nd dc) Dq := by have := (S.own_sl S.hU HOq.out.d).below hbW; rw [HQL.out.1] at this; exact this
       have lsR : S.Ls S.eK 2 u1 (.slice rp nr rc) Rq := by have := (S.own_sl S.hK HOq.out.r).below hbW; rw [HQL.out.2] at this; exact this
       have hob : ∀ k, (Value.ownBlock (.slice dp nd dc) = some k \/ Value.ownBlock (.slice rp nr rc) = some k) -> k < wc.heap.size := fun k e => e.elim (fun e => (World.ownsRow.lt HOq.out.d k (by rw [HQL.out.1]; exact e)).2) (fun e => (World.ownsRow.lt HOq.out.r k (by rw [HQL.out.2]; exact e)).2)
       have HLS : Hid _ := And.intro hw1 (And.intro hin (And.intro hbW (And.intro lsD (And.intro lsR hob))))
       have kR := rrest8 _ c none 0 none 0 _ 130 1 0 dp rp dc rc Dq Rq m1 pb (some ⟨gr, 0, none⟩) (some ⟨gc, 0, none⟩) cb 16384 3072 u1 (HCA.out.1.below hbW) HCP.out.2.1 ⟨by decide, by decide⟩ (.inl ⟨rfl, rfl⟩) HDL.out HRL.out HRK.out HDC.out HRC.out (by rw [HQL.out.1]; exact lsD) (by rw [HQL.out.2]; exact lsR) (by rw [HQL.out.1, HQL.out.2]; exact fun k e => Nat.lt_of_lt_of_le (hob k e) hbW.size) HU1.out.1.bn (by rw [hw1.ram]; exact HU1.out.1.ram) (by rw [hw1.scr]; exact HU1.out.1.scr) hw1 (by rw [hin, HCP.out.2.2.2])
       rw [hw1.ram, hw1.scr, HQL.out.1, HQL.out.2] at kR
       clear hw1 hin hbW lsD lsR hob
       refine wpAnyH_ready (rs := [7]) (by kernel_rfl) (by simp) ?_
       refine AllReadyH.cons rfl (fun K hK => ?_) AllReadyH.nil
       go_simp
       refine kR.mono ?_
       rintro e w10 ⟨g1, b1, ku1, dv1, rv1, F1, rfl, hx10, hf10, hk10, hb10⟩
       dsimp only
       have H10 : Hid _ := And.intro hx10 (And.intro hf10 (And.intro hk10 hb10))
       have HB10 : Hid (Below w9.heap.size w9 w10) := HBU.out.trans (hb10.mono HBU.out.size)
       clear hx10 hf10 hk10 hb10 kR
       refine hK.out _ _ (HS.out w10 HB10.out) (fun hHeld => ?_)
       clear hK K
       try simp only [Act.put, List.getElem_toArray, List.getElem_cons_zero, List.getElem_cons_succ, List.setIfInBounds_toArray, List.set_cons_zero, List.set_cons_succ]
       refine wtk0 (is := [8, 9, 10, 11, 12]) ?_
       iterate 5
        refine wtk (v := ?_) rfl (by kernel_rfl) (by kernel_rfl) (by kernel_rfl) (fun c a w h => h) (Or.inl ⟨by rfl, ?_⟩) hHeld ?_
        rotate_left
        ·(intro w hSw; (try dsimp only at hSw); go_simp; try with_reducible rfl)
        simp only [Act.put, List.getElem_toArray, List.getElem_cons_zero, List.getElem_cons_succ, List.setIfInBounds_toArray, List.set_cons_zero, List.set_cons_succ]
       refine wtkE ?_
       refine wpAnyH_done (by kernel_rfl) ?_ _
       clear hHeld HS
       have hbw10 : Below wc.heap.size wc w10 := H9.out.2.trans (HB10.out.mono H9.out.2.size)
       have HW10 : Hid _ := hbw10
       have hS : ∀ X : World, Below w10.heap.size w10 X -> (fun wz : World => wz.cell? ⟨nc, 0, none⟩ = some (.slice kp cl kc) /\ wz.cell? ⟨nc, 1, none⟩ = some (.int .u16 128) /\ wz.cell? ⟨nc, 2, none⟩ = some (.slice none 0 0) /\ wz.cell? ⟨nc, 3, none⟩ = some (.slice none 0 0) /\ wz.cell? ⟨ns, 0, none⟩ = some (.int .u16 130) /\ wz.cell? ⟨ns, 1, none⟩ = some (.int .i64 1) /\ wz.cell? ⟨ns, 2, none⟩ = some (.int .i64 0) /\ wz.cell? ⟨ns, 3, none⟩ = some (.slice dp nd dc) /\ wz.cell? ⟨ns, 4, none⟩ = some (.slice rp nr rc) /\ wz.cell? ⟨g1, 6, none⟩ = some (.pointer (some ⟨b1, 0, none⟩))) X := fun X hX => by
        have hb : Below wc.heap.size wc X := HW10.out.trans (hX.mono HW10.out.size)
        have hcx := (hb.block nc (by omega)).trans HCA.out.2
        have hsx := (hb.block ns lns).trans HOq.out.blk
        rw [HQL.out.1, HQL.out.2] at hsx
        exact ⟨S.cell_of X nc 0 _ _ _ hcx rfl, S.cell_of X nc 1 _ _ _ hcx rfl, S.cell_of X nc 2 _ _ _ hcx rfl, S.cell_of X nc 3 _ _ _ hcx rfl, S.cell_of X ns 0 _ _ _ hsx rfl, S.cell_of X ns 1 _ _ _ hsx rfl, S.cell_of X ns 2 _ _ _ hsx rfl, S.cell_of X ns 3 _ _ _ hsx rfl, S.cell_of X ns 4 _ _ _ hsx rfl, (H10.out.1.below hX).c6⟩
       have HS : Hid _ := hS
       have HBd : Hid (Below w10.heap.size w10 w10.drew) := ⟨rfl, rfl, rfl, Nat.le_refl _, fun _ _ => rfl⟩
       have kO := ownCart_any _ c none 0 none 0 _ w10.drew (HCA.out.1.below (HW10.out.trans (HBd.out.mono HW10.out.size))) (fun _ => rfl)
       clear hS hbw10
       go_upto_region 22 with fail
       refine wp_region_held_drew (S := (fun wz : World => wz.cell? ⟨nc, 0, none⟩ = some (.slice kp cl kc) /\ wz.cell? ⟨nc, 1, none⟩ = some (.int .u16 128) /\ wz.cell? ⟨nc, 2, none⟩ = some (.slice none 0 0) /\ wz.cell? ⟨nc, 3, none⟩ = some (.slice none 0 0) /\ wz.cell? ⟨ns, 0, none⟩ = some (.int .u16 130) /\ wz.cell? ⟨ns, 1, none⟩ = some (.int .i64 1) /\ wz.cell? ⟨ns, 2, none⟩ = some (.int .i64 0) /\ wz.cell? ⟨ns, 3, none⟩ = some (.slice dp nd dc) /\ wz.cell? ⟨ns, 4, none⟩ = some (.slice rp nr rc) /\ wz.cell? ⟨g1, 6, none⟩ = some (.pointer (some ⟨b1, 0, none⟩)))) (by kernel_rfl) (HS.out _ HBd.out) (fun hHeld => ?_)
       generalize w10.drew = yd2 at *
       refine wtk0 (is := [0, 2, 4, 5, 6, 7]) ?_
       iterate 6
        refine wtk (v := ?_) rfl (by kernel_rfl) (by kernel_rfl) (by kernel_rfl) (fun c a w h => h) (Or.inl ⟨by rfl, ?_⟩) hHeld ?_
        rotate_left
        ·(intro w hSw; (try dsimp only at hSw); go_simp; try with_reducible rfl)
        simp only [Act.put, List.getElem_toArray, List.getElem_cons_zero, List.getElem_cons_succ, List.setIfInBounds_toArray, List.set_cons_zero, List.set_cons_succ]
       refine wtkE ?_
       refine wpAnyH_ready (rs := [1]) (by kernel_rfl) (by simp) ?_
       refine AllReadyH.cons rfl (fun K hK => ?_) AllReadyH.nil
       go_simp
       refine (kO).mono ?_
       rintro e q1 ⟨v', ep', ec', bp', bc', kv', rfl, hC', hq1⟩
       dsimp only
       have HC' : Hid _ := hC'
       have HQ1 : Hid (Below w10.heap.size w10 q1) := HBd.out.trans (hq1.mono HBd.out.size)
       clear hC' hq1 kO
       refine hK.out _ _ (HS.out q1 HQ1.out) (fun hHeld => ?_)
       clear hK K
       try simp only [Act.put, List.getElem_toArray, List.getElem_cons_zero, List.getElem_cons_succ, List.setIfInBounds_toArray, List.set_cons_zero, List.set_cons_succ]
       have lsD := HLS.out.2.2.2.1.below (W' := q1) (by
        have z := H10.out.2.2.2
        exact z.trans (HQ1.out.mono z.size))
       have lsR := HLS.out.2.2.2.2.1.below (W' := q1) (by
        have z := H10.out.2.2.2
        exact z.trans (HQ1.out.mono z.size))
       have kS := lstate_any 130 1 0 dp rp dc rc Dq Rq HDL.out HRL.out q1 (by rw [HQL.out.1]; exact lsD) (by rw [HQL.out.2]; exact lsR)
       rw [HQL.out.1, HQL.out.2] at kS
       clear lsD lsR
       refine wpAnyH_ready (rs := [3]) (by kernel_rfl) (by simp) ?_
       refine AllReadyH.cons rfl (fun K hK => ?_) AllReadyH.nil
       go_simp
       refine (kS).mono ?_
       rintro e q2 ⟨sp1, sc1, sp2, sc2, rfl, hrd, hrr, hq2⟩
       dsimp only
       have HRW : Hid _ := And.intro hrd hrr
       have HB12 : Hid _ := hq2
       have HQ2 : Hid (Below w10.heap.size w10 q2) := HQ1.out.trans (hq2.mono HQ1.out.size)
       clear hrd hrr hq2 kS
       refine hK.out _ _ (HS.out q2 HQ2.out) (fun hHeld => ?_)
       clear hK K
       try simp only [Act.put, List.getElem_toArray, List.getElem_cons_zero, List.getElem_cons_succ, List.setIfInBounds_toArray, List.set_cons_zero, List.set_cons_succ]
       have kI := M.rimage_any b1 q2 (H10.out.1.below HQ2.out).mem (by show ([] : List (Int × Int × Int)).length <= 1000000; simp)
       refine wpAnyH_ready (rs := [8]) (by kernel_rfl) (by simp) ?_
       refine AllReadyH.cons rfl (fun K hK => ?_) AllReadyH.nil
       go_simp
       refine (kI).mono ?_
       rintro e q3 ⟨pb2, cb2, gr2, gc2, rfl, hIm, hq3⟩
       dsimp only
       have HI3 : Hid _ := And.intro hIm hq3
       have HQ3 : Hid (Below w10.heap.size w10 q3) := HQ2.out.trans (hq3.mono HQ2.out.size)
       clear hIm hq3 kI
       unfold M.imgC
       refine hK.out _ _ (HS.out q3 HQ3.out) (fun hHeld => ?_)
       clear hK K
       try simp only [Act.put, List.getElem_toArray, List.getElem_cons_zero, List.getElem_cons_succ, List.setIfInBounds_toArray, List.set_cons_zero, List.set_cons_succ]
       have kM := limage_any pb2 (some ⟨gr2, 0, none⟩) (some ⟨gc2, 0, none⟩) (M.inO (M.rs m1) 16).length cb2 16384 16384 3072 3072 (M.rs m1) q3
       refine wpAnyH_ready (rs := [9]) (by kernel_rfl) (by simp) ?_
       refine AllReadyH.cons rfl (fun K hK => ?_) AllReadyH.nil
       go_simp
       refine (kM).mono ?_
       rintro e q4 ⟨rfl, hq4⟩
       dsimp only
       have HB34 : Hid _ := hq4
       have HQ4 : Hid (Below w10.heap.size w10 q4) := HQ3.out.trans (hq4.mono HQ3.out.size)
       clear hq4 kM
       refine hK.out _ _ (HS.out q4 HQ4.out) (fun hHeld => ?_)
       clear hK K
       try simp only [Act.put, List.getElem_toArray, List.getElem_cons_zero, List.getElem_cons_succ, List.setIfInBounds_toArray, List.set_cons_zero, List.set_cons_succ]
       have hw2 : M.Wf (M.rs m1) := H10.out.1.mem.1
       have b24 : Below q2.heap.size q2 q4 := HI3.out.2.trans (HB34.out.mono HI3.out.2.size)
       have b14 : Below q1.heap.size q1 q4 := HB12.out.trans (b24.mono HB12.out.size)
       obtain ⟨_, _, ee1, _, slD⟩ := ((S.own_sl S.hU (l := Dq) (by rw [HQL.out.1]; exact HRW.out.1)).below b24).ex
       cases ee1
       obtain ⟨_, _, ee2, _, slR⟩ := ((S.own_sl S.hK (l := Rq) (by rw [HQL.out.2]; exact HRW.out.2)).below b24).ex
       cases ee2
       have hin2 : M.inO (M.rs m1) 16 = [] := nobank_inO HM1.out.1
       have kV := restore_is v' c ep' ec' bp' bc' kv' 130 1 0 sp1 sp2 sc1 sc2 Dq Rq (M.rs m1) pb2 (some ⟨gr2, 0, none⟩) (some ⟨gc2, 0, none⟩) cb2 16384 3072 q4 (HC'.out.below b14) HCP.out.1 ⟨by decide, by decide⟩ (.inl ⟨rfl, rfl⟩) (mayS_of HRK.out HDL.out HRL.out) HDC.out HRC.out slD slR (HI3.out.1.bn.below HB34.out) (by rw [hw2.ram]; exact M.Sl.below HI3.out.1.ram HB34.out) (by rw [hw2.scr]; exact M.Sl.below HI3.out.1.scr HB34.out) hw2 (by rw [hin2, HCP.out.2.2.2])
       rw [hw2.ram, hw2.scr, HQL.out.1, HQL.out.2] at kV
       clear hw2 b24 b14 slD slR hin2
       refine wpAnyH_ready (rs := [10]) (by kernel_rfl) (by simp) ?_
       refine AllReadyH.cons rfl (fun K hK => ?_) AllReadyH.nil
       go_simp
       refine (kV).mono ?_
       rintro e w11 ⟨g, bd, br, bm, ku, F, rfl, hM11, hF11, hb11⟩
       dsimp only
       have H11 : Hid _ := And.intro hM11 (And.intro hF11 hb11)
       have HB11 : Hid (Below w10.heap.size w10 w11) := HQ4.out.trans (hb11.mono HQ4.out.size)
       clear hM11 hF11 hb11 kV
       refine hK.out _ _ (HS.out w11 HB11.out) (fun hHeld => ?_)
       clear hK K
       try simp only [Act.put, List.getElem_toArray, List.getElem_cons_zero, List.getElem_cons_succ, List.setIfInBounds_toArray, List.set_cons_zero, List.set_cons_succ]
       refine wtk0 (is := [11, 12, 13, 14, 15]) ?_
       iterate 5
        refine wtk (v := ?_) rfl (by kernel_rfl) (by kernel_rfl) (by kernel_rfl) (fun c a w h => h) (Or.inl ⟨by rfl, ?_⟩) hHeld ?_
        rotate_left
        ·(intro w hSw; (try dsimp only at hSw); go_simp; try with_reducible rfl)
        simp only [Act.put, List.getElem_toArray, List.getElem_cons_zero, List.getElem_cons_succ, List.setIfInBounds_toArray, List.set_cons_zero, List.set_cons_succ]
       refine wtkE ?_
       refine wpAnyH_done (by kernel_rfl) ?_ _
       clear hHeld HS
       obtain ⟨v1, hv1⟩ : ∃ v : VS, (⟨c.code, 130, 1, 0, Dq, Rq, M.rs m1⟩ : VS) = v := ⟨_, rfl⟩
       have ht1 : v1.m.tones.length <= 999000 := by rw [<- hv1]; show ([] : List (Int × Int × Int)).length <= 999000; simp
       have hx11 : RX w11 g1 b1 ku1 dv1 rv1 F1 v1 := by rw [<- hv1]; exact H10.out.1.below HB11.out
       have hM11 : MV w11 g bd br bm ku F v1 := by rw [<- hv1]; exact H11.out.1
       have kA := rstep_any g1 b1 ku1 dv1 rv1 F1 v1 ht1 w11 hx11
       obtain ⟨sb, hsb⟩ : ∃ b, (step v1).1 = b := ⟨_, rfl⟩
       obtain ⟨v2, hv2⟩ : ∃ v, (step v1).2 = v := ⟨_, rfl⟩
       rw [hsb, hv2] at kA
       have HX11 : Hid _ := And.intro hx11 (And.intro hM11 ht1)
       have HSV : Hid _ := And.intro hsb hv2
       have HF : Hid (∀ i, (TV g bd br F i \/ ku.ownBlock = some i) -> w10.heap.size <= i) := fun i e => by
        have z := HQ4.out.size
        rcases e with (e | e | e | e) | e
        ·have := H11.out.2.1.g; omega
        ·have := H11.out.2.1.d; omega
        ·have := H11.out.2.1.r; omega
        ·have := H11.out.2.1.f i e; omega
        ·have := H11.out.2.1.k i e; omega
       clear hv1 hx11 hM11 hsb hv2 ht1
       go_wp2_with fail
       refine kA.mono ?_
       rintro e w12 ⟨rfl, hY⟩
       have hM12 : MV w12 g bd br bm ku F v1 := HX11.out.2.1.kept hY.t.size fun i hi e => hY.t.block i hi fun c => by
        have h1 := HF.out i e
        rcases c with c | c
        ·have := H10.out.1.lt; omega
        ·have := H10.out.1.fb i c; omega
       have kB := step_any v1 HX11.out.2.2 g bd br bm ku F w12 hM12
       rw [HSV.out.1, HSV.out.2] at kB
       have HY : Hid _ := hY
       have HM12 : Hid _ := hM12
       clear kA hY hM12
       go_wp2_with fail
       refine kB.mono ?_
       rintro e w13 ⟨rfl, hV⟩
       obtain ⟨dv2, rv2, F2, hF2, hO2, hx12⟩ := HY.out.s
       have hlt : ∀ i, TV g bd br F i -> i < w11.heap.size := fun i e => by
        rcases e with e | e | e | e
        ·rw [e]; exact HX11.out.2.1.lt
        ·rw [e]; exact HX11.out.2.1.lt_d
        ·rw [e]; exact HX11.out.2.1.lt_r
        ·exact HX11.out.2.1.fb i e
       have hx13 : RX w13 g1 b1 ku1 dv2 rv2 F2 v2 := by
        refine hx12.tc hV.t ?_ ?_ ?_
        ·intro c
         have h1 := HF.out g1 (.inl c)
         have := H10.out.1.lt
         omega
        ·intro i f c
         have h1 := HF.out i (.inl c)
         have h2 := hlt i c
         rcases hF2 i f with h | h
         ·have := H10.out.1.fb i h; omega
         ·omega
        ·intro i e c
         have h1 := HF.out i (.inl c)
         have h2 := hlt i c
         rcases e with e | e
         ·have := (H10.out.1.ck i (.inl e)).1; omega
         ·rcases hO2 i e with h | ⟨u, h, hu⟩
          ·omega
          ·rcases h with h | h
           ·rw [HX11.out.1.c4] at h
            cases h
            have := (H10.out.1.ck i (.inr (.inl hu))).1; omega
           ·rw [HX11.out.1.c5] at h
            cases h
            have := (H10.out.1.ck i (.inr (.inr hu))).1; omega
       have HBw : Hid (Below w.heap.size w w13) := by
        have z1 : Below w.heap.size w w10 := HBA.out.trans (HW10.out.mono HBA.out.size)
        have z2 : Below w.heap.size w w11 := z1.trans (HB11.out.mono z1.size)
        have g9 : wc.heap.size <= g1 := by have := H10.out.2.1.g; have := H9.out.2.size; have := HBU.out.size; omega
        have z3 : Below wc.heap.size w11 w12 := S.Tc.below HY.out.t (by have := HW10.out.size; have := HB11.out.size; omega) (fun i e => by
         rcases e with e | e
         ·omega
         ·have h1 := H10.out.2.1.f i e; have := H9.out.2.size; have := HBU.out.size; omega)
        have z4 : Below wc.heap.size w12 w13 := S.Tc.below hV.t (by have := HW10.out.size; have := HB11.out.size; have := HY.out.t.size; omega) (fun i e => by have h1 := HF.out i (.inl e); have := HW10.out.size; omega)
        have z5 := z2.trans (z3.mono HBA.out.size)
        exact z5.trans (z4.mono HBA.out.size)
       have H13 : Hid _ := And.intro hx13 hV.s
       have HTN : Hid (v2.m.tones.length <= 1000000) := by
        show v2.m.tones.length <= 1000000
        rw [<- HSV.out.2]
        have := step_tones v1
        have := HX11.out.2.2
        omega
       clear kB hV hF2 hO2 hx12 hlt hx13
       have kMe := memory_any g bd br bm ku _ v2 w13 H13.out.2
       go_wp2_with fail
       refine kMe.mono ?_
       rintro e wx ⟨rfl, hwx⟩
       rw [hwx]
       clear hwx wx kMe
       have kIm := M.image_has bm w13 H13.out.2.ps.m
       have hwf2 : M.Wf v2.m := H13.out.1.mem.1
       go_wp2_with fail
       refine kIm.mono ?_
       rintro e w14 ⟨iu, irv, isv, igs, iN1, iN2, rfl, hImO, hb14⟩
       obtain ⟨ip, icap, irp, irc, isp, isc, hu1, hu2, hu3, hbn4, hrm4, hsm4⟩ := M.inO_forms hImO (fun t ht => by have := M.inO_full v2.m hwf2 16 t ht; unfold M.room; omega)
       subst hu1 hu2 hu3
       obtain ⟨nb, hnb⟩ : ∃ n, (M.inO v2.m 16).length = n := ⟨_, rfl⟩
       rw [hwf2.ram] at hrm4
       rw [hwf2.scr] at hsm4
       have HNB : Hid _ := hnb
       have H14 : Hid _ := And.intro hbn4 (And.intro hrm4 (And.intro hsm4 hb14))
       have HWF : Hid _ := hwf2
       unfold M.imgC
       rw [hnb, hwf2.ram, hwf2.scr]
       clear kIm hImO hbn4 hrm4 hsm4 hb14 hwf2 hnb
       obtain ⟨w15, hw15⟩ : ∃ y, w14.alloc (.cells #[.slice ip nb icap, .slice irp 16384 irc, .slice isp 3072 isc, .int .u8 v2.m.ch, .int .u8 v2.m.pad, .int .u16 v2.m.pitch, .int .u8 v2.m.vol, .int .u16 v2.m.time] 71) = y := ⟨_, rfl⟩
       have b15 : Below w14.heap.size w14 w15 := by rw [<- hw15]; exact P.bel_alloc w14 _
       have n15 : w15.heap[w14.heap.size]? = some (.cells [.slice ip nb icap, .slice irp 16384 irc, .slice isp 3072 isc, .int .u8 v2.m.ch, .int .u8 v2.m.pad, .int .u16 v2.m.pitch, .int .u8 v2.m.vol, .int .u16 v2.m.time].toArray 71 (0, 0)) := by rw [<- hw15]; exact heap_alloc_new w14 _
       obtain ⟨ni, hni⟩ : ∃ n, w14.heap.size = n := ⟨_, rfl⟩
       have HW15 : Hid _ := And.intro hw15 hni
       rw [hni] at n15
       have lni : ni < w15.heap.size := S.lt_of n15
       have hx15 : RX w15 g1 b1 ku1 dv2 rv2 F2 v2 := H13.out.1.below (H14.out.2.2.2.trans (b15.mono H14.out.2.2.2.size))
       have hM15 := H13.out.2.below (H14.out.2.2.2.trans (b15.mono H14.out.2.2.2.size))
       have H15 : Hid _ := And.intro hx15 (And.intro hM15 (And.intro b15 n15))
       clear hw15 b15 n15 hni hx15 hM15
       have hS : ∀ X : World, Below w15.heap.size w15 X -> (fun wz : World => wz.cell? ⟨g1, 6, none⟩ = some (.pointer (some ⟨b1, 0, none⟩)) /\ wz.cell? ⟨ni, 0, none⟩ = some (.slice ip nb icap) /\ wz.cell? ⟨ni, 1, none⟩ = some (.slice irp 16384 irc) /\ wz.cell? ⟨ni, 2, none⟩ = some (.slice isp 3072 isc) /\ wz.cell? ⟨ni, 3, none⟩ = some (.int .u8 v2.m.ch) /\ wz.cell? ⟨ni, 4, none⟩ = some (.int .u8 v2.m.pad) /\ wz.cell? ⟨ni, 5, none⟩ = some (.int .u16 v2.m.pitch) /\ wz.cell? ⟨ni, 6, none⟩ = some (.int .u8 v2.m.vol) /\ wz.cell? ⟨ni, 7, none⟩ = some (.int .u16 v2.m.time)) X := fun X hX => by
        have hn := (hX.block ni lni).trans H15.out.2.2.2
        exact ⟨(H15.out.1.below hX).c6, S.cell_of X ni 0 _ _ _ hn rfl, S.cell_of X ni 1 _ _ _ hn rfl, S.cell_of X ni 2 _ _ _ hn rfl, S.cell_of X ni 3 _ _ _ hn rfl, S.cell_of X ni 4 _ _ _ hn rfl, S.cell_of X ni 5 _ _ _ hn rfl, S.cell_of X ni 6 _ _ _ hn rfl, S.cell_of X ni 7 _ _ _ hn rfl⟩
       have HS : Hid _ := hS
       have HBd : Hid (Below w15.heap.size w15 w15.drew) := ⟨rfl, rfl, rfl, Nat.le_refl _, fun _ _ => rfl⟩
       have htn : v2.m.tones.length <= 1000000 := HTN.out
       have kI := M.rimage_any b1 w15.drew (H15.out.1.below HBd.out).mem htn
       clear hS htn
       go_upto_region 28 with fail
       try rw [HW15.out.1]
       try rw [HW15.out.2]
       refine wp_region_held_drew (S := (fun wz : World => wz.cell? ⟨g1, 6, none⟩ = some (.pointer (some ⟨b1, 0, none⟩)) /\ wz.cell? ⟨ni, 0, none⟩ = some (.slice ip nb icap) /\ wz.cell? ⟨ni, 1, none⟩ = some (.slice irp 16384 irc) /\ wz.cell? ⟨ni, 2, none⟩ = some (.slice isp 3072 isc) /\ wz.cell? ⟨ni, 3, none⟩ = some (.int .u8 v2.m.ch) /\ wz.cell? ⟨ni, 4, none⟩ = some (.int .u8 v2.m.pad) /\ wz.cell? ⟨ni, 5, none⟩ = some (.int .u16 v2.m.pitch) /\ wz.cell? ⟨ni, 6, none⟩ = some (.int .u8 v2.m.vol) /\ wz.cell? ⟨ni, 7, none⟩ = some (.int .u16 v2.m.time))) (by kernel_rfl) (HS.out _ HBd.out) (fun hHeld => ?_)
       generalize w15.drew = yd3 at *
       refine wtk0 (is := [0, 1, 2, 3, 5, 6, 7, 8, 9, 10, 11, 12, 13, 14, 15, 16, 17, 18, 19, 20, 21]) ?_
       iterate 21
        refine wtk (v := ?_) rfl (by kernel_rfl) (by kernel_rfl) (by kernel_rfl) (fun c a w h => h) (Or.inl ⟨by rfl, ?_⟩) hHeld ?_
        rotate_left
        ·(intro w hSw; (try dsimp only at hSw); go_simp; try with_reducible rfl)
        simp only [Act.put, List.getElem_toArray, List.getElem_cons_zero, List.getElem_cons_succ, List.setIfInBounds_toArray, List.set_cons_zero, List.set_cons_succ]
       refine wtkE ?_
       refine wpAnyH_ready (rs := [4]) (by kernel_rfl) (by simp) ?_
       refine AllReadyH.cons rfl (fun K hK => ?_) AllReadyH.nil
       go_simp
       refine (kI).mono ?_
       rintro e r1 ⟨pb3, cb3, gr3, gc3, rfl, hIm, hr1⟩
       dsimp only
       have HR1 : Hid _ := And.intro hIm (HBd.out.trans (hr1.mono HBd.out.size))
       clear hIm hr1 kI
       unfold M.imgC
       rw [HNB.out]
       refine hK.out _ _ (HS.out r1 HR1.out.2) (fun hHeld => ?_)
       clear hK K
       try simp only [Act.put, List.getElem_toArray, List.getElem_cons_zero, List.getElem_cons_succ, List.setIfInBounds_toArray, List.set_cons_zero, List.set_cons_succ]
       have b4r : Below w14.heap.size w14 r1 := H15.out.2.2.1.trans (HR1.out.2.mono H15.out.2.2.1.size)
       have kE := M.sameImage_any pb3 ip cb3 icap (M.inO v2.m 16) (by have := M.inO_len v2.m 16; unfold M.room; omega) _ _ _ _ v2.m.ram v2.m.scr v2.m r1 HR1.out.1.bn (H14.out.1.below b4r) HR1.out.1.ram (M.Sl.below H14.out.2.1 b4r) HR1.out.1.scr (M.Sl.below H14.out.2.2.1 b4r)
       rw [HNB.out] at kE
       clear b4r
       refine wpAnyH_ready (rs := [22]) (by kernel_rfl) (by simp) ?_
       refine AllReadyH.cons rfl (fun K hK => ?_) AllReadyH.nil
       go_simp
       refine (kE).mono ?_
       rintro e r2 ⟨rfl, hr2⟩
       dsimp only
       have HR2 : Hid (Below w15.heap.size w15 r2) := HR1.out.2.trans (hr2.mono HR1.out.2.size)
       clear hr2 kE
       refine hK.out _ _ (HS.out r2 HR2.out) (fun hHeld => ?_)
       clear hK K
       try simp only [Act.put, List.getElem_toArray, List.getElem_cons_zero, List.getElem_cons_succ, List.setIfInBounds_toArray, List.set_cons_zero, List.set_cons_succ]
       refine wpAnyH_take (i := 23) (v := ?_) rfl (by kernel_rfl) (by kernel_rfl) (by kernel_rfl) (fun c a w h => h) (Or.inl ⟨by rfl, ?_⟩) hHeld ?_
       rotate_left
       ·(intro w hSw; (try dsimp only at hSw); go_simp; try with_reducible rfl)
       simp only [Act.put, List.getElem_toArray, List.getElem_cons_zero, List.getElem_cons_succ, List.setIfInBounds_toArray, List.set_cons_zero, List.set_cons_succ]
       refine wpAnyH_done (by kernel_rfl) ?_ _
       clear hHeld HS
       have hx16 : RX r2 g1 b1 ku1 dv2 rv2 F2 v2 := H15.out.1.below HR2.out
       have hM16 := H15.out.2.1.below HR2.out
       obtain ⟨dp2, dc2, hdv2, _, _⟩ := hx16.d.ex
       obtain ⟨rp2, rc2, hrv2, _, _⟩ := hx16.r.ex
       subst hdv2 hrv2
       have hS : ∀ X : World, Below r2.heap.size r2 X -> (fun wz : World => wz.cell? ⟨g1, 1, none⟩ = some (.int .u16 v2.pc) /\ wz.cell? ⟨g1, 2, none⟩ = some (.int .i64 v2.st) /\ wz.cell? ⟨g1, 3, none⟩ = some (.int .i64 v2.fa) /\ wz.cell? ⟨g1, 4, none⟩ = some (.slice dp2 v2.D.length dc2) /\ wz.cell? ⟨g1, 5, none⟩ = some (.slice rp2 v2.R.length rc2)) X := fun X hX => by
        have h := hx16.below hX
        exact ⟨h.c1, h.c2, h.c3, h.c4, h.c5⟩
       have HS : Hid _ := hS
       have H16 : Hid _ := And.intro hx16 hM16
       have HBd : Hid (Below r2.heap.size r2 r2.drew) := ⟨rfl, rfl, rfl, Nat.le_refl _, fun _ _ => rfl⟩
       have kS := state_any g bd br bm ku _ v2 r2.drew (hM16.below HBd.out)
       unfold StV at kS
       clear hS hx16 hM16
       go_upto_region 29 with fail
       refine wp_region_held_drew (S := (fun wz : World => wz.cell? ⟨g1, 1, none⟩ = some (.int .u16 v2.pc) /\ wz.cell? ⟨g1, 2, none⟩ = some (.int .i64 v2.st) /\ wz.cell? ⟨g1, 3, none⟩ = some (.int .i64 v2.fa) /\ wz.cell? ⟨g1, 4, none⟩ = some (.slice dp2 v2.D.length dc2) /\ wz.cell? ⟨g1, 5, none⟩ = some (.slice rp2 v2.R.length rc2))) (by kernel_rfl) (HS.out _ HBd.out) (fun hHeld => ?_)
       generalize r2.drew = yd4 at *
       have esb : (sb == sb) = true := by simp
       refine wtk0 (is := [0, 1, 2, 3, 4, 6, 7, 8, 9]) ?_
       iterate 9
        refine wtk (v := ?_) rfl (by kernel_rfl) (by kernel_rfl) (by kernel_rfl) (fun c a w h => h) (Or.inl ⟨by rfl, ?_⟩) hHeld ?_
        rotate_left
        ·(intro w hSw; (try dsimp only at hSw); go_simp; try with_reducible rfl)
        simp only [Act.put, List.getElem_toArray, List.getElem_cons_zero, List.getElem_cons_succ, List.setIfInBounds_toArray, List.set_cons_zero, List.set_cons_succ]
       refine wtkE ?_
       refine wpAnyH_ready (rs := [5]) (by kernel_rfl) (by simp) ?_
       refine AllReadyH.cons rfl (fun K hK => ?_) AllReadyH.nil
       go_simp
       refine (kS).mono ?_
       rintro e r3 ⟨p1, c1, p2, c2, rfl, hrd, hrr, hr3⟩
       dsimp only
       have HR3 : Hid _ := And.intro hrd (And.intro hrr (HBd.out.trans (hr3.mono HBd.out.size)))
       clear hrd hrr hr3 kS
       refine hK.out _ _ (HS.out r3 HR3.out.2.2) (fun hHeld => ?_)
       clear hK K
       try simp only [Act.put, List.getElem_toArray, List.getElem_cons_zero, List.getElem_cons_succ, List.setIfInBounds_toArray, List.set_cons_zero, List.set_cons_succ]
       obtain ⟨_, _, ee1, _, slD⟩ := (S.own_sl S.hU (l := v2.D) HR3.out.1).ex
       cases ee1
       obtain ⟨_, _, ee2, _, slR⟩ := (S.own_sl S.hK (l := v2.R) HR3.out.2.1).ex
       cases ee2
       obtain ⟨_, _, ee3, _, tlD⟩ := (H16.out.1.below HR3.out.2.2).d.ex
       cases ee3
       obtain ⟨_, _, ee4, _, tlR⟩ := (H16.out.1.below HR3.out.2.2).r.ex
       cases ee4
       have kQ := sameState_true v2 p1 p2 dp2 rp2 c1 c2 dc2 rc2 H16.out.1.dl H16.out.1.rl r3 slD slR tlD tlR
       unfold StV at kQ
       clear slD slR tlD tlR
       refine wpAnyH_ready (rs := [10]) (by kernel_rfl) (by simp) ?_
       refine AllReadyH.cons rfl (fun K hK => ?_) AllReadyH.nil
       go_simp
       refine (kQ).mono ?_
       rintro e r4 ⟨rfl, hr4⟩
       dsimp only
       have HR4 : Hid (Below r2.heap.size r2 r4) := HR3.out.2.2.trans (hr4.mono HR3.out.2.2.size)
       clear hr4 kQ
       refine hK.out _ _ (HS.out r4 HR4.out) (fun hHeld => ?_)
       clear hK K
       try simp only [Act.put, List.getElem_toArray, List.getElem_cons_zero, List.getElem_cons_succ, List.setIfInBounds_toArray, List.set_cons_zero, List.set_cons_succ]
       refine wtk0 (is := [11, 12, 13, 14, 15]) ?_
       iterate 5
        refine wtk (v := ?_) rfl (by kernel_rfl) (by kernel_rfl) (by kernel_rfl) (fun c a w h => h) (Or.inl ⟨by rfl, ?_⟩) hHeld ?_
        rotate_left
        ·(intro w hSw; (try dsimp only at hSw); go_simp; try with_reducible rfl)
        simp only [Act.put, List.getElem_toArray, List.getElem_cons_zero, List.getElem_cons_succ, List.setIfInBounds_toArray, List.set_cons_zero, List.set_cons_succ]
       refine wtkE ?_
       refine wpAnyH_done (by kernel_rfl) ?_ _
       clear hHeld HS
       have HEND : Hid (Below w.heap.size w r4) := by
        have z1 := HBw.out.trans (H14.out.2.2.2.mono HBw.out.size)
        have z2 := z1.trans (H15.out.2.2.1.mono z1.size)
        have z3 := z2.trans (HR2.out.mono z2.size)
        exact z3.trans (HR4.out.mono z3.size)
       go_wp2
       go_ret
       exact ⟨rfl, HEND.out⟩
end Go.Proofs.YteldjmecomngeaaGreat.V
