import Derived.Test.YtlilefhmohkfkaaGreatDoorEDrop
import Derived.Test.YtlilefhmohkfkaaGreatDoorYOwnP
import Derived.Test.YtlilefhmohkfkaaGreatDoorYWhoN
namespace Go.Proofs.YtlilefhmohkfkaaGreatDoor.Y
open Go.RowKit
open Go.Proofs
set_option linter.unusedVariables false
set_option linter.unusedSimpArgs false
set_option maxHeartbeats 4000000
set_option maxRecDepth 100000
theorem whole_prog (ds : List Df) (bs : List Bk) (dv bkv bkq : Value) (b c : Nat) (U O K : Nat -> Prop) (W : World) (hO : ∀ i, O i -> i < W.heap.size) (hU : ∀ i, U i -> i < W.heap.size) (hKK : ∀ i, K i -> i < W.heap.size) (hb : b < W.heap.size) (hQ : QD W U b c ds) (hD : DV W O dv ds) (hk1 : BV W K bkq bs) (hk2 : BV W O bkv bs) (hbl : bs.length <= 1048576) :
  Calls Tryz.prog 22 #[.agg #[.slice (some ⟨b, 0, none⟩) ds.length c, bkq], .agg #[dv, bkv]] W fun e w' => e = .returned (.bool true) /\ Below W.heap.size W w' := by
 obtain ⟨q, c2, rfl, hl, hp⟩ := id hD
 obtain ⟨qk, ck, rfl, hpk⟩ := id hk1
 obtain ⟨qb, cb2, rfl, hpb⟩ := id hk2
 have hlen := hQ.len
 have hcap := hQ.cap
 have hc1 : (ds.length : Int) + 1 <= (c : Int) := by omega
 have hc2 : ds.length + 1 <= c := by omega
 have hc3 : (ds.length : Int) < (ds.length : Int) + 1 := by omega
 have hc4 : (0 : Int) <= (ds.length : Int) + 1 := by omega
 have hwr : IntKind.i64.wrap ((ds.length : Int) + 1) = (ds.length : Int) + 1 := by rw [IntWalk.i64_left, w_in _ (by omega)]
 have htn : ((ds.length : Int) + 1).toNat = ds.length + 1 := by omega
 obtain ⟨W1, hW1⟩ : ∃ W1, (W.alloc (.cells #[.slice (some ⟨b, 0, none⟩) ds.length c, .slice qk bs.length ck] 35)).alloc (.cells #[.slice q ds.length c2, .slice qb bs.length cb2] 35) = W1 := ⟨_, rfl⟩
 have k1 : Below W.heap.size W W1 := by rw [<- hW1]; exact ((Below.refl _ W).alloc (Nat.le_refl _) _).alloc (by simp) _
 have v1 : W1.heap[W.heap.size]? = some (.cells [.slice (some ⟨b, 0, none⟩) ds.length c, .slice qk bs.length ck].toArray 35 (0, 0)) := by rw [<- hW1]; exact heap_alloc2_old W _ _
 have v2 : W1.heap[W.heap.size + 1]? = some (.cells [.slice q ds.length c2, .slice qb bs.length cb2].toArray 35 (0, 0)) := by rw [<- hW1]; exact heap_alloc2_new W _ _
 have hmk : ∀ X : World, Below W1.heap.size W1 X -> (fun wz : World => wz.cell? ⟨W.heap.size, 0, none⟩ = some (.slice (some ⟨b, 0, none⟩) ds.length c) /\ wz.cell? ⟨W.heap.size, 1, none⟩ = some (.slice qk bs.length ck) /\ wz.cell? ⟨W.heap.size + 1, 0, none⟩ = some (.slice q ds.length c2) /\ wz.cell? ⟨W.heap.size + 1, 1, none⟩ = some (.slice qb bs.length cb2) /\ wz.cell? ⟨b, ds.length * 6, none⟩ = some (.int .i64 77)) X := fun X hX => by
  have a1 := (hX.block _ (S.lt_of v1)).trans v1
  have a2 := (hX.block _ (S.lt_of v2)).trans v2
  exact ⟨S.cell_of X _ 0 _ 35 _ a1 rfl, S.cell_of X _ 1 _ 35 _ a1 rfl, S.cell_of X _ 0 _ 35 _ a2 rfl, S.cell_of X _ 1 _ 35 _ a2 rfl, (World.cell?_of_block (w := W) (a := ⟨b, ds.length * 6, none⟩) ((hX.block b (Nat.lt_of_lt_of_le hb k1.size)).trans (k1.block b hb))).trans hQ.mrk⟩
 obtain ⟨m0, m1, m2, m3, m4⟩ := hmk W1 (Below.refl _ _)
 have HMK := hid hmk
 have HW := hid hW1
 have HK1 := hid k1
 have HH := hid (And.intro hO (And.intro hU (And.intro hKK (And.intro hb (And.intro hQ (And.intro hp (And.intro hpk hpb)))))))
 clear hmk hW1 k1 v1 v2 hO hU hKK hQ hp hpk hpb hD hk1 hk2
 go_enter Tryz.func22, Tryz.ntmps22
 go_upto_region 1 with fail
 rw [HW.out]
 go_cut [40] (fun s wc => s = .bool false /\ Below W1.heap.size W1 wc)
 case first =>
  have HB1 := hid (Below.refl W1.heap.size W1).drew
  refine wp_region_held_drew (S := (fun wz : World => wz.cell? ⟨W.heap.size, 0, none⟩ = some (.slice (some ⟨b, 0, none⟩) ds.length c) /\ wz.cell? ⟨W.heap.size, 1, none⟩ = some (.slice qk bs.length ck) /\ wz.cell? ⟨W.heap.size + 1, 0, none⟩ = some (.slice q ds.length c2) /\ wz.cell? ⟨W.heap.size + 1, 1, none⟩ = some (.slice qb bs.length cb2) /\ wz.cell? ⟨b, ds.length * 6, none⟩ = some (.int .i64 77))) (by kernel_rfl) (HMK.out _ HB1.out) (fun hHeld => ?_)
  generalize W1.drew = y0 at *
  refine E.zH (is := [0, 1, 2, 3, 4, 5, 6, 7, 8, 9, 10, 11, 12, 13, 14, 15, 16, 17, 18, 19, 20, 21, 22, 23, 24, 25, 26, 27, 28, 29, 30, 31]) ?_
  iterate 32
   refine E.yH (v := ?_) rfl (by kernel_rfl) (fun c a w h => h) (by rfl) ?_ hHeld ?_
   rotate_left
   ·(intro w hSw; (try dsimp only at hSw); go_simp; try with_reducible rfl)
   simp only [E.pts]
  refine E.eH ?_
  refine wpAnyH_done (by kernel_rfl) ?_ _
  clear hHeld
  go_wp2
  go_meet
  case rel => exact ⟨rfl, HB1.out⟩
 case rest =>
  obtain ⟨rfl, hcut⟩ := hcut
  have HC := hid hcut
  clear hcut m0 m1 m2 m3 m4 HW
  obtain ⟨m0, m1, m2, m3, m4⟩ := HMK.out wc HC.out
  go_wp2
  clear m0 m1 m2 m3 m4
  go_loopw [44] (fun i wr => ∃ k : Nat, k <= ds.length /\ i = .int .i64 (k : Int) /\ Below W1.heap.size W1 wr) (fun i _ => ds.length - (intOf i).toNat)
  case atStart => exact ⟨0, by omega, rfl, HC.out⟩
  case round =>
   clear HC
   obtain ⟨k, hk, rfl, hB⟩ := hrel
   obtain ⟨n0, n1, n2, n3, n4⟩ := HMK.out wr hB
   by_cases hlt : k < ds.length
   ·have i1 : (k : Int) < ds.length := by omega
    have ea := List.getElem?_eq_getElem hlt
    generalize ds[k] = d at *
    obtain ⟨bv, hx, ht⟩ := HH.out.2.2.2.2.1.d k d ea
    obtain ⟨b2, o2, rfl, hOb2, bu, hx2, ht2⟩ := HH.out.2.2.2.2.2.1 k d ea
    obtain ⟨tb, tc, rfl⟩ := ht.ex
    obtain ⟨q1, d1, rfl, _, _⟩ := ht2.ex
    have hBW := HK1.out.trans (hB.mono HK1.out.size)
    have hmk : ∀ X : World, Below wr.heap.size wr X -> (fun wz : World => wz.cell? ⟨W.heap.size, 0, none⟩ = some (.slice (some ⟨b, 0, none⟩) ds.length c) /\ wz.cell? ⟨W.heap.size + 1, 0, none⟩ = some (.slice (some ⟨b2, o2, none⟩) ds.length c2) /\ wz.cell? ⟨b, k * 6, none⟩ = some (.int .i64 d.k) /\ wz.cell? ⟨b, k * 6 + 1, none⟩ = some (.string d.nm) /\ wz.cell? ⟨b, k * 6 + 2, none⟩ = some (.int .u16 d.v) /\ wz.cell? ⟨b, k * 6 + 3, none⟩ = some (.slice (some ⟨tb, 0, none⟩) d.body.length tc) /\ wz.cell? ⟨b, k * 6 + 4, none⟩ = some (.int .i64 d.p.1) /\ wz.cell? ⟨b, k * 6 + 5, none⟩ = some (.int .i64 d.p.2) /\ wz.cell? ⟨b2, o2 + k * 6, none⟩ = some (.int .i64 d.k) /\ wz.cell? ⟨b2, o2 + k * 6 + 1, none⟩ = some (.string d.nm) /\ wz.cell? ⟨b2, o2 + k * 6 + 2, none⟩ = some (.int .u16 d.v) /\ wz.cell? ⟨b2, o2 + k * 6 + 3, none⟩ = some (.slice q1 d.body.length d1) /\ wz.cell? ⟨b2, o2 + k * 6 + 4, none⟩ = some (.int .i64 d.p.1) /\ wz.cell? ⟨b2, o2 + k * 6 + 5, none⟩ = some (.int .i64 d.p.2)) X := fun X hX => by
     have hBX := hBW.trans (hX.mono hBW.size)
     obtain ⟨u0, _, u2, _, _⟩ := HMK.out X (hB.trans (hX.mono hB.size))
     obtain ⟨g0, g1, g2, g3, g4, g5⟩ := cells6 (o := k * 6) fun j x hj => (World.cell?_of_block (w := W) (a := ⟨b, k * 6 + j, none⟩) (hBX.block b HH.out.2.2.2.1)).trans (hx j x hj)
     obtain ⟨f0, f1, f2, f3, f4, f5⟩ := cells6 fun j x hj => (World.cell?_of_block (w := W) (a := ⟨b2, o2 + k * 6 + j, none⟩) (hBX.block b2 (HH.out.1 b2 hOb2))).trans (hx2 j x hj)
     exact ⟨u0, u2, g0, g1, g2, g3, g4, g5, f0, f1, f2, f3, f4, f5⟩
    have HM2 := hid hmk
    have HL := hid (And.intro hB (And.intro hBW (And.intro ht ht2)))
    have HB0 := hid (Below.refl wr.heap.size wr).drew
    clear hmk hB hBW ht ht2 hx hx2 ea n1 n3 n4
    go_upto_region 6 with fail
    go_cut [6, 7] (fun s6 s7 wc => ∃ gP gQ, s6 = .pointer (some ⟨gP, 0, none⟩) /\ s7 = .pointer (some ⟨gQ, 0, none⟩) /\ BX wr wc gP gQ (dfc d (.slice (some ⟨tb, 0, none⟩) d.body.length tc)) (dfc d (.slice q1 d.body.length d1)) 27)
    case first =>
     clear n0 n2
     refine wp_region_held_drew (S := (fun wz : World => wz.cell? ⟨W.heap.size, 0, none⟩ = some (.slice (some ⟨b, 0, none⟩) ds.length c) /\ wz.cell? ⟨W.heap.size + 1, 0, none⟩ = some (.slice (some ⟨b2, o2, none⟩) ds.length c2) /\ wz.cell? ⟨b, k * 6, none⟩ = some (.int .i64 d.k) /\ wz.cell? ⟨b, k * 6 + 1, none⟩ = some (.string d.nm) /\ wz.cell? ⟨b, k * 6 + 2, none⟩ = some (.int .u16 d.v) /\ wz.cell? ⟨b, k * 6 + 3, none⟩ = some (.slice (some ⟨tb, 0, none⟩) d.body.length tc) /\ wz.cell? ⟨b, k * 6 + 4, none⟩ = some (.int .i64 d.p.1) /\ wz.cell? ⟨b, k * 6 + 5, none⟩ = some (.int .i64 d.p.2) /\ wz.cell? ⟨b2, o2 + k * 6, none⟩ = some (.int .i64 d.k) /\ wz.cell? ⟨b2, o2 + k * 6 + 1, none⟩ = some (.string d.nm) /\ wz.cell? ⟨b2, o2 + k * 6 + 2, none⟩ = some (.int .u16 d.v) /\ wz.cell? ⟨b2, o2 + k * 6 + 3, none⟩ = some (.slice q1 d.body.length d1) /\ wz.cell? ⟨b2, o2 + k * 6 + 4, none⟩ = some (.int .i64 d.p.1) /\ wz.cell? ⟨b2, o2 + k * 6 + 5, none⟩ = some (.int .i64 d.p.2))) (by kernel_rfl) (HM2.out _ HB0.out) (fun hHeld => ?_)
     generalize wr.drew = y0 at *
     have HMK := HM2
     refine E.zH (is := [0, 1, 2, 3, 4, 5, 6, 7, 8, 9]) ?_
     iterate 10
      refine E.yH (v := ?_) rfl (by kernel_rfl) (fun c a w h => h) (by rfl) ?_ hHeld ?_
      rotate_left
      ·(intro w hSw; (try dsimp only at hSw); go_simp; try with_reducible rfl)
      simp only [E.pts]
     refine E.eH ?_
     refine wpAnyH_ready (rs := [10, 11]) (by kernel_rfl) (by simp) ?_
     refine AllReadyH.cons rfl (fun K hK => ?_) ?_
     ·go_simp
      have kk : Below y0.heap.size y0 (y0.alloc (.cells #[.int .i64 0, .string ⟨#[]⟩, .int .u16 0, .slice none 0 0, .int .i64 0, .int .i64 0] 27)) := (Below.refl _ _).alloc (Nat.le_refl _) _
      have hz : (y0.alloc (.cells #[.int .i64 0, .string ⟨#[]⟩, .int .u16 0, .slice none 0 0, .int .i64 0, .int .i64 0] 27)).heap[y0.heap.size]? = some (.cells #[.int .i64 0, .string ⟨#[]⟩, .int .u16 0, .slice none 0 0, .int .i64 0, .int .i64 0] 27 (0, 0)) := heap_alloc_new y0 _
      generalize y0.alloc (.cells #[.int .i64 0, .string ⟨#[]⟩, .int .u16 0, .slice none 0 0, .int .i64 0, .int .i64 0] 27) = y1 at *
      obtain ⟨gP, hbn⟩ : ∃ bn, y0.heap.size = bn := ⟨_, rfl⟩
      have hz1 : y1.heap[gP]? = some (.cells #[.int .i64 0, .string ⟨#[]⟩, .int .u16 0, .slice none 0 0, .int .i64 0, .int .i64 0] 27 (0, 0)) := by rw [<- hbn]; exact hz
      have HB1 := hid (HB0.out.trans (kk.mono HB0.out.size))
      have HZ1 := hid (And.intro hz1 (show wr.heap.size <= gP by rw [<- hbn]; exact HB0.out.size))
      rw [hbn]
      refine hK.out _ _ (HMK.out _ HB1.out) (fun hHeld => ?_)
      clear hK K hbn hz hz1 kk
      try simp only [E.pts]
      refine wpAnyH_ready (rs := [11]) (by kernel_rfl) (by simp) ?_
      refine AllReadyH.cons rfl (fun K hK => ?_) AllReadyH.nil
      go_simp
      have kk : Below y1.heap.size y1 (y1.alloc (.cells #[.int .i64 0, .string ⟨#[]⟩, .int .u16 0, .slice none 0 0, .int .i64 0, .int .i64 0] 27)) := (Below.refl _ _).alloc (Nat.le_refl _) _
      have hz : (y1.alloc (.cells #[.int .i64 0, .string ⟨#[]⟩, .int .u16 0, .slice none 0 0, .int .i64 0, .int .i64 0] 27)).heap[y1.heap.size]? = some (.cells #[.int .i64 0, .string ⟨#[]⟩, .int .u16 0, .slice none 0 0, .int .i64 0, .int .i64 0] 27 (0, 0)) := heap_alloc_new y1 _
      generalize y1.alloc (.cells #[.int .i64 0, .string ⟨#[]⟩, .int .u16 0, .slice none 0 0, .int .i64 0, .int .i64 0] 27) = y2 at *
      obtain ⟨gQ, hbn⟩ : ∃ bn, y1.heap.size = bn := ⟨_, rfl⟩
      have hz1 : y2.heap[gQ]? = some (.cells #[.int .i64 0, .string ⟨#[]⟩, .int .u16 0, .slice none 0 0, .int .i64 0, .int .i64 0] 27 (0, 0)) := by rw [<- hbn]; exact hz
      have HB2 := hid (HB1.out.trans (kk.mono HB1.out.size))
      have HZ2 := hid (And.intro ((kk.block _ (S.lt_of HZ1.out.1)).trans HZ1.out.1) (And.intro HZ1.out.2 (And.intro hz1 (And.intro (show wr.heap.size <= gQ by rw [<- hbn]; exact HB1.out.size) (show gP ≠ gQ by have := S.lt_of HZ1.out.1; omega)))))
      rw [hbn]
      refine hK.out _ _ (HMK.out _ HB2.out) (fun hHeld => ?_)
      clear hK K hbn hz hz1 kk
      try simp only [E.pts]
      have HQ := hid (BX.make (W := wr) (g := gP) (h := gQ) (cA := dfc d (.slice (some ⟨tb, 0, none⟩) d.body.length tc)) (cB := dfc d (.slice q1 d.body.length d1)) HB2.out HZ2.out.1 HZ2.out.2.1 HZ2.out.2.2.1 HZ2.out.2.2.2.1 HZ2.out.2.2.2.2)
      refine wpAnyH_ready (rs := [12]) (by kernel_rfl) (by simp) ?_
      refine AllReadyH.cons rfl (fun K hK => ?_) AllReadyH.nil
      rw [if_pos (by rfl)]
      refine wp_store_row 27 _ _ rfl gP (dfc d (.slice (some ⟨tb, 0, none⟩) d.body.length tc)).toArray (by simp [Act.eval]) (by simp [Act.eval, ndc, dfc]) 27 #[.int .i64 0, .string ⟨#[]⟩, .int .u16 0, .slice none 0 0, .int .i64 0, .int .i64 0] HQ.out.1 (by kernel_rfl) (by rfl) (by simp [Value.oneCell', ndc, dfc]) ?_
      refine hK.out _ _ (HMK.out _ HQ.out.2.1) (fun hHeld => ?_)
      clear hK K
      try simp only [E.pts]
      refine wpAnyH_ready (rs := [13]) (by kernel_rfl) (by simp) ?_
      refine AllReadyH.cons rfl (fun K hK => ?_) AllReadyH.nil
      rw [if_pos (by rfl)]
      refine wp_store_row 27 _ _ rfl gQ (dfc d (.slice q1 d.body.length d1)).toArray (by simp [Act.eval]) (by simp [Act.eval, ndc, dfc]) 27 #[.int .i64 0, .string ⟨#[]⟩, .int .u16 0, .slice none 0 0, .int .i64 0, .int .i64 0] HQ.out.2.2.1 (by kernel_rfl) (by rfl) (by simp [Value.oneCell', ndc, dfc]) ?_
      refine hK.out _ _ (HMK.out _ HQ.out.2.2.2.bel) (fun hHeld => ?_)
      clear hK K
      try simp only [E.pts]
      refine wpAnyH_done (by kernel_rfl) ?_ _
      have HF := hid HQ.out.2.2.2
      clear hHeld HQ HZ2 HB2 HZ1 HB1
      generalize (y2.setRow gP (dfc d (.slice (some ⟨tb, 0, none⟩) d.body.length tc)).toArray).setRow gQ (dfc d (.slice q1 d.body.length d1)).toArray = yz at *
      go_wp2
      go_meet
      case rel => exact ⟨gP, gQ, rfl, rfl, HF.out⟩
     refine AllReadyH.cons rfl (fun K hK => ?_) AllReadyH.nil
     go_simp
     have kk : Below y0.heap.size y0 (y0.alloc (.cells #[.int .i64 0, .string ⟨#[]⟩, .int .u16 0, .slice none 0 0, .int .i64 0, .int .i64 0] 27)) := (Below.refl _ _).alloc (Nat.le_refl _) _
     have hz : (y0.alloc (.cells #[.int .i64 0, .string ⟨#[]⟩, .int .u16 0, .slice none 0 0, .int .i64 0, .int .i64 0] 27)).heap[y0.heap.size]? = some (.cells #[.int .i64 0, .string ⟨#[]⟩, .int .u16 0, .slice none 0 0, .int .i64 0, .int .i64 0] 27 (0, 0)) := heap_alloc_new y0 _
     generalize y0.alloc (.cells #[.int .i64 0, .string ⟨#[]⟩, .int .u16 0, .slice none 0 0, .int .i64 0, .int .i64 0] 27) = y1 at *
     obtain ⟨gQ, hbn⟩ : ∃ bn, y0.heap.size = bn := ⟨_, rfl⟩
     have hz1 : y1.heap[gQ]? = some (.cells #[.int .i64 0, .string ⟨#[]⟩, .int .u16 0, .slice none 0 0, .int .i64 0, .int .i64 0] 27 (0, 0)) := by rw [<- hbn]; exact hz
     have HB1 := hid (HB0.out.trans (kk.mono HB0.out.size))
     have HZ1 := hid (And.intro hz1 (show wr.heap.size <= gQ by rw [<- hbn]; exact HB0.out.size))
     rw [hbn]
     refine hK.out _ _ (HMK.out _ HB1.out) (fun hHeld => ?_)
     clear hK K hbn hz hz1 kk
     try simp only [E.pts]
     refine wpAnyH_ready (rs := [10]) (by kernel_rfl) (by simp) ?_
     refine AllReadyH.cons rfl (fun K hK => ?_) AllReadyH.nil
     go_simp
     have kk : Below y1.heap.size y1 (y1.alloc (.cells #[.int .i64 0, .string ⟨#[]⟩, .int .u16 0, .slice none 0 0, .int .i64 0, .int .i64 0] 27)) := (Below.refl _ _).alloc (Nat.le_refl _) _
     have hz : (y1.alloc (.cells #[.int .i64 0, .string ⟨#[]⟩, .int .u16 0, .slice none 0 0, .int .i64 0, .int .i64 0] 27)).heap[y1.heap.size]? = some (.cells #[.int .i64 0, .string ⟨#[]⟩, .int .u16 0, .slice none 0 0, .int .i64 0, .int .i64 0] 27 (0, 0)) := heap_alloc_new y1 _
     generalize y1.alloc (.cells #[.int .i64 0, .string ⟨#[]⟩, .int .u16 0, .slice none 0 0, .int .i64 0, .int .i64 0] 27) = y2 at *
     obtain ⟨gP, hbn⟩ : ∃ bn, y1.heap.size = bn := ⟨_, rfl⟩
     have hz1 : y2.heap[gP]? = some (.cells #[.int .i64 0, .string ⟨#[]⟩, .int .u16 0, .slice none 0 0, .int .i64 0, .int .i64 0] 27 (0, 0)) := by rw [<- hbn]; exact hz
     have HB2 := hid (HB1.out.trans (kk.mono HB1.out.size))
     have HZ2 := hid (And.intro ((kk.block _ (S.lt_of HZ1.out.1)).trans HZ1.out.1) (And.intro HZ1.out.2 (And.intro hz1 (And.intro (show wr.heap.size <= gP by rw [<- hbn]; exact HB1.out.size) (show gQ ≠ gP by have := S.lt_of HZ1.out.1; omega)))))
     rw [hbn]
     refine hK.out _ _ (HMK.out _ HB2.out) (fun hHeld => ?_)
     clear hK K hbn hz hz1 kk
     try simp only [E.pts]
     have HQ := hid (BX.make (W := wr) (g := gP) (h := gQ) (cA := dfc d (.slice (some ⟨tb, 0, none⟩) d.body.length tc)) (cB := dfc d (.slice q1 d.body.length d1)) HB2.out HZ2.out.2.2.1 HZ2.out.2.2.2.1 HZ2.out.1 HZ2.out.2.1 (Ne.symm HZ2.out.2.2.2.2))
     refine wpAnyH_ready (rs := [12]) (by kernel_rfl) (by simp) ?_
     refine AllReadyH.cons rfl (fun K hK => ?_) AllReadyH.nil
     rw [if_pos (by rfl)]
     refine wp_store_row 27 _ _ rfl gP (dfc d (.slice (some ⟨tb, 0, none⟩) d.body.length tc)).toArray (by simp [Act.eval]) (by simp [Act.eval, ndc, dfc]) 27 #[.int .i64 0, .string ⟨#[]⟩, .int .u16 0, .slice none 0 0, .int .i64 0, .int .i64 0] HQ.out.1 (by kernel_rfl) (by rfl) (by simp [Value.oneCell', ndc, dfc]) ?_
     refine hK.out _ _ (HMK.out _ HQ.out.2.1) (fun hHeld => ?_)
     clear hK K
     try simp only [E.pts]
     refine wpAnyH_ready (rs := [13]) (by kernel_rfl) (by simp) ?_
     refine AllReadyH.cons rfl (fun K hK => ?_) AllReadyH.nil
     rw [if_pos (by rfl)]
     refine wp_store_row 27 _ _ rfl gQ (dfc d (.slice q1 d.body.length d1)).toArray (by simp [Act.eval]) (by simp [Act.eval, ndc, dfc]) 27 #[.int .i64 0, .string ⟨#[]⟩, .int .u16 0, .slice none 0 0, .int .i64 0, .int .i64 0] HQ.out.2.2.1 (by kernel_rfl) (by rfl) (by simp [Value.oneCell', ndc, dfc]) ?_
     refine hK.out _ _ (HMK.out _ HQ.out.2.2.2.bel) (fun hHeld => ?_)
     clear hK K
     try simp only [E.pts]
     refine wpAnyH_done (by kernel_rfl) ?_ _
     have HF := hid HQ.out.2.2.2
     clear hHeld HQ HZ2 HB2 HZ1 HB1
     generalize (y2.setRow gP (dfc d (.slice (some ⟨tb, 0, none⟩) d.body.length tc)).toArray).setRow gQ (dfc d (.slice q1 d.body.length d1)).toArray = yz at *
     go_wp2
     go_meet
     case rel => exact ⟨gP, gQ, rfl, rfl, HF.out⟩
    case rest =>
     obtain ⟨gP, gQ, rfl, rfl, hF⟩ := hcut
     obtain ⟨x0, x1, x2, x3, x4, x5⟩ := cells6 (W := wc) (b := gP) (o := 0) fun j x hj => by rw [Nat.zero_add]; exact S.cell_of wc _ j _ 27 x hF.a hj
     obtain ⟨z0, z1, z2, z3, z4, z5⟩ := cells6 (W := wc) (b := gQ) (o := 0) fun j x hj => by rw [Nat.zero_add]; exact S.cell_of wc _ j _ 27 x hF.b hj
     simp only [Nat.zero_add] at x1 x2 x3 x4 x5 z1 z2 z3 z4 z5
     have HBc := hid (HL.out.2.1.trans (hF.bel.mono HL.out.2.1.size))
     have HBd := hid (HL.out.1.trans (hF.bel.mono HL.out.1.size))
     clear hF n0 n2
     go_wp2_with fail
     refine (whole_nodes d.body _ _ U O wc (fun i hi => Nat.lt_of_lt_of_le (HH.out.2.1 i hi) HBc.out.size) (fun i hi => Nat.lt_of_lt_of_le (HH.out.1 i hi) HBc.out.size) (HL.out.2.2.1.kept (fun i hi => HBc.out.block i (HH.out.2.1 i hi)) fun _ h => h) (HL.out.2.2.2.kept (fun i hi => HBc.out.block i (HH.out.1 i hi)) fun _ h => h)).mono ?_
     rintro e we ⟨rfl, ke⟩
     have HBe := hid (HBd.out.trans (ke.mono HBd.out.size))
     clear ke x0 x1 x2 x3 x4 x5 z0 z1 z2 z3 z4 z5
     go_wp2
     go_roundw
     case rel => exact ⟨k + 1, by omega, by go_num, HBe.out⟩
     case measure => simp [intOf]; omega
   ·have i1 : ¬ (k : Int) < ds.length := by omega
    have HB := hid hB
    clear hB n0 n1 n2 n4
    go_wp2
    go_loopw [95] (fun i wz => ∃ j : Nat, j <= bs.length /\ i = .int .i64 (j : Int) /\ Below W1.heap.size W1 wz) (fun i _ => bs.length - (intOf i).toNat)
    case atStart => exact ⟨0, by omega, rfl, HB.out⟩
    case round =>
     clear HB n3
     obtain ⟨j, hj, rfl, hB⟩ := hrel
     obtain ⟨n0, n1, n2, n3, n4⟩ := HMK.out wr hB
     by_cases hlt : j < bs.length
     ·have i2 : (j : Int) < bs.length := by omega
      have ea := List.getElem?_eq_getElem hlt
      generalize bs[j] = d at *
      obtain ⟨bq, oq, rfl, hOq, dq, ⟨hc0, hc1'⟩, hS1⟩ := HH.out.2.2.2.2.2.2.1 j d ea
      obtain ⟨bp, op, rfl, hOp, dp, ⟨he0, he1⟩, hS2⟩ := HH.out.2.2.2.2.2.2.2 j d ea
      obtain ⟨qd, cd, rfl⟩ := hS1.ex
      obtain ⟨qe, ce', rfl⟩ := hS2.ex
      have hBW := HK1.out.trans (hB.mono HK1.out.size)
      have s0 : (fun wz : World => wz.cell? ⟨W.heap.size, 1, none⟩ = some (.slice (some ⟨bq, oq, none⟩) bs.length ck) /\ wz.cell? ⟨W.heap.size + 1, 1, none⟩ = some (.slice (some ⟨bp, op, none⟩) bs.length cb2) /\ wz.cell? ⟨bq, oq + j * 2, none⟩ = some (.int .i64 d.1) /\ wz.cell? ⟨bq, oq + j * 2 + 1, none⟩ = some (.slice qd d.2.length cd) /\ wz.cell? ⟨bp, op + j * 2, none⟩ = some (.int .i64 d.1) /\ wz.cell? ⟨bp, op + j * 2 + 1, none⟩ = some (.slice qe d.2.length ce') /\ (convert 66 9 (.slice qd d.2.length cd)).run Tryz.prog wz = .ok (.string ⟨d.2.toArray⟩) wz /\ (convert 66 9 (.slice qe d.2.length ce')).run Tryz.prog wz = .ok (.string ⟨d.2.toArray⟩) wz) wr.drew := by
       have kq : ∀ i, K i -> wr.drew.heap[i]? = W.heap[i]? := fun i hi => hBW.block i (HH.out.2.2.1 i hi)
       have kp : ∀ i, O i -> wr.drew.heap[i]? = W.heap[i]? := fun i hi => hBW.block i (HH.out.1 i hi)
       refine ⟨n1, n3, (World.cell?_of_block (w := W) (a := ⟨bq, oq + j * 2, none⟩) (kq bq hOq)).trans hc0, (World.cell?_of_block (w := W) (a := ⟨bq, oq + j * 2 + 1, none⟩) (kq bq hOq)).trans hc1', (World.cell?_of_block (w := W) (a := ⟨bp, op + j * 2, none⟩) (kp bp hOp)).trans he0, (World.cell?_of_block (w := W) (a := ⟨bp, op + j * 2 + 1, none⟩) (kp bp hOp)).trans he1, (hS1.kept kq fun _ h => h).conv, (hS2.kept kp fun _ h => h).conv⟩
      have HB2 := hid hB.drew
      clear hB hBW hS1 hS2 hc0 hc1' he0 he1 ea n0 n1 n2 n4
      go_upto_region 13 with fail
      clear n3
      go_cut [127] (fun s wc => s = .bool false /\ Below W1.heap.size W1 wc)
      case first =>
       refine wp_region_held_drew (S := (fun wz : World => wz.cell? ⟨W.heap.size, 1, none⟩ = some (.slice (some ⟨bq, oq, none⟩) bs.length ck) /\ wz.cell? ⟨W.heap.size + 1, 1, none⟩ = some (.slice (some ⟨bp, op, none⟩) bs.length cb2) /\ wz.cell? ⟨bq, oq + j * 2, none⟩ = some (.int .i64 d.1) /\ wz.cell? ⟨bq, oq + j * 2 + 1, none⟩ = some (.slice qd d.2.length cd) /\ wz.cell? ⟨bp, op + j * 2, none⟩ = some (.int .i64 d.1) /\ wz.cell? ⟨bp, op + j * 2 + 1, none⟩ = some (.slice qe d.2.length ce') /\ (convert 66 9 (.slice qd d.2.length cd)).run Tryz.prog wz = .ok (.string ⟨d.2.toArray⟩) wz /\ (convert 66 9 (.slice qe d.2.length ce')).run Tryz.prog wz = .ok (.string ⟨d.2.toArray⟩) wz)) (by kernel_rfl) s0 (fun hHeld => ?_)
       clear s0
       generalize wr.drew = y0 at *
       refine E.zH (is := [0, 1, 2, 3, 4, 5, 6, 7, 8, 9, 10, 11, 12, 13, 14, 15, 16, 17, 18, 19, 20, 21, 22, 23, 24, 25, 26, 27, 28, 29]) ?_
       iterate 30
        refine E.yH (v := ?_) rfl (by kernel_rfl) (fun c a w h => h) (by rfl) ?_ hHeld ?_
        rotate_left
        ·(intro w hSw; (try dsimp only at hSw); go_simp; try with_reducible rfl)
        simp only [E.pts]
       refine E.eH ?_
       refine wpAnyH_done (by kernel_rfl) ?_ _
       clear hHeld
       go_wp2
       go_meet
       case rel => exact ⟨rfl, HB2.out⟩
      case rest =>
       obtain ⟨rfl, hb⟩ := hcut
       have HB3 := hid hb
       clear hb s0
       go_wp2
       go_roundw
       case rel => exact ⟨j + 1, by omega, by go_num, HB3.out⟩
       case measure => simp [intOf]; omega
     ·have i2 : ¬ (j : Int) < bs.length := by omega
      go_wp2
      go_ret
      exact ⟨rfl, HK1.out.trans (hB.mono HK1.out.size)⟩
end Go.Proofs.YtlilefhmohkfkaaGreatDoor.Y
