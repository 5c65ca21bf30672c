import Derived.Test.YtlilefhmohkfkaaGreatDoorERfB
import Derived.Test.YtlilefhmohkfkaaGreatDoorPAll
import Derived.Test.YtlilefhmohkfkaaGreatDoorEDrop
import Derived.Deep.CutBlock
namespace Go.Proofs.YtlilefhmohkfkaaGreatDoor.E
open Go.RowKit
open Go.Proofs
open Go.Proofs.YtlilefhmohkfkaaGreatDoor.Y (Nd Df Ps ndc dfc hid)
set_option linter.unusedVariables false
set_option linter.unusedSimpArgs false
set_option maxHeartbeats 2000000
set_option maxRecDepth 100000
theorem Fq.put {W wz : World} {g : Nat} {kv : Value} {b c d : Nat} {s : Rs} {sv : Value} {p : Ps} {w : Rw} (h : Fq W wz g kv b c d s sv p w) (n : FN g b c d W) (s' : Rs) (sv' : Value) (ho : OV wz g sv' s'.own) : Fq W (wz.setRow b (rsc sv' s').toArray) g kv b c d s' sv' p w /\ OV (wz.setRow b (rsc sv' s').toArray) g sv' s'.own :=
 have k : ∀ j, j ≠ b -> (wz.setRow b (rsc sv' s').toArray).heap[j]? = wz.heap[j]? := fun j hj => setRow_other _ _ _ _ hj
 ⟨⟨setRow_heap wz b _ _ _ _ h.sb, (k c (by have := n.n2; omega)).trans h.pb, (k d (by have := n.n2; have := n.n3; omega)).trans h.rb, (k g (by have := n.n0; have := n.n1; omega)).trans h.rw, h.gw.setR2 b _ n.n1⟩, ho.row _ h.sb (by decide)⟩
def own55 (op : Int) (l : List Int) : List Int := if op = 55 then l ++ [4] else l
theorem rown_is (op : Int) (l : List Int) : rown op l = if op = 56 then (own55 op l).take ((own55 op l).length - 1) else own55 op l := by
 unfold rown own55
 by_cases h : op = 55
 ·rw [if_pos h, if_pos h, if_neg (by omega)]
 ·rw [if_neg h, if_neg h]
theorem prim_r (w : Rw) (s : Rs) (sv : Value) (op : Nat) (h9 : 9 <= op /\ op <= 63) (p : Ps) (g : Nat) (kv : Value) (W : World) (h : RW W g kv w) (ho : OV W g sv s.own) (hl : s.own.length <= 500) :
  Calls Tryz.prog 70 #[.pointer (some ⟨g, 0, none⟩), .agg (rsc sv s).toArray, .int .i64 (op : Int), .agg #[.int .i64 p.1, .int .i64 p.2]] W (RO W g kv (rprim (op : Int) p (w, s))) := by
 obtain ⟨q, cc, hsv, _, _⟩ := id ho.ex
 subst hsv
 obtain ⟨W0, W1, W2, hW0, hW1, hW2, hB, hN, hF⟩ := box_spr2 s (.slice q s.own.length cc) p g kv w W h
 have HN := hid hN
 have HO := hid ho
 have HF := hid hF
 obtain ⟨x0, x1, x2⟩ := hF.sb.cells
 clear hN ho hF hB h
 have HY : Y.Hd (rprim (op : Int) p (w, s) = if rok (op : Int) s.own = false then (rfail w 152 p, s) else ((rstep (w, { s with own := rown (op : Int) s.own }) (P.ri op) (P.ro op) p).1, { (rstep (w, { s with own := rown (op : Int) s.own }) (P.ri op) (P.ro op) p).2 with dead := decide ((op : Int) = 11) })) := ⟨by unfold rprim; rfl⟩
 generalize rprim (op : Int) p (w, s) = y at *
 unfold rsc
 go_enter Tryz.func70, Tryz.ntmps70
 go_upto_block 0 with fail
 go_cut [9] (fun s9 wc => s9 = .bool (rok (op : Int) s.own) /\ Fq W wc g kv W.heap.size W0.heap.size W1.heap.size s (.slice q s.own.length cc) p w)
 case first =>
  clear hW0 hW1 hW2
  by_cases o1 : op = 56
  ·subst o1
   have HRK : Y.Hd (rok ((56 : Nat) : Int) s.own = (rlast s.own 0 == 4)) := ⟨rfl⟩
   generalize rok ((56 : Nat) : Int) s.own = R at *
   (try simp only [Int.cast_ofNat_Int])
   have hcl := last_any s (.slice q s.own.length cc) 0 (by decide) (by omega) g W2 (HO.out.gw HF.out.gw)
   unfold rsc at hcl
   go_wp2_with fail
   refine hcl.mono ?_
   rintro e w3 ⟨rfl, hb3⟩
   have HT : Y.Hd (Fq W w3 g kv W.heap.size W0.heap.size W1.heap.size s (.slice q s.own.length cc) p w) := ⟨HF.out.go HN.out (Gw.of hb3) (HF.out.rw.below hb3)⟩
   clear hcl hb3
   go_wp2
   go_meet
   case rel => exact ⟨by rw [HRK.out], HT.out⟩
  by_cases o2 : op = 57
  ·subst o2
   have HRK : Y.Hd (rok ((57 : Nat) : Int) s.own = (rlast s.own 0 == 4)) := ⟨rfl⟩
   generalize rok ((57 : Nat) : Int) s.own = R at *
   (try simp only [Int.cast_ofNat_Int])
   have hcl := last_any s (.slice q s.own.length cc) 0 (by decide) (by omega) g W2 (HO.out.gw HF.out.gw)
   unfold rsc at hcl
   go_wp2_with fail
   refine hcl.mono ?_
   rintro e w3 ⟨rfl, hb3⟩
   have HT : Y.Hd (Fq W w3 g kv W.heap.size W0.heap.size W1.heap.size s (.slice q s.own.length cc) p w) := ⟨HF.out.go HN.out (Gw.of hb3) (HF.out.rw.below hb3)⟩
   clear hcl hb3
   go_wp2
   go_meet
   case rel => exact ⟨by rw [HRK.out], HT.out⟩
  by_cases o3 : op = 58
  ·subst o3
   have HRK : Y.Hd (rok ((58 : Nat) : Int) s.own = (rlast s.own 0 == 3)) := ⟨rfl⟩
   generalize rok ((58 : Nat) : Int) s.own = R at *
   (try simp only [Int.cast_ofNat_Int])
   have hcl := last_any s (.slice q s.own.length cc) 0 (by decide) (by omega) g W2 (HO.out.gw HF.out.gw)
   unfold rsc at hcl
   go_wp2_with fail
   refine hcl.mono ?_
   rintro e w3 ⟨rfl, hb3⟩
   have HT : Y.Hd (Fq W w3 g kv W.heap.size W0.heap.size W1.heap.size s (.slice q s.own.length cc) p w) := ⟨HF.out.go HN.out (Gw.of hb3) (HF.out.rw.below hb3)⟩
   clear hcl hb3
   go_wp2
   go_meet
   case rel => exact ⟨by rw [HRK.out], HT.out⟩
  by_cases o4 : op = 59
  ·subst o4
   have HRK : Y.Hd (rok ((59 : Nat) : Int) s.own = (rlast s.own 2 == 3)) := ⟨rfl⟩
   generalize rok ((59 : Nat) : Int) s.own = R at *
   (try simp only [Int.cast_ofNat_Int])
   have hcl := last_any s (.slice q s.own.length cc) 2 (by decide) (by omega) g W2 (HO.out.gw HF.out.gw)
   unfold rsc at hcl
   go_wp2_with fail
   refine hcl.mono ?_
   rintro e w3 ⟨rfl, hb3⟩
   have HT : Y.Hd (Fq W w3 g kv W.heap.size W0.heap.size W1.heap.size s (.slice q s.own.length cc) p w) := ⟨HF.out.go HN.out (Gw.of hb3) (HF.out.rw.below hb3)⟩
   clear hcl hb3
   go_wp2
   go_meet
   case rel => exact ⟨by rw [HRK.out], HT.out⟩
  have HRK : Y.Hd (rok (op : Int) s.own = true) := ⟨by unfold rok; rw [if_neg (by omega), if_neg (by omega), if_neg (by omega)]⟩
  generalize rok (op : Int) s.own = R at *
  have d1 : ((op : Int) == 56) = false := by simp; omega
  have d2 : ((op : Int) == 57) = false := by simp; omega
  have d3 : ((op : Int) == 58) = false := by simp; omega
  have d4 : ((op : Int) == 59) = false := by simp; omega
  clear o1 o2 o3 o4
  go_wp2
  go_meet
  case rel => exact ⟨by rw [HRK.out], HF.out⟩
 case rest =>
  obtain ⟨rfl, hcut⟩ := hcut
  clear HF hW0 hW1 hW2 x0 x1 x2
  obtain ⟨W3, hW3⟩ : ∃ wb, wb = wc := ⟨_, rfl⟩
  rw [<- hW3] at hcut ⊢
  clear hW3
  have HF := hid hcut
  obtain ⟨p0, p1⟩ := hcut.pb.cells
  by_cases hk : rok (op : Int) s.own = false
  ·have HY2 : Y.Hd (y = (rfail w 152 p, s)) := ⟨by rw [HY.out, if_pos hk]⟩
   have hcf := fails_any w 152 p g kv W3 hcut.rw
   rw [hk]
   clear HY hk hcut
   go_wp2_with fail
   refine hcf.mono ?_
   rintro e w5 ⟨rfl, hr5, hg5⟩
   clear hcf p0 p1
   have hF := HF.out.go HN.out hg5 hr5
   obtain ⟨x0, x1, x2⟩ := hF.sb.cells
   have HT := hid (hF.done HN.out HO.out)
   have hst := hF.rb
   unfold rsc at HT
   clear hF HF hr5 hg5
   go_wp2_with (refine wpList_store_row rfl 99 _ _ rfl W1.heap.size _ rfl rfl 99 _ hst (by exact sizeR) (by rfl) (by simp [Value.oneCell', rsc]) ?_)
   refine bodyPost_ret (rs_end 8 rfl rfl ⟨_, _, _, rfl⟩ HT.out.1) rfl ?_
   rw [HY2.out]
   exact ⟨_, rfl, HT.out.2.1, HT.out.2.2.1, HT.out.2.2.2⟩
  ·have hk' : rok (op : Int) s.own = true := by simpa using hk
   have HY2 : Y.Hd (y = ((rstep (w, { s with own := rown (op : Int) s.own }) (P.ri op) (P.ro op) p).1, { (rstep (w, { s with own := rown (op : Int) s.own }) (P.ri op) (P.ro op) p).2 with dead := decide ((op : Int) = 11) })) := ⟨by rw [HY.out, if_neg hk]⟩
   have HK6 : Y.Hd (op = 56 -> 0 < s.own.length) := ⟨fun e => by
    subst e
    apply Decidable.byContradiction
    intro c
    have : s.own = [] := List.eq_nil_of_length_eq_zero (by omega)
    rw [this] at hk'
    cases hk'⟩
   rw [hk']
   clear HY hk hcut hk' p0 p1
   go_upto_if 34 with fail
   go_cut [] (fun wc => ∃ v1, Fq W wc g kv W.heap.size W0.heap.size W1.heap.size { s with own := own55 (op : Int) s.own } v1 p w /\ OV wc g v1 (own55 (op : Int) s.own))
   case first =>
    by_cases o1 : op = 55
    ·subst o1
     (try simp only [Int.cast_ofNat_Int])
     have HE : Y.Hd (own55 (55 : Int) s.own = s.own ++ [4]) := ⟨rfl⟩
     generalize own55 (55 : Int) s.own = L at *
     obtain ⟨W4, hW4⟩ : ∃ W4, W3.alloc (.cells #[.int .i64 4] 3) = W4 := ⟨_, rfl⟩
     have hb4 : Below W3.heap.size W3 W4 := by rw [<- hW4]; exact (Below.refl _ _).alloc (Nat.le_refl _) _
     have v4 : W4.heap[W3.heap.size]? = some (.cells [Value.int .i64 4].toArray 3 (0, 0)) := by rw [<- hW4]; exact heap_alloc_new W3 _
     have hF4 := HF.out.go HN.out (Gw.of hb4) (HF.out.rw.below hb4)
     have hcs : S.Cs W4 (.slice (some ⟨W3.heap.size, 0, none⟩) 1 1) 1 [(4 : Int)].length (S.en eI [4]) := .inr ⟨_, _, rfl, rfl, fun j u hj => by rw [Addr.add_lit, Nat.zero_add]; exact S.cell_of W4 _ j _ _ u v4 hj, oneI _⟩
     have hca := add_any s (.slice q s.own.length cc) [4] _ ⟨_, _, _, rfl⟩ g W4 hF4.rw.lt (by omega) (by decide) (HO.out.gw hF4.gw) hcs
     obtain ⟨x0, x1, x2⟩ := HF.out.sb.cells
     have HF4 := hid hF4
     rw [<- HE.out] at hca
     unfold rsc at hca
     clear hcs v4 hb4 hF4
     go_wp2_with fail
     refine hca.mono ?_
     rintro e w5 ⟨v', rfl, hov, hb5⟩
     obtain ⟨q2, c2, hv2, _, _⟩ := id hov.ex
     subst hv2
     clear hca hW4 x0 x1 x2
     have hF5 := HF4.out.go HN.out (Gw.of hb5) (HF4.out.rw.below hb5)
     have HT := hid (hF5.put HN.out { s with own := L } _ hov)
     have hst := hF5.sb
     unfold rsc at HT
     (try simp only at HT)
     clear hF5 HF4 hb5 hov
     go_wp2_with (refine wpList_store_row rfl 99 _ _ rfl W.heap.size _ rfl rfl 99 _ hst (by exact sizeR) (by rfl) (by simp [Value.oneCell', rsc]) ?_)
     go_meet
     case rel => exact ⟨_, HT.out.1, HT.out.2⟩
    ·have d1 : ((op : Int) == 55) = false := by simp; omega
     have HE : Y.Hd (own55 (op : Int) s.own = s.own) := ⟨by unfold own55; rw [if_neg (by omega)]⟩
     generalize own55 (op : Int) s.own = L at *
     have HT : Y.Hd (Fq W W3 g kv W.heap.size W0.heap.size W1.heap.size s (.slice q s.own.length cc) p w /\ OV W3 g (.slice q s.own.length cc) s.own) := ⟨HF.out, HO.out.gw HF.out.gw⟩
     clear o1
     go_wp2
     go_meet
     case rel => rw [HE.out]; exact ⟨_, HT.out.1, HT.out.2⟩
   case rest =>
    obtain ⟨v1, hF4, hO4⟩ := hcut
    clear HF
    obtain ⟨W4, hW4⟩ : ∃ wb, wb = wc := ⟨_, rfl⟩
    rw [<- hW4] at hF4 hO4 ⊢
    clear hW4
    have HRO := hid (rown_is (op : Int) s.own)
    have HL5 : Y.Hd ((own55 (op : Int) s.own).length <= 501 /\ (op = 56 -> 0 < (own55 (op : Int) s.own).length)) := ⟨by
     unfold own55
     split
     ·rw [List.length_append]; simp; omega
     ·exact ⟨by omega, HK6.out⟩⟩
    generalize own55 (op : Int) s.own = L at *
    generalize hro : rown (op : Int) s.own = L2 at *
    obtain ⟨q1, c1, hv1, _, _⟩ := id hO4.ex
    (try simp only at hv1)
    subst hv1
    have HF := hid (And.intro hF4 hO4)
    clear hF4 hO4 hro
    go_upto_if 39 with fail
    go_cut [] (fun wc => ∃ v1, Fq W wc g kv W.heap.size W0.heap.size W1.heap.size { s with own := L2 } v1 p w /\ OV wc g v1 L2)
    case first =>
     by_cases o1 : op = 56
     ·have HE : Y.Hd (L2 = L.take (L.length - 1)) := ⟨by rw [HRO.out, if_pos (by omega)]⟩
      have hpos := HL5.out.2 o1
      subst o1
      (try simp only [Int.cast_ofNat_Int])
      have hca := less_any { s with own := L } (.slice q1 L.length c1) 1 (by decide) (by exact hpos) g W4 HF.out.1.rw.lt (by have := HL5.out.1; show L.length <= 1000; omega) HF.out.2
      obtain ⟨x0, x1, x2⟩ := HF.out.1.sb.cells
      (try simp only at x0 x1 x2)
      (try simp only at hca)
      rw [<- HE.out] at hca
      unfold rsc at hca
      (try simp only at hca)
      go_wp2_with fail
      refine hca.mono ?_
      rintro e w5 ⟨v', rfl, hov, hb5⟩
      obtain ⟨q2, c2, hv2, _, _⟩ := id hov.ex
      subst hv2
      clear hca x0 x1 x2
      have hF5 := HF.out.1.go HN.out (Gw.of hb5) (HF.out.1.rw.below hb5)
      have HT := hid (hF5.put HN.out { s with own := L2 } _ hov)
      have hst := hF5.sb
      unfold rsc at HT
      (try simp only at HT)
      clear hF5 hb5 hov
      go_wp2_with (refine wpList_store_row rfl 99 _ _ rfl W.heap.size _ rfl rfl 99 _ hst (by exact sizeR) (by rfl) (by simp [Value.oneCell', rsc]) ?_)
      go_meet
      case rel => exact ⟨_, HT.out.1, HT.out.2⟩
     ·have d1 : ((op : Int) == 56) = false := by simp; omega
      have HE : Y.Hd (L2 = L) := ⟨by rw [HRO.out, if_neg (by omega)]⟩
      clear o1
      go_wp2
      go_meet
      case rel => rw [HE.out]; exact ⟨_, HF.out.1, HF.out.2⟩
    case rest =>
     obtain ⟨v2, hF5, hO5⟩ := hcut
     have hL2 : L2.length <= 1000 := by
      have := HL5.out.1
      rw [HRO.out]
      split
      ·rw [List.length_take]; omega
      ·omega
     clear HF HL5 HRO HK6
     obtain ⟨W5, hW5⟩ : ∃ wb, wb = wc := ⟨_, rfl⟩
     rw [<- hW5] at hF5 hO5 ⊢
     clear hW5
     obtain ⟨q2, c2, hv2, _, _⟩ := id hO5.ex
     subst hv2
     have HF := hid (And.intro hF5 hO5)
     clear hF5 hO5
     have HMK : Y.Hd (∀ wz, Below W5.heap.size W5 wz -> (fun wz : World => wz.cell? ⟨W.heap.size, 0, none⟩ = some (.int .i64 s.h) /\ wz.cell? ⟨W.heap.size, 1, none⟩ = some (.slice q2 L2.length c2) /\ wz.cell? ⟨W.heap.size, 2, none⟩ = some (.bool s.dead) /\ wz.cell? ⟨W0.heap.size, 0, none⟩ = some (.int .i64 p.1) /\ wz.cell? ⟨W0.heap.size, 1, none⟩ = some (.int .i64 p.2)) wz) := ⟨fun wz hz => by
      obtain ⟨x0, x1, x2⟩ := (HF.out.1.sb.below hz).cells
      have hp : PB2 wz W0.heap.size p := (hz.block _ (S.lt_of HF.out.1.pb)).trans HF.out.1.pb
      exact ⟨x0, x1, x2, hp.cells.1, hp.cells.2⟩⟩
     go_upto_region 17 with fail
     have HB0 := hid (Below.refl W5.heap.size W5).drew
     refine wp_region_drop [8] (S := fun wz : World => wz.cell? ⟨W.heap.size, 0, none⟩ = some (.int .i64 s.h) /\ wz.cell? ⟨W.heap.size, 1, none⟩ = some (.slice q2 L2.length c2) /\ wz.cell? ⟨W.heap.size, 2, none⟩ = some (.bool s.dead) /\ wz.cell? ⟨W0.heap.size, 0, none⟩ = some (.int .i64 p.1) /\ wz.cell? ⟨W0.heap.size, 1, none⟩ = some (.int .i64 p.2)) (by kernel_rfl) (HMK.out _ HB0.out) (fun hHeld => ?_)
     generalize W5.drew = y0 at *
     refine E.zD (is := [0, 1, 2, 4, 6]) ?_
     iterate 5
      refine E.yD (v := ?_) rfl (by kernel_rfl) (fun c a w h => h) (by rfl) ?_ hHeld ?_
      rotate_left
      ·(intro w hSw; (try dsimp only at hSw); go_simp; try with_reducible rfl)
      simp only [E.pts]
     refine E.eD ?_
     refine wpD_ready (rs := [3]) (by kernel_rfl) (by simp) ?_
     refine AllD.cons rfl (fun K hK => ?_) AllD.nil
     go_simp
     refine (tk_any op (by omega) (by omega) y0).mono ?_
     rintro e w6 ⟨rfl, hw6⟩
     obtain rfl := hw6.symm
     refine hK.out _ _ (HMK.out _ HB0.out) (fun hHeld => ?_)
     clear hK K hw6
     try simp only [E.pts]
     refine wpD_ready (rs := [5]) (by kernel_rfl) (by simp) ?_
     refine AllD.cons rfl (fun K hK => ?_) AllD.nil
     go_simp
     refine (lv_any op (by omega) (by omega) y0).mono ?_
     rintro e w7 ⟨rfl, hw7⟩
     obtain rfl := hw7.symm
     refine hK.out _ _ (HMK.out _ HB0.out) (fun hHeld => ?_)
     clear hK K hw7
     try simp only [E.pts]
     have hFy := HF.out.1.go HN.out (Gw.of HB0.out) (HF.out.1.rw.below HB0.out)
     have hcs := step_r w { s with own := L2 } (.slice q2 L2.length c2) (P.ri op) (P.ro op) p g kv y0 hFy.rw (HF.out.2.below HB0.out) hL2
     generalize rstep (w, { s with own := L2 }) (P.ri op) (P.ro op) p = yy at *
     rw [<- (tk_ri op h9).1, <- (tk_ri op h9).2] at hcs
     have HFy := hid hFy
     unfold rsc at hcs
     (try simp only at hcs)
     clear hFy
     refine wpD_ready (rs := [7]) (by kernel_rfl) (by simp) ?_
     refine AllD.cons rfl (fun K hK => ?_) AllD.nil
     go_simp
     refine hcs.mono ?_
     rintro e w8 ⟨v', rfl, hov, hrw, hgw⟩
     obtain ⟨q3, c3, hv3, _, _⟩ := id hov.ex
     subst hv3
     clear hcs
     have hF8 := HFy.out.go HN.out hgw hrw
     have HT := hid (hF8.put HN.out yy.2 _ hov)
     have hst := hF8.sb
     obtain ⟨x0, x1, x2⟩ := hF8.sb.cells
     obtain ⟨p0, p1⟩ := hF8.pb.cells
     (try simp only at x0 x1 x2)
     refine hK.out _ _ ⟨x0, x1, x2, p0, p1⟩ (fun hHeld => ?_)
     clear hK K hF8 x0 x1 x2 p0 p1 hHeld hov hrw hgw HFy HMK HF
     try simp only [E.pts]
     refine wpD_ready (rs := [8]) (by kernel_rfl) (by simp) ?_
     refine AllD.late rfl (by kernel_rfl) (fun K hK => ?_)
     (try rw [if_pos (by rfl)])
     refine wp_store_row 99 _ _ rfl W.heap.size (rsc (.slice q3 yy.2.own.length c3) yy.2).toArray (by simp [Act.eval]) (by simp [Act.eval]) 99 _ hst (by exact sizeR) (by rfl) (by simp [Value.oneCell', rsc]) ?_
     refine hK.out _ _ ?_
     clear hK K
     try simp only [E.pts]
     refine wpD_done (by kernel_rfl) ?_ _
     generalize w8.setRow W.heap.size (rsc (.slice q3 yy.2.own.length c3) yy.2).toArray = w9 at *
     have x2 := HT.out.1.sb.cells.2.2
     have f2 := HT.out.1.sb.fro 2
     obtain ⟨wb, hwb⟩ : ∃ wb, w9.setCell ⟨W.heap.size, 2, none⟩ (.bool (decide ((op : Int) = 11))) = wb := ⟨_, rfl⟩
     have hFb : Fq W wb g kv W.heap.size W0.heap.size W1.heap.size { yy.2 with dead := decide ((op : Int) = 11) } (.slice q3 yy.2.own.length c3) p yy.1 := by rw [<- hwb]; exact HT.out.1.setS HN.out 2 _ rfl
     have hOb : OV wb g (.slice q3 yy.2.own.length c3) yy.2.own := by rw [<- hwb]; exact HT.out.2.kept fun b cur hb hc => S.setCell_other _ _ _ _ _ (fun e => by rw [e, HT.out.1.sb] at hc; simp only [Option.some.injEq, Obj.cells.injEq] at hc; exact absurd hc.2.1 (by decide))
     have d11 : ((op : Int) == 11) = decide ((op : Int) = 11) := by by_cases e : (op : Int) = 11 <;> simp [e]
     obtain ⟨y0', y1', y2'⟩ := hFb.sb.cells
     (try simp only at y0' y1' y2')
     have HT2 := hid (hFb.give HN.out { yy.2 with dead := decide ((op : Int) = 11) } _ hOb)
     have hst2 := hFb.rb
     unfold rsc at HT2
     (try simp only at HT2)
     clear hFb hOb HT hst
     go_wp2_with (refine wpList_store_row rfl 99 _ _ rfl W1.heap.size _ rfl rfl 99 _ hst2 (by exact sizeR) (by rfl) (by simp [Value.oneCell', rsc]) ?_)
     refine bodyPost_ret (rs_end 8 rfl rfl ⟨_, _, _, rfl⟩ HT2.out.1) rfl ?_
     rw [HY2.out]
     exact ⟨_, rfl, HT2.out.2.1, HT2.out.2.2.1, HT2.out.2.2.2⟩
set_option maxHeartbeats 2000000
set_option maxRecDepth 100000
abbrev Bx := Nat × Rs × Value
structure BL (W wz : World) (g : Nat) (kv : Value) (c d : Nat) (no : List Value) (w : Rw) (L : List Bx) : Prop where
  nb : wz.heap[c]? = some (.cells no.toArray 30 (0, 0))
  rb : RB wz d (.slice none 0 0) z0
  rw : RW wz g kv w
  gw : Gw g W wz
  gl : g < W.heap.size
  cl : W.heap.size <= c
  dl : W.heap.size <= d
  cd : c ≠ d
  bx : ∀ t ∈ L, RB wz t.1 t.2.2 t.2.1 /\ OV wz g t.2.2 t.2.1.own /\ W.heap.size <= t.1 /\ t.1 ≠ c /\ t.1 ≠ d
  nd : (L.map (·.1)).Nodup
theorem BL.go {W wz wy : World} {g : Nat} {kv : Value} {c d : Nat} {no : List Value} {w w' : Rw} {L : List Bx} (h : BL W wz g kv c d no w L) (k : Gw g wz wy) (hr : RW wy g kv w') : BL W wy g kv c d no w' L :=
  ⟨k.keep h.nb (by have := h.gl; have := h.cl; omega), k.keep h.rb (by have := h.gl; have := h.dl; omega), hr, h.gw.trans k, h.gl, h.cl, h.dl, h.cd, fun t ht => have e := h.bx t ht; ⟨k.keep e.1 (by have := h.gl; have := e.2.2.1; omega), e.2.1.gw k, e.2.2⟩, h.nd⟩
theorem BL.new {W wz wy : World} {g : Nat} {kv : Value} {c d : Nat} {no : List Value} {w : Rw} {L : List Bx} (h : BL W wz g kv c d no w L) (k : Below wz.heap.size wz wy) (s : Rs) (v : Value) (hb : RB wy wz.heap.size v s) (ho : OV wz g v s.own) : BL W wy g kv c d no w (L ++ [(wz.heap.size, s, v)]) := by
  have q := h.go (Gw.of k) (h.rw.below k)
  refine ⟨q.nb, q.rb, q.rw, q.gw, q.gl, q.cl, q.dl, q.cd, fun t ht => ?_, ?_⟩
  · rcases List.mem_append.1 ht with ht | ht
    · exact q.bx t ht
    · rw [List.mem_singleton] at ht
      subst ht
      exact ⟨hb, ho.below k, h.gw.size, by have := S.lt_of h.nb; simp only; omega, by have := S.lt_of h.rb; simp only; omega⟩
  · rw [List.map_append, List.nodup_append]
    refine ⟨q.nd, by simp, fun a ha b hb' => ?_⟩
    simp only [List.map_cons, List.map_nil, List.mem_singleton] at hb'
    obtain ⟨t, ht, rfl⟩ := List.mem_map.1 ha
    have := S.lt_of (h.bx t ht).1
    omega
theorem BL.put {W wz : World} {g : Nat} {kv : Value} {c d : Nat} {no : List Value} {w : Rw} {L : List Bx} (h : BL W wz g kv c d no w L) (i : Nat) (b : Nat) (s0 : Rs) (v0 : Value) (hi : L[i]? = some (b, s0, v0)) (s : Rs) (v : Value) (ho : OV wz g v s.own) : BL W (wz.setRow b (rsc v s).toArray) g kv c d no w (L.set i (b, s, v)) := by
  have hm := List.mem_of_getElem? hi
  have e := h.bx _ hm
  simp only at e
  have k : ∀ j, j ≠ b -> (wz.setRow b (rsc v s).toArray).heap[j]? = wz.heap[j]? := fun j hj => setRow_other _ _ _ _ hj
  have hnd : ∀ (t : Bx) (j : Nat), L[j]? = some t -> j ≠ i -> t.1 ≠ b := fun t j hj hne heq => by
    have h1 : (L.map (·.1))[j]? = some b := by rw [List.getElem?_map, hj]; simp [heq]
    have h2 : (L.map (·.1))[i]? = some b := by rw [List.getElem?_map, hi]; rfl
    obtain ⟨l1, e1⟩ := List.getElem?_eq_some_iff.1 h1
    obtain ⟨l2, e2⟩ := List.getElem?_eq_some_iff.1 h2
    exact hne ((List.getElem_inj h.nd).1 (e1.trans e2.symm))
  refine ⟨(k c (Ne.symm e.2.2.2.1)).trans h.nb, (k d (Ne.symm e.2.2.2.2)).trans h.rb, (k g (by have := h.gl; have := e.2.2.1; omega)).trans h.rw, h.gw.setR2 b _ e.2.2.1, h.gl, h.cl, h.dl, h.cd, fun t ht => ?_, ?_⟩
  · obtain ⟨j, hj⟩ := List.getElem?_of_mem ht
    rw [List.getElem?_set] at hj
    by_cases hij : i = j
    · rw [if_pos hij] at hj
      split at hj
      · cases hj
        exact ⟨setRow_heap wz b _ _ _ _ e.1, ho.row _ e.1 (by decide), e.2.2⟩
      · cases hj
    · rw [if_neg hij] at hj
      have q := h.bx t (List.mem_of_getElem? hj)
      exact ⟨(k _ (hnd t j hj (Ne.symm hij))).trans q.1, q.2.1.row _ e.1 (by decide), q.2.2⟩
  · have : (L.set i (b, s, v)).map (·.1) = L.map (·.1) := by
      rw [List.map_set]
      apply List.ext_getElem?
      intro j
      rw [List.getElem?_set]
      split
      · rename_i hij
        subst hij
        rw [List.getElem?_map, hi]
        split
        · rfl
        · rename_i hlt
          exact absurd (by rw [List.length_map]; exact (List.getElem?_eq_some_iff.1 hi).1) hlt
      · rfl
    rw [this]
    exact h.nd
theorem BL.fin {W wz : World} {g : Nat} {kv : Value} {c d : Nat} {no : List Value} {w : Rw} {L : List Bx} (h : BL W wz g kv c d no w L) (s : Rs) (v : Value) (ho : OV wz g v s.own) : RB (wz.setRow d (rsc v s).toArray) d v s /\ OV (wz.setRow d (rsc v s).toArray) g v s.own /\ RW (wz.setRow d (rsc v s).toArray) g kv w /\ Gw g W (wz.setRow d (rsc v s).toArray) :=
  ⟨setRow_heap wz d _ _ _ _ h.rb, ho.row _ h.rb (by decide), (setRow_other wz d g _ (by have := h.gl; have := h.dl; omega)).trans h.rw, h.gw.setR2 d _ h.dl⟩
theorem BL.at {W wz : World} {g : Nat} {kv : Value} {c d : Nat} {no : List Value} {w : Rw} {L : List Bx} (h : BL W wz g kv c d no w L) (i b : Nat) (s : Rs) (v : Value) (hi : L[i]? = some (b, s, v)) : RB wz b v s /\ OV wz g v s.own := have e := h.bx _ (List.mem_of_getElem? hi); ⟨e.1, e.2.1⟩
theorem BL.kill {W wz : World} {g : Nat} {kv : Value} {c d : Nat} {no : List Value} {w : Rw} {L : List Bx} (h : BL W wz g kv c d no w L) (i b : Nat) (s : Rs) (v : Value) (hi : L[i]? = some (b, s, v)) : BL W (wz.setCell ⟨b, 2, none⟩ (.bool true)) g kv c d no w (L.set i (b, { s with dead := true }, v)) := by
  have q := h.put i b s v hi { s with dead := true } v (h.at i b s v hi).2
  have e : wz.setRow b (rsc v { s with dead := true }).toArray = wz.setCell ⟨b, 2, none⟩ (.bool true) := by
    have hb := (h.at i b s v hi).1
    unfold RB at hb
    unfold World.setRow World.setCell
    simp only
    congr 1
    apply Array.ext_getElem?
    intro j
    rw [Array.getElem?_modify, Array.getElem?_modify]
    by_cases hj : b = j
    · subst hj
      simp [hb, rsc]
    · simp [hj]
  rw [<- e]
  exact q
theorem box_n (s : Rs) (sv : Value) (no : List Value) (g : Nat) (kv : Value) (w : Rw) (W : World) (h : RW W g kv w) (ho : OV W g sv s.own) : ∃ W0 W1 W2, W.alloc (.cells #[.int .i64 s.h, sv, .bool s.dead] 99) = W0 /\ W0.alloc (.cells no.toArray 30) = W1 /\ W1.alloc (.cells #[.int .i64 0, .slice none 0 0, .bool false] 99) = W2 /\ BL W W2 g kv W0.heap.size W1.heap.size no w [(W.heap.size, s, sv)] := by
  refine ⟨_, _, _, rfl, rfl, rfl, ?_⟩
  have t : ∀ (X : World) (o : Obj) (i : Nat), i < X.heap.size -> (X.alloc o).heap[i]? = X.heap[i]? := fun X o i hi => ((Below.refl _ X).alloc (Nat.le_refl _) o).block i hi
  have hB : Below W.heap.size W (((W.alloc (.cells #[.int .i64 s.h, sv, .bool s.dead] 99)).alloc (.cells no.toArray 30)).alloc (.cells #[.int .i64 0, .slice none 0 0, .bool false] 99)) := (((Below.refl _ W).alloc (Nat.le_refl _) _).alloc (by simp) _).alloc (by simp; omega) _
  refine ⟨(t _ _ _ (by simp)).trans (heap_alloc_new _ _), heap_alloc_new _ _, h.below hB, Gw.of hB, h.lt, by simp, by simp; omega, by simp, fun t' ht => ?_, by simp⟩
  rw [List.mem_singleton] at ht
  subst ht
  exact ⟨(t _ _ _ (by simp; omega)).trans ((t _ _ _ (by simp)).trans (heap_alloc_new W _)), ho.below hB, Nat.le_refl _, by simp, by simp; omega⟩
end Go.Proofs.YtlilefhmohkfkaaGreatDoor.E
