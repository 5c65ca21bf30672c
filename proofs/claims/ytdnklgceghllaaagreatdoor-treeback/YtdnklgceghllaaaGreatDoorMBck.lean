import Derived.Test.YtdnklgceghllaaaGreatDoorMEq
import Derived.Test.YtdnklgceghllaaaGreatDoorMFixed
namespace Go.Proofs.YtdnklgceghllaaaGreatDoor.M
open Go.RowKit
open Go.Proofs
open Go.Proofs.YtdnklgceghllaaaGreatDoor.Y (Nd Df Ps Bk DV BV hid)
open Go.Proofs.YtdnklgceghllaaaGreatDoor.D (RdO New Er)
open Go.Proofs.YtdnklgceghllaaaGreatDoor.R (chk)
set_option linter.unusedVariables false
set_option linter.unusedSimpArgs false
set_option maxHeartbeats 4000000
set_option maxRecDepth 100000
theorem pg_at {N w : World} {dv xv : Value} {ds : List Df} {bs : List Bk} {O : Nat -> Prop} (hD : DV N O dv ds) (hX : BV N O xv bs) (hl : ∀ j, O j -> j < N.heap.size) (k : Below N.heap.size N w) : (∀ j, O j -> j < w.heap.size) /\ DV w O dv ds /\ BV w O xv bs := ⟨fun j hj => Nat.lt_of_lt_of_le (hl j hj) k.size, hD.below k hl, hX.below k hl⟩
theorem back_walk (s : ByteArray) (hs : s.size <= 140737488355328) (W : World) (hT : P10 W) : Calls Tryz.prog 3 #[.string s] W fun e w' => e = .returned (.bool true) /\ Below W.heap.size W w' := by
 have hc0 := fixed_any W hT
 have HT := hid hT
 have HP := hid (fun w => parse_any s hs w)
 obtain ⟨RES, hRES⟩ : ∃ R, pans s = R := ⟨_, rfl⟩
 rw [hRES] at HP
 have HR := hid hRES
 clear hT hs hRES
 go_enter Tryz.func3, Tryz.ntmps3
 go_wp2_with fail
 refine hc0.mono ?_
 rintro e w0 ⟨rfl, hb0⟩
 have HB0 := hid hb0
 clear hc0 hb0
 go_wp2_with fail
 refine (HP.out w0).mono ?_
 rintro e w1 hO
 cases RES with
 | error er =>
  obtain ⟨rfl, hb1⟩ := hO
  have hnz := pans_nz s er HR.out
  have b1 : (er.2 != 0) = true := by simpa using hnz
  have hB1 := HB0.out.trans (hb1.mono HB0.out.size)
  obtain ⟨W2, hW2, hb2, u0, u1⟩ := two_box w1 (.slice none 0 0) (.slice none 0 0) (.int .i64 er.1.1) (.int .i64 er.1.2)
  obtain ⟨x0, x1⟩ := box2 u0 (Below.refl _ W2)
  have HW2 := hid hW2
  have HB2 := hid (hB1.trans (hb2.mono hB1.size))
  clear hb1 hB1 hb2 u0 u1 hW2 hnz HR
  obtain ⟨c, hc⟩ : ∃ c, er.2 = c := ⟨_, rfl⟩
  rw [hc] at b1 ⊢
  go_upto_region 4 with fail
  rw [HW2.out]
  go_wp2
  go_ret
  exact ⟨rfl, HB2.out⟩
 | ok x =>
  obtain ⟨ds, bs⟩ := x
  obtain ⟨dv, xv, rfl, hD, hX, hb1⟩ := hO
  obtain ⟨hck, hvd⟩ := pans_chk s ds bs HR.out
  have hnm := chk_nms ds [] (chk_is hck).1
  have hfw := chk_few hck
  obtain ⟨p1, c1, e1, _⟩ := id hD
  obtain ⟨p2, c2, e2, _⟩ := id hX
  subst e1 e2
  have hB1 := HB0.out.trans (hb1.mono HB0.out.size)
  obtain ⟨W2, hW2, hb2, u0, u1⟩ := two_box w1 (.slice p1 ds.length c1) (.slice p2 bs.length c2) (.int .i64 0) (.int .i64 0)
  obtain ⟨x0, x1⟩ := box2 u0 (Below.refl _ W2)
  have HW2 := hid hW2
  have hB2 := hB1.trans (hb2.mono hB1.size)
  have HG := hid (fun (w : World) (k : Below W2.heap.size W2 w) => show _ /\ P10 w /\ Below W.heap.size W w from ⟨pg_at hD hX (fun j hj => hj.2) (hb2.trans (k.mono hb2.size)), HT.out.below (hB2.trans (k.mono hB2.size)), hB2.trans (k.mono hB2.size)⟩)
  have HX := hid (fun (w : World) (k : Below W2.heap.size W2 w) => box2 u0 k)
  have HC := hid (And.intro hck (And.intro hvd (And.intro hnm hfw)))
  clear hb1 hB1 hb2 u0 u1 hW2 hck hvd hnm hfw hD hX hB2 HR
  go_upto_region 4 with fail
  rw [HW2.out]
  go_wp2_with fail
  obtain ⟨⟨o1, o2, o3⟩, o4, o5⟩ := HG.out W2 (Below.refl _ _)
  have hc3 := print_is ds bs HC.out.2.2.1 HC.out.2.2.2 _ _ _ W2 o1 o2 o3 o4
  clear o1 o2 o3 o4 o5
  have hpr : prn ds bs = if 65536 < (ptx ds bs).length then (⟨#[]⟩, 90) else (⟨(ptx ds bs).toArray⟩, 0) := by unfold prn; rw [if_pos HC.out.1]
  rw [hpr] at hc3
  have hcc : ∀ w, Below W2.heap.size W2 w -> Calls Tryz.prog 12 #[.agg #[.slice p1 ds.length c1, .slice p2 bs.length c2]] w fun e w' => e = .returned (.int .i64 0) /\ Below w.heap.size w w' := fun w k => by
   obtain ⟨⟨o1, o2, o3⟩, o4, o5⟩ := HG.out w k
   have := R.check_any ds bs HC.out.2.2.1 HC.out.2.2.2 _ _ _ w o1 o2 o3
   rwa [HC.out.1] at this
  have HCC := hid hcc
  clear hpr hcc
  by_cases hlong : 65536 < (ptx ds bs).length
  ·rw [if_pos hlong] at hc3
   clear hlong
   refine hc3.mono ?_
   rintro e w3 ⟨rfl, hb3⟩
   obtain ⟨x0, x1⟩ := HX.out w3 hb3
   have hc4 := HCC.out w3 hb3
   have HB3 := hid hb3
   clear hc3 hb3
   go_wp2_with fail
   refine hc4.mono ?_
   rintro e w4 ⟨rfl, hb4⟩
   have HB4 := hid (HG.out w4 (HB3.out.trans (hb4.mono HB3.out.size))).2.2
   clear hc4 hb4
   go_wp2
   go_ret
   exact ⟨rfl, HB4.out⟩
  ·rw [if_neg hlong] at hc3
   obtain ⟨ds', hpp, hsm⟩ := parse_print ds bs HC.out.1 HC.out.2.1 (by omega)
   obtain ⟨hck', hvd'⟩ := pans_chk _ ds' bs hpp
   have hpx := ptx_same ds ds' bs hsm
   have hpr' : prn ds' bs = (⟨(ptx ds bs).toArray⟩, 0) := by
    unfold prn
    rw [if_pos hck', <- hpx, if_neg hlong]
   have hnm' := chk_nms ds' [] (chk_is hck').1
   have hsz : (⟨(ptx ds bs).toArray⟩ : ByteArray).size <= 65536 := by
    have : (⟨(ptx ds bs).toArray⟩ : ByteArray).size = (ptx ds bs).length := by simp [ByteArray.size]
    omega
   generalize (⟨(ptx ds bs).toArray⟩ : ByteArray) = T at *
   have HQ := hid (And.intro hpp (And.intro hsm (And.intro hpr' (And.intro hnm' hsz))))
   clear hpp hsm hck' hvd' hpx hpr' hnm' hsz hlong
   refine hc3.mono ?_
   rintro e w3 ⟨rfl, hb3⟩
   obtain ⟨x0, x1⟩ := HX.out w3 hb3
   have hc4 := HCC.out w3 hb3
   have HB3 := hid hb3
   clear hc3 hb3
   go_wp2_with fail
   refine hc4.mono ?_
   rintro e w4 ⟨rfl, hb4⟩
   have hb24 := HB3.out.trans (hb4.mono HB3.out.size)
   have hc5 := parse_any T (by have := HQ.out.2.2.2.2; omega) w4
   rw [HQ.out.1] at hc5
   have HB4 := hid hb24
   clear hc4 hb4 hb24
   go_wp2_with fail
   refine hc5.mono ?_
   rintro e w5 ⟨dv', xv', rfl, hD', hX', hb5⟩
   obtain ⟨q1, k1, e1, _⟩ := id hD'
   obtain ⟨q2, k2, e2, _⟩ := id hX'
   subst e1 e2
   obtain ⟨W6, hW6, hb6, v0, v1⟩ := two_box w5 (.slice q1 ds'.length k1) (.slice q2 bs.length k2) (.int .i64 0) (.int .i64 0)
   have hb26 : Below W2.heap.size W2 W6 := (HB4.out.trans (hb5.mono HB4.out.size)).trans (hb6.mono (by have := HB4.out.size; have := hb5.size; omega))
   obtain ⟨y0, y1⟩ := box2 v0 (Below.refl _ W6)
   have HW6 := hid hW6
   have HY := hid (fun (w : World) (k : Below W6.heap.size W6 w) => show (w.cell? ⟨w5.heap.size, 0, none⟩ = some (.slice q1 ds'.length k1) /\ w.cell? ⟨w5.heap.size, 1, none⟩ = some (.slice q2 bs.length k2)) /\ (∀ j, New w4 w5 j -> j < w.heap.size) /\ DV w (New w4 w5) (.slice q1 ds'.length k1) ds' /\ BV w (New w4 w5) (.slice q2 bs.length k2) bs from ⟨box2 v0 k, pg_at hD' hX' (fun j hj => hj.2) (hb6.trans (k.mono hb6.size))⟩)
   have HB6 := hid hb26
   clear hc5 hb5 hD' hX' hb6 hb26 v0 v1 hW6 x0 x1
   go_upto_region 12 with fail
   rw [HW6.out]
   obtain ⟨_, o1, o2, o3⟩ := HY.out W6 (Below.refl _ _)
   have hc6 := print_is ds' bs HQ.out.2.2.2.1 HC.out.2.2.2 _ _ _ W6 o1 o2 o3 (HG.out W6 HB6.out).2.1
   rw [HQ.out.2.2.1] at hc6
   clear o1 o2 o3
   go_wp2_with fail
   refine hc6.mono ?_
   rintro e w7 ⟨rfl, hb7⟩
   have hb27 := HB6.out.trans (hb7.mono HB6.out.size)
   obtain ⟨⟨y0, y1⟩, o1, o2, o3⟩ := HY.out w7 hb7
   obtain ⟨x0, x1⟩ := HX.out w7 hb27
   obtain ⟨⟨r1, r2, r3⟩, _, _⟩ := HG.out w7 hb27
   have hc7 := same_any ds ds' bs bs HC.out.2.2.2 _ _ _ _ (fun j => j < w7.heap.size) w7 (fun j hj => hj) (r2.kept (fun _ _ => rfl) r1) (r3.kept (fun _ _ => rfl) r1) (o2.kept (fun _ _ => rfl) o1) (o3.kept (fun _ _ => rfl) o1)
   rw [HQ.out.2.1, smbs_refl, Bool.and_true] at hc7
   have HB7 := hid hb27
   have i1 : (T.size : Int) <= 65536 := by have := HQ.out.2.2.2.2; omega
   clear hc6 hb7 hb27 o1 o2 o3 r1 r2 r3
   go_wp2_with fail
   refine hc7.mono ?_
   rintro e w8 ⟨rfl, hb8⟩
   have HB8 := hid (HG.out w8 (HB7.out.trans (hb8.mono HB7.out.size))).2.2
   clear hc7 hb8
   go_wp2
   go_ret
   exact ⟨rfl, HB8.out⟩
end Go.Proofs.YtdnklgceghllaaaGreatDoor.M
