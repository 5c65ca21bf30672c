import Derived.Test.YtoemoiehjdmheaaGreatDDrop
import Derived.Test.YtoemoiehjdmheaaGreatZBgn
namespace Go.Proofs.YtoemoiehjdmheaaGreat.Z
open Go.RowKit
open Go.Proofs
open Go.Proofs.YtoemoiehjdmheaaGreat.Y (Nd Df Ps Pl hid ZV)
set_option linter.unusedVariables false
set_option linter.unusedSimpArgs false
set_option maxHeartbeats 4000000
set_option maxRecDepth 100000
section
variable {W : World} {O : Nat -> Prop} {l : List Mn} {i : Nat} {x : Mn} {r : List Fr} {e : Ps} {b o c : Nat} {wq tp op : Option Addr} {tc oc : Nat} {t : TypeId} {bx : Value}
theorem Sp.fx (h : Sp W O l i x r e b o c wq tp op tc oc t bx) (g : Nat) : Fr.x ⟨g, l, i⟩ = x := by unfold Fr.x; simp only; rw [h.hx]; rfl
theorem field_th (W : World) (z0 z1 z3 z4 z5 : Int) (b8 : Bool) (wq p6 p7 : Option Addr) (n6 q6 n7 q7 : Nat) : (Instr.field 173 (.agg #[.int .i64 z0, .int .u16 z1, .pointer wq, .int .i64 z3, .int .i64 z4, .int .i64 z5, .slice p6 n6 q6, .slice p7 n7 q7, .bool b8]) 2).run Tryz.prog W = .ok (.slice p6 n6 q6) W := by
 simp [Instr.field, run_underlying Tryz.underlying173, Value.cells, go_sem, asAgg, part]
theorem field_ot (W : World) (z0 z1 z3 z4 z5 : Int) (b8 : Bool) (wq p6 p7 : Option Addr) (n6 q6 n7 q7 : Nat) : (Instr.field 173 (.agg #[.int .i64 z0, .int .u16 z1, .pointer wq, .int .i64 z3, .int .i64 z4, .int .i64 z5, .slice p6 n6 q6, .slice p7 n7 q7, .bool b8]) 3).run Tryz.prog W = .ok (.slice p7 n7 q7) W := by
 simp [Instr.field, run_underlying Tryz.underlying173, Value.cells, go_sem, asAgg, part]
theorem drewB (W : World) : Below W.heap.size W W.drew := ⟨rfl, rfl, rfl, Nat.le_refl _, fun _ _ => rfl⟩
theorem on_0 (h : Sp W O l i x r e b o c wq tp op tc oc t bx) (W' : World) (k : Below W.heap.size W W') (ld : Bool) :
  Calls Tryz.prog 198 #[.agg #[.slice (some ⟨b, o, none⟩) l.length c, .int .i64 (i : Int), .iface t bx], .bool ld] W' fun e' w' => ∃ v, e' = .returned v /\ PV W O (onf ⟨0, l, i⟩ r ld) e v /\ Below W'.heap.size W' w' := by
 obtain ⟨W1, hW1, hb1, u1, hx3⟩ := box3 W' (.slice (some ⟨b, o, none⟩) l.length c) (.int .i64 (i : Int)) (.iface t bx) 197
 obtain ⟨x0, x1, x2⟩ := hx3 W1 (Below.refl _ _)
 have HX := hid hx3
 have HW1 := hid hW1
 have HB1 := hid hb1
 have HK := hid k
 have HFX := hid (h.fx 0)
 have hc := h.pastC W1 (k.trans (hb1.mono k.size))
 have hg : onf ⟨0, l, i⟩ r ld = bgn l (i + 1) r := rfl
 rw [hg]
 clear u1 hx3 hW1 hb1 h k hg HFX HX HK
 generalize l.length = N at *
 go_enter Tryz.func198, Tryz.ntmps198
 go_upto_region 1 with fail
 rw [HW1.out]
 go_wp2_with fail
 refine hc.mono ?_
 rintro e' w2 ⟨v, rfl, hv, hb2⟩
 have HV := hid (And.intro hv (HB1.out.trans (hb2.mono HB1.out.size)))
 clear hc hv hb2
 go_wp2
 go_ret
 exact ⟨v, rfl, HV.out⟩
theorem on_2 (h : Sp W O l i x r e b o c wq tp op tc oc t bx) (W' : World) (k : Below W.heap.size W W') (ld : Bool) :
  Calls Tryz.prog 202 #[.agg #[.slice (some ⟨b, o, none⟩) l.length c, .int .i64 (i : Int), .iface t bx], .bool ld] W' fun e' w' => ∃ v, e' = .returned v /\ PV W O (onf ⟨2, l, i⟩ r ld) e v /\ Below W'.heap.size W' w' := by
 obtain ⟨W1, hW1, hb1, u1, hx3⟩ := box3 W' (.slice (some ⟨b, o, none⟩) l.length c) (.int .i64 (i : Int)) (.iface t bx) 269
 obtain ⟨x0, x1, x2⟩ := hx3 W1 (Below.refl _ _)
 have HX := hid hx3
 have HW1 := hid hW1
 have HB1 := hid hb1
 have HK := hid k
 have HFX := hid (h.fx 2)
 have hc := h.pastC W1 (k.trans (hb1.mono k.size))
 have hg : onf ⟨2, l, i⟩ r ld = bgn l (i + 1) r := rfl
 rw [hg]
 clear u1 hx3 hW1 hb1 h k hg HFX HX HK
 generalize l.length = N at *
 go_enter Tryz.func202, Tryz.ntmps202
 go_upto_region 1 with fail
 rw [HW1.out]
 go_wp2_with fail
 refine hc.mono ?_
 rintro e' w2 ⟨v, rfl, hv, hb2⟩
 have HV := hid (And.intro hv (HB1.out.trans (hb2.mono HB1.out.size)))
 clear hc hv hb2
 go_wp2
 go_ret
 exact ⟨v, rfl, HV.out⟩
theorem on_5 (h : Sp W O l i x r e b o c wq tp op tc oc t bx) (W' : World) (k : Below W.heap.size W W') (ld : Bool) :
  Calls Tryz.prog 194 #[.agg #[.slice (some ⟨b, o, none⟩) l.length c, .int .i64 (i : Int), .iface t bx], .bool ld] W' fun e' w' => ∃ v, e' = .returned v /\ PV W O (onf ⟨5, l, i⟩ r ld) e v /\ Below W'.heap.size W' w' := by
 obtain ⟨W1, hW1, hb1, u1, hx3⟩ := box3 W' (.slice (some ⟨b, o, none⟩) l.length c) (.int .i64 (i : Int)) (.iface t bx) 195
 obtain ⟨x0, x1, x2⟩ := hx3 W1 (Below.refl _ _)
 have HX := hid hx3
 have HW1 := hid hW1
 have HB1 := hid hb1
 have HK := hid k
 have HFX := hid (h.fx 5)
 have hc := h.beginC W1 (k.trans (hb1.mono k.size)) i (Nat.le_of_lt h.lt)
 have hg : onf ⟨5, l, i⟩ r ld = bgn l i r := rfl
 rw [hg]
 clear u1 hx3 hW1 hb1 h k hg HFX HX HK
 generalize l.length = N at *
 go_enter Tryz.func194, Tryz.ntmps194
 go_upto_region 1 with fail
 rw [HW1.out]
 go_wp2_with fail
 refine hc.mono ?_
 rintro e' w2 ⟨v, rfl, hv, hb2⟩
 have HV := hid (And.intro hv (HB1.out.trans (hb2.mono HB1.out.size)))
 clear hc hv hb2
 go_wp2
 go_ret
 exact ⟨v, rfl, HV.out⟩
theorem on_3 (h : Sp W O l i x r e b o c wq tp op tc oc t bx) (W' : World) (k : Below W.heap.size W W') (ld : Bool) :
  Calls Tryz.prog 190 #[.agg #[.slice (some ⟨b, o, none⟩) l.length c, .int .i64 (i : Int), .iface t bx], .bool ld] W' fun e' w' => ∃ v, e' = .returned v /\ PV W O (onf ⟨3, l, i⟩ r ld) e v /\ Below W'.heap.size W' w' := by
 obtain ⟨W1, hW1, hb1, u1, hx3⟩ := box3 W' (.slice (some ⟨b, o, none⟩) l.length c) (.int .i64 (i : Int)) (.iface t bx) 193
 obtain ⟨x0, x1, x2⟩ := hx3 W1 (Below.refl _ _)
 have HX := hid hx3
 have HW1 := hid hW1
 have HB1 := hid hb1
 have HK := hid k
 have HFX := hid (h.fx 3)
 cases ld with
 | true =>
  have hc := h.beginC W1 (k.trans (hb1.mono k.size)) i (Nat.le_of_lt h.lt)
  have hg : onf ⟨3, l, i⟩ r true = bgn l i r := rfl
  rw [hg]
  clear u1 hx3 hW1 hb1 h k hg HFX HX HK
  generalize l.length = N at *
  go_enter Tryz.func190, Tryz.ntmps190
  go_upto_region 2 with fail
  rw [HW1.out]
  go_wp2_with fail
  refine hc.mono ?_
  rintro e' w2 ⟨v, rfl, hv, hb2⟩
  have HV := hid (And.intro hv (HB1.out.trans (hb2.mono HB1.out.size)))
  clear hc hv hb2
  go_wp2
  go_ret
  exact ⟨v, rfl, HV.out⟩
 | false =>
  have hc := h.pastC W1 (k.trans (hb1.mono k.size))
  have hg : onf ⟨3, l, i⟩ r false = bgn l (i + 1) r := rfl
  rw [hg]
  clear u1 hx3 hW1 hb1 h k hg HFX HX HK
  generalize l.length = N at *
  go_enter Tryz.func190, Tryz.ntmps190
  go_upto_region 3 with fail
  rw [HW1.out]
  go_wp2_with fail
  refine hc.mono ?_
  rintro e' w2 ⟨v, rfl, hv, hb2⟩
  have HV := hid (And.intro hv (HB1.out.trans (hb2.mono HB1.out.size)))
  clear hc hv hb2
  go_wp2
  go_ret
  exact ⟨v, rfl, HV.out⟩
theorem on_4 (h : Sp W O l i x r e b o c wq tp op tc oc t bx) (W' : World) (k : Below W.heap.size W W') (ld : Bool) :
  Calls Tryz.prog 192 #[.agg #[.slice (some ⟨b, o, none⟩) l.length c, .int .i64 (i : Int), .iface t bx], .bool ld] W' fun e' w' => ∃ v, e' = .returned v /\ PV W O (onf ⟨4, l, i⟩ r ld) e v /\ Below W'.heap.size W' w' := by
 obtain ⟨W1, hW1, hb1, u1, hx3⟩ := box3 W' (.slice (some ⟨b, o, none⟩) l.length c) (.int .i64 (i : Int)) (.iface t bx) 194
 obtain ⟨x0, x1, x2⟩ := hx3 W1 (Below.refl _ _)
 have HX := hid hx3
 have HW1 := hid hW1
 have HB1 := hid hb1
 have HK := hid k
 have HFX := hid (h.fx 4)
 cases ld with
 | true =>
  have hc := h.pastC W1 (k.trans (hb1.mono k.size))
  have hg : onf ⟨4, l, i⟩ r true = bgn l (i + 1) r := rfl
  rw [hg]
  clear u1 hx3 hW1 hb1 h k hg HFX HX HK
  generalize l.length = N at *
  go_enter Tryz.func192, Tryz.ntmps192
  go_upto_region 2 with fail
  rw [HW1.out]
  go_wp2_with fail
  refine hc.mono ?_
  rintro e' w2 ⟨v, rfl, hv, hb2⟩
  have HV := hid (And.intro hv (HB1.out.trans (hb2.mono HB1.out.size)))
  clear hc hv hb2
  go_wp2
  go_ret
  exact ⟨v, rfl, HV.out⟩
 | false =>
  have hg : onf ⟨4, l, i⟩ r false = bgn x.ot 0 (⟨5, l, i⟩ :: r) := by unfold onf; simp only [HFX.out]; rfl
  rw [hg]
  have HSP := hid h
  have HKB := hid (k.trans (hb1.mono k.size))
  have hf := field_ot (b8 := x.has) (z0 := x.op) (z1 := x.v) (z3 := x.p.1) (z4 := x.p.2) (z5 := x.k) (wq := wq) (p6 := tp) (p7 := op) (n6 := x.th.length) (q6 := tc) (n7 := x.ot.length) (q7 := oc)
  clear u1 hx3 hW1 hb1 h k hg HFX HK
  go_enter Tryz.func192, Tryz.ntmps192
  go_upto_region 3 with fail
  rw [HW1.out]
  refine wp_region_held_drew (S := (fun w' : World => Below W1.heap.size W1 w')) (by kernel_rfl) (drewB W1) (fun hHeld => ?_)
  generalize W1.drew = y0 at *
  clear x0 x1 x2
  refine D.zH (is := [0, 1, 4, 5, 6, 7]) ?_
  iterate 6
   refine D.yH (v := ?_) rfl (by kernel_rfl) (fun c a w h => h) (by rfl) ?_ hHeld ?_
   rotate_left
   ·(intro w hSw; obtain ⟨x0, x1, x2⟩ := HX.out w hSw; go_simp; try with_reducible rfl)
   simp only [D.pts]
  refine D.eH ?_
  refine wpAnyH_ready (rs := [2]) (by kernel_rfl) (by simp) ?_
  refine AllReadyH.cons rfl (fun K hK => ?_) AllReadyH.nil
  go_simp
  refine (HSP.out.node y0 (HKB.out.trans (Below.mono hHeld HKB.out.size))).mono ?_
  rintro e' y1 ⟨rfl, hb2⟩
  have hs1 : Below W1.heap.size W1 y1 := Below.trans hHeld (hb2.mono hHeld.size)
  refine hK.out _ _ hs1 (fun hHeld => ?_)
  clear hK K
  try simp only [D.pts]
  clear hb2
  refine D.xH 3 (v := ?_) rfl (by kernel_rfl) (fun c a w h => h) (by rfl) ?_ hHeld ?_
  rotate_left
  ·(intro w hSw; obtain ⟨x0, x1, x2⟩ := HX.out w hSw; go_simp; try with_reducible rfl)
  simp only [D.pts]
  refine wpAnyH_ready (rs := [8]) (by kernel_rfl) (by simp) ?_
  refine AllReadyH.cons rfl (fun K hK => ?_) AllReadyH.nil
  go_simp
  refine (HSP.out.firstO y1 (HKB.out.trans (Below.mono hHeld HKB.out.size)) (ty 5) _ _ (HSP.out.place 5 (by decide))).mono ?_
  rintro e' y2 ⟨v, rfl, hv, hb2⟩
  have hs2 : Below W1.heap.size W1 y2 := Below.trans hHeld (hb2.mono hHeld.size)
  refine hK.out _ _ hs2 (fun hHeld => ?_)
  clear hK K
  try simp only [D.pts]
  clear hb2
  refine wpAnyH_ready (rs := [9]) (by kernel_rfl) (by simp) ?_
  refine AllReadyH.cons rfl (fun K hK => ?_) AllReadyH.nil
  go_simp
  refine hK.out _ _ hs2 (fun hHeld => ?_)
  clear hK K
  try simp only [D.pts]
  refine wpAnyH_done (by kernel_rfl) ?_ _
  have HV := hid (And.intro hv (HB1.out.trans (Below.mono hHeld HB1.out.size)))
  clear hv hHeld hs1 hs2
  go_wp2
  go_ret
  exact ⟨v, rfl, HV.out⟩
theorem on_6 (h : Sp W O l i x r e b o c wq tp op tc oc t bx) (W' : World) (k : Below W.heap.size W W') (ld : Bool) :
  Calls Tryz.prog 196 #[.agg #[.slice (some ⟨b, o, none⟩) l.length c, .int .i64 (i : Int), .iface t bx], .bool ld] W' fun e' w' => ∃ v, e' = .returned v /\ PV W O (onf ⟨6, l, i⟩ r ld) e v /\ Below W'.heap.size W' w' := by
 obtain ⟨W1, hW1, hb1, u1, hx3⟩ := box3 W' (.slice (some ⟨b, o, none⟩) l.length c) (.int .i64 (i : Int)) (.iface t bx) 196
 obtain ⟨x0, x1, x2⟩ := hx3 W1 (Below.refl _ _)
 have HX := hid hx3
 have HW1 := hid hW1
 have HB1 := hid hb1
 have HK := hid k
 have HFX := hid (h.fx 6)
 have hg : onf ⟨6, l, i⟩ r ld = bgn x.th 0 (⟨7, l, i⟩ :: r) := by unfold onf; simp only [HFX.out]
 rw [hg]
 have HSP := hid h
 have HKB := hid (k.trans (hb1.mono k.size))
 have hf := field_th (b8 := x.has) (z0 := x.op) (z1 := x.v) (z3 := x.p.1) (z4 := x.p.2) (z5 := x.k) (wq := wq) (p6 := tp) (p7 := op) (n6 := x.th.length) (q6 := tc) (n7 := x.ot.length) (q7 := oc)
 clear u1 hx3 hW1 hb1 h k hg HFX HK
 go_enter Tryz.func196, Tryz.ntmps196
 go_upto_region 1 with fail
 rw [HW1.out]
 refine wp_region_held_drew (S := (fun w' : World => Below W1.heap.size W1 w')) (by kernel_rfl) (drewB W1) (fun hHeld => ?_)
 generalize W1.drew = y0 at *
 clear x0 x1 x2
 refine D.zH (is := [0, 1, 4, 5, 6, 7]) ?_
 iterate 6
  refine D.yH (v := ?_) rfl (by kernel_rfl) (fun c a w h => h) (by rfl) ?_ hHeld ?_
  rotate_left
  ·(intro w hSw; obtain ⟨x0, x1, x2⟩ := HX.out w hSw; go_simp; try with_reducible rfl)
  simp only [D.pts]
 refine D.eH ?_
 refine wpAnyH_ready (rs := [2]) (by kernel_rfl) (by simp) ?_
 refine AllReadyH.cons rfl (fun K hK => ?_) AllReadyH.nil
 go_simp
 refine (HSP.out.node y0 (HKB.out.trans (Below.mono hHeld HKB.out.size))).mono ?_
 rintro e' y1 ⟨rfl, hb2⟩
 have hs1 : Below W1.heap.size W1 y1 := Below.trans hHeld (hb2.mono hHeld.size)
 refine hK.out _ _ hs1 (fun hHeld => ?_)
 clear hK K
 try simp only [D.pts]
 clear hb2
 refine D.xH 3 (v := ?_) rfl (by kernel_rfl) (fun c a w h => h) (by rfl) ?_ hHeld ?_
 rotate_left
 ·(intro w hSw; obtain ⟨x0, x1, x2⟩ := HX.out w hSw; go_simp; try with_reducible rfl)
 simp only [D.pts]
 refine wpAnyH_ready (rs := [8]) (by kernel_rfl) (by simp) ?_
 refine AllReadyH.cons rfl (fun K hK => ?_) AllReadyH.nil
 go_simp
 refine (HSP.out.firstT y1 (HKB.out.trans (Below.mono hHeld HKB.out.size)) (ty 7) _ _ (HSP.out.place 7 (by decide))).mono ?_
 rintro e' y2 ⟨v, rfl, hv, hb2⟩
 have hs2 : Below W1.heap.size W1 y2 := Below.trans hHeld (hb2.mono hHeld.size)
 refine hK.out _ _ hs2 (fun hHeld => ?_)
 clear hK K
 try simp only [D.pts]
 clear hb2
 refine wpAnyH_ready (rs := [9]) (by kernel_rfl) (by simp) ?_
 refine AllReadyH.cons rfl (fun K hK => ?_) AllReadyH.nil
 go_simp
 refine hK.out _ _ hs2 (fun hHeld => ?_)
 clear hK K
 try simp only [D.pts]
 refine wpAnyH_done (by kernel_rfl) ?_ _
 have HV := hid (And.intro hv (HB1.out.trans (Below.mono hHeld HB1.out.size)))
 clear hv hHeld hs1 hs2
 go_wp2
 go_ret
 exact ⟨v, rfl, HV.out⟩
theorem on_7 (h : Sp W O l i x r e b o c wq tp op tc oc t bx) (W' : World) (k : Below W.heap.size W W') (ld : Bool) :
  Calls Tryz.prog 204 #[.agg #[.slice (some ⟨b, o, none⟩) l.length c, .int .i64 (i : Int), .iface t bx], .bool ld] W' fun e' w' => ∃ v, e' = .returned v /\ PV W O (onf ⟨7, l, i⟩ r ld) e v /\ Below W'.heap.size W' w' := by
 obtain ⟨W1, hW1, hb1, u1, hx3⟩ := box3 W' (.slice (some ⟨b, o, none⟩) l.length c) (.int .i64 (i : Int)) (.iface t bx) 270
 obtain ⟨x0, x1, x2⟩ := hx3 W1 (Below.refl _ _)
 have HX := hid hx3
 have HW1 := hid hW1
 have HB1 := hid hb1
 have HK := hid k
 have HFX := hid (h.fx 7)
 cases ld with
 | true =>
  have hg : onf ⟨7, l, i⟩ r true = bgn x.th 0 (⟨7, l, i⟩ :: r) := by unfold onf; simp only [HFX.out]; rfl
  rw [hg]
  have HSP := hid h
  have HKB := hid (k.trans (hb1.mono k.size))
  have hf := field_th (b8 := x.has) (z0 := x.op) (z1 := x.v) (z3 := x.p.1) (z4 := x.p.2) (z5 := x.k) (wq := wq) (p6 := tp) (p7 := op) (n6 := x.th.length) (q6 := tc) (n7 := x.ot.length) (q7 := oc)
  clear u1 hx3 hW1 hb1 h k hg HFX HK
  go_enter Tryz.func204, Tryz.ntmps204
  go_upto_region 2 with fail
  rw [HW1.out]
  refine wp_region_held_drew (S := (fun w' : World => Below W1.heap.size W1 w')) (by kernel_rfl) (drewB W1) (fun hHeld => ?_)
  generalize W1.drew = y0 at *
  clear x0 x1 x2
  refine D.zH (is := [0, 1, 4, 5]) ?_
  iterate 4
   refine D.yH (v := ?_) rfl (by kernel_rfl) (fun c a w h => h) (by rfl) ?_ hHeld ?_
   rotate_left
   ·(intro w hSw; obtain ⟨x0, x1, x2⟩ := HX.out w hSw; go_simp; try with_reducible rfl)
   simp only [D.pts]
  refine D.eH ?_
  refine wpAnyH_ready (rs := [2]) (by kernel_rfl) (by simp) ?_
  refine AllReadyH.cons rfl (fun K hK => ?_) AllReadyH.nil
  go_simp
  refine (HSP.out.node y0 (HKB.out.trans (Below.mono hHeld HKB.out.size))).mono ?_
  rintro e' y1 ⟨rfl, hb2⟩
  have hs1 : Below W1.heap.size W1 y1 := Below.trans hHeld (hb2.mono hHeld.size)
  refine hK.out _ _ hs1 (fun hHeld => ?_)
  clear hK K
  try simp only [D.pts]
  clear hb2
  refine D.xH 3 (v := ?_) rfl (by kernel_rfl) (fun c a w h => h) (by rfl) ?_ hHeld ?_
  rotate_left
  ·(intro w hSw; obtain ⟨x0, x1, x2⟩ := HX.out w hSw; go_simp; try with_reducible rfl)
  simp only [D.pts]
  refine wpAnyH_ready (rs := [6]) (by kernel_rfl) (by simp) ?_
  refine AllReadyH.cons rfl (fun K hK => ?_) AllReadyH.nil
  go_simp
  refine (HSP.out.firstT y1 (HKB.out.trans (Below.mono hHeld HKB.out.size)) (ty 7) _ _ (HSP.out.place 7 (by decide))).mono ?_
  rintro e' y2 ⟨v, rfl, hv, hb2⟩
  have hs2 : Below W1.heap.size W1 y2 := Below.trans hHeld (hb2.mono hHeld.size)
  refine hK.out _ _ hs2 (fun hHeld => ?_)
  clear hK K
  try simp only [D.pts]
  clear hb2
  refine wpAnyH_ready (rs := [7]) (by kernel_rfl) (by simp) ?_
  refine AllReadyH.cons rfl (fun K hK => ?_) AllReadyH.nil
  go_simp
  refine hK.out _ _ hs2 (fun hHeld => ?_)
  clear hK K
  try simp only [D.pts]
  refine wpAnyH_done (by kernel_rfl) ?_ _
  have HV := hid (And.intro hv (HB1.out.trans (Below.mono hHeld HB1.out.size)))
  clear hv hHeld hs1 hs2
  go_wp2
  go_ret
  exact ⟨v, rfl, HV.out⟩
 | false =>
  have hc := h.pastC W1 (k.trans (hb1.mono k.size))
  have hg : onf ⟨7, l, i⟩ r false = bgn l (i + 1) r := rfl
  rw [hg]
  clear u1 hx3 hW1 hb1 h k hg HFX HX HK
  generalize l.length = N at *
  go_enter Tryz.func204, Tryz.ntmps204
  go_upto_region 3 with fail
  rw [HW1.out]
  go_wp2_with fail
  refine hc.mono ?_
  rintro e' w2 ⟨v, rfl, hv, hb2⟩
  have HV := hid (And.intro hv (HB1.out.trans (hb2.mono HB1.out.size)))
  clear hc hv hb2
  go_wp2
  go_ret
  exact ⟨v, rfl, HV.out⟩
end
set_option maxHeartbeats 4000000
set_option maxRecDepth 100000
section
variable {W : World} {O : Nat -> Prop} {l : List Mn} {i : Nat} {x : Mn} {r : List Fr} {e : Ps} {b o c : Nat} {wq tp op : Option Addr} {tc oc : Nat} {t : TypeId} {bx : Value}
theorem on_1 (h : Sp W O l i x r e b o c wq tp op tc oc t bx) (W' : World) (k : Below W.heap.size W W') (ld : Bool) :
  Calls Tryz.prog 186 #[.agg #[.slice (some ⟨b, o, none⟩) l.length c, .int .i64 (i : Int), .iface t bx], .bool ld] W' fun e' w' => ∃ v, e' = .returned v /\ PV W O (onf ⟨1, l, i⟩ r ld) e v /\ Below W'.heap.size W' w' := by
 obtain ⟨W1, hW1, hb1, u1, hx3⟩ := box3 W' (.slice (some ⟨b, o, none⟩) l.length c) (.int .i64 (i : Int)) (.iface t bx) 192
 obtain ⟨x0, x1, x2⟩ := hx3 W1 (Below.refl _ _)
 have HX := hid hx3
 have HW1 := hid hW1
 have HB1 := hid hb1
 have HK := hid k
 have HFX := hid (h.fx 1)
 have hn := h.node W1 (k.trans (hb1.mono k.size))
 have HSP := hid h
 have HKB := hid (k.trans (hb1.mono k.size))
 have hxx : x.has = true \/ x.has = false := by cases x.has <;> simp
 clear u1 hx3 hW1 hb1 h k HK
 rcases hxx with hh | hh
 ·cases ld with
  | true =>
   have hg : onf ⟨1, l, i⟩ r true = bgn x.ot 0 (bgn l (i + 1) r) := by unfold onf; simp [HFX.out, hh]
   rw [hg]
   clear hg HFX
   go_enter Tryz.func186, Tryz.ntmps186
   go_upto_region 1 with fail
   rw [HW1.out]
   go_wp2_with fail
   refine hn.mono ?_
   rintro e' w2 ⟨rfl, hb2⟩
   obtain ⟨W3, hW3, hb3, u3, hy⟩ := box9 w2 (.int .i64 x.op) (.int .u16 x.v) (.pointer wq) (.int .i64 x.p.1) (.int .i64 x.p.2) (.int .i64 x.k) (.slice tp x.th.length tc) (.slice op x.ot.length oc) (.bool x.has) 173
   obtain ⟨y5, y6, y7, y8⟩ := hy W3 (Below.refl _ _)
   rw [hh] at y8
   have hb13 := hb2.trans (hb3.mono hb2.size)
   obtain ⟨x0, x1, x2⟩ := HX.out W3 hb13
   have HY := hid hy
   have HW3 := hid hW3
   have HK3 := hid (HKB.out.trans (hb13.mono HKB.out.size))
   have HB3 := hid (HB1.out.trans (hb13.mono HB1.out.size))
   have HX3 := hid hb13
   clear hn hb2 hb3 u3 hW3 hy hb13
   rw [hh] at HW3
   go_upto_region 7 with fail
   rw [HW3.out]
   refine wp_region_held_drew (S := (fun w' : World => Below W3.heap.size W3 w')) (by kernel_rfl) (drewB W3) (fun hHeld => ?_)
   generalize W3.drew = y0 at *
   clear x0 x1 x2 y5 y6 y7 y8
   refine D.zH (is := [0, 1, 2, 3]) ?_
   iterate 4
    refine D.yH (v := ?_) rfl (by kernel_rfl) (fun c a w h => h) (by rfl) ?_ hHeld ?_
    rotate_left
    ·(intro w hSw; obtain ⟨x0, x1, x2⟩ := HX.out w (HX3.out.trans (Below.mono hSw HX3.out.size)); obtain ⟨y5, y6, y7, y8⟩ := HY.out w hSw; go_simp; try with_reducible rfl)
    simp only [D.pts]
   refine D.eH ?_
   refine wpAnyH_ready (rs := [4]) (by kernel_rfl) (by simp) ?_
   refine AllReadyH.cons rfl (fun K hK => ?_) AllReadyH.nil
   go_simp
   refine (HSP.out.pastC y0 (HK3.out.trans (Below.mono hHeld HK3.out.size))).mono ?_
   rintro e' z1 ⟨v1, rfl, hv1, hb2⟩
   obtain ⟨t1, b1, rfl⟩ := PV.isI _ _ _ hv1
   have hs1 : Below W3.heap.size W3 z1 := Below.trans hHeld (hb2.mono hHeld.size)
   refine hK.out _ _ hs1 (fun hHeld => ?_)
   clear hK K
   try simp only [D.pts]
   clear hb2
   refine wpAnyH_ready (rs := [5]) (by kernel_rfl) (by simp) ?_
   refine AllReadyH.cons rfl (fun K hK => ?_) AllReadyH.nil
   go_simp
   refine (HSP.out.firstO z1 (HK3.out.trans (Below.mono hHeld HK3.out.size)) t1 b1 _ hv1).mono ?_
   rintro e' z2 ⟨v, rfl, hv, hb2⟩
   have hs2 : Below W3.heap.size W3 z2 := Below.trans hHeld (hb2.mono hHeld.size)
   refine hK.out _ _ hs2 (fun hHeld => ?_)
   clear hK K
   try simp only [D.pts]
   clear hb2
   refine wpAnyH_ready (rs := [6]) (by kernel_rfl) (by simp) ?_
   refine AllReadyH.cons rfl (fun K hK => ?_) AllReadyH.nil
   go_simp
   refine hK.out _ _ hs2 (fun hHeld => ?_)
   clear hK K
   try simp only [D.pts]
   refine wpAnyH_done (by kernel_rfl) ?_ _
   have HV := hid (And.intro hv (HB3.out.trans (Below.mono hHeld HB3.out.size)))
   clear hv hHeld hs1 hs2 hv1
   go_wp2
   go_ret
   exact ⟨v, rfl, HV.out⟩
  | false =>
   have hg : onf ⟨1, l, i⟩ r false = bgn x.th 0 (⟨2, l, i⟩ :: r) := by unfold onf; simp [HFX.out, hh]
   rw [hg]
   clear hg HFX
   go_enter Tryz.func186, Tryz.ntmps186
   go_upto_region 1 with fail
   rw [HW1.out]
   go_wp2_with fail
   refine hn.mono ?_
   rintro e' w2 ⟨rfl, hb2⟩
   obtain ⟨W3, hW3, hb3, u3, hy⟩ := box9 w2 (.int .i64 x.op) (.int .u16 x.v) (.pointer wq) (.int .i64 x.p.1) (.int .i64 x.p.2) (.int .i64 x.k) (.slice tp x.th.length tc) (.slice op x.ot.length oc) (.bool x.has) 173
   obtain ⟨y5, y6, y7, y8⟩ := hy W3 (Below.refl _ _)
   rw [hh] at y8
   have hb13 := hb2.trans (hb3.mono hb2.size)
   obtain ⟨x0, x1, x2⟩ := HX.out W3 hb13
   have HY := hid hy
   have HW3 := hid hW3
   have HK3 := hid (HKB.out.trans (hb13.mono HKB.out.size))
   have HB3 := hid (HB1.out.trans (hb13.mono HB1.out.size))
   have HX3 := hid hb13
   clear hn hb2 hb3 u3 hW3 hy hb13
   rw [hh] at HW3
   go_upto_region 8 with fail
   rw [HW3.out]
   go_wp2_with fail
   refine (HSP.out.firstT W3 HK3.out (ty 2) _ _ (HSP.out.place 2 (by decide))).mono ?_
   rintro e' w4 ⟨v, rfl, hv, hb4⟩
   have HV := hid (And.intro hv (HB3.out.trans (hb4.mono HB3.out.size)))
   clear hv hb4
   go_wp2
   go_ret
   exact ⟨v, rfl, HV.out⟩
 ·cases ld with
  | true =>
   have hg : onf ⟨1, l, i⟩ r true = bgn l (i + 1) r := by unfold onf; simp [HFX.out, hh]
   rw [hg]
   clear hg HFX
   go_enter Tryz.func186, Tryz.ntmps186
   go_upto_region 1 with fail
   rw [HW1.out]
   go_wp2_with fail
   refine hn.mono ?_
   rintro e' w2 ⟨rfl, hb2⟩
   obtain ⟨W3, hW3, hb3, u3, hy⟩ := box9 w2 (.int .i64 x.op) (.int .u16 x.v) (.pointer wq) (.int .i64 x.p.1) (.int .i64 x.p.2) (.int .i64 x.k) (.slice tp x.th.length tc) (.slice op x.ot.length oc) (.bool x.has) 173
   obtain ⟨y5, y6, y7, y8⟩ := hy W3 (Below.refl _ _)
   rw [hh] at y8
   have hb13 := hb2.trans (hb3.mono hb2.size)
   obtain ⟨x0, x1, x2⟩ := HX.out W3 hb13
   have HY := hid hy
   have HW3 := hid hW3
   have HK3 := hid (HKB.out.trans (hb13.mono HKB.out.size))
   have HB3 := hid (HB1.out.trans (hb13.mono HB1.out.size))
   have HX3 := hid hb13
   clear hn hb2 hb3 u3 hW3 hy hb13
   rw [hh] at HW3
   go_upto_region 3 with fail
   rw [HW3.out]
   go_wp2_with fail
   refine (HSP.out.pastC W3 HK3.out).mono ?_
   rintro e' w4 ⟨v, rfl, hv, hb4⟩
   have HV := hid (And.intro hv (HB3.out.trans (hb4.mono HB3.out.size)))
   clear hv hb4
   go_wp2
   go_ret
   exact ⟨v, rfl, HV.out⟩
  | false =>
   have hg : onf ⟨1, l, i⟩ r false = bgn x.th 0 (bgn l (i + 1) r) := by unfold onf; simp [HFX.out, hh]
   rw [hg]
   clear hg HFX
   go_enter Tryz.func186, Tryz.ntmps186
   go_upto_region 1 with fail
   rw [HW1.out]
   go_wp2_with fail
   refine hn.mono ?_
   rintro e' w2 ⟨rfl, hb2⟩
   obtain ⟨W3, hW3, hb3, u3, hy⟩ := box9 w2 (.int .i64 x.op) (.int .u16 x.v) (.pointer wq) (.int .i64 x.p.1) (.int .i64 x.p.2) (.int .i64 x.k) (.slice tp x.th.length tc) (.slice op x.ot.length oc) (.bool x.has) 173
   obtain ⟨y5, y6, y7, y8⟩ := hy W3 (Below.refl _ _)
   rw [hh] at y8
   have hb13 := hb2.trans (hb3.mono hb2.size)
   obtain ⟨x0, x1, x2⟩ := HX.out W3 hb13
   have HY := hid hy
   have HW3 := hid hW3
   have HK3 := hid (HKB.out.trans (hb13.mono HKB.out.size))
   have HB3 := hid (HB1.out.trans (hb13.mono HB1.out.size))
   have HX3 := hid hb13
   clear hn hb2 hb3 u3 hW3 hy hb13
   rw [hh] at HW3
   go_upto_region 5 with fail
   rw [HW3.out]
   refine wp_region_held_drew (S := (fun w' : World => Below W3.heap.size W3 w')) (by kernel_rfl) (drewB W3) (fun hHeld => ?_)
   generalize W3.drew = y0 at *
   clear x0 x1 x2 y5 y6 y7 y8
   refine D.zH (is := [0, 1, 2, 3]) ?_
   iterate 4
    refine D.yH (v := ?_) rfl (by kernel_rfl) (fun c a w h => h) (by rfl) ?_ hHeld ?_
    rotate_left
    ·(intro w hSw; obtain ⟨x0, x1, x2⟩ := HX.out w (HX3.out.trans (Below.mono hSw HX3.out.size)); obtain ⟨y5, y6, y7, y8⟩ := HY.out w hSw; go_simp; try with_reducible rfl)
    simp only [D.pts]
   refine D.eH ?_
   refine wpAnyH_ready (rs := [4]) (by kernel_rfl) (by simp) ?_
   refine AllReadyH.cons rfl (fun K hK => ?_) AllReadyH.nil
   go_simp
   refine (HSP.out.pastC y0 (HK3.out.trans (Below.mono hHeld HK3.out.size))).mono ?_
   rintro e' z1 ⟨v1, rfl, hv1, hb2⟩
   obtain ⟨t1, b1, rfl⟩ := PV.isI _ _ _ hv1
   have hs1 : Below W3.heap.size W3 z1 := Below.trans hHeld (hb2.mono hHeld.size)
   refine hK.out _ _ hs1 (fun hHeld => ?_)
   clear hK K
   try simp only [D.pts]
   clear hb2
   refine wpAnyH_ready (rs := [5]) (by kernel_rfl) (by simp) ?_
   refine AllReadyH.cons rfl (fun K hK => ?_) AllReadyH.nil
   go_simp
   refine (HSP.out.firstT z1 (HK3.out.trans (Below.mono hHeld HK3.out.size)) t1 b1 _ hv1).mono ?_
   rintro e' z2 ⟨v, rfl, hv, hb2⟩
   have hs2 : Below W3.heap.size W3 z2 := Below.trans hHeld (hb2.mono hHeld.size)
   refine hK.out _ _ hs2 (fun hHeld => ?_)
   clear hK K
   try simp only [D.pts]
   clear hb2
   refine wpAnyH_ready (rs := [6]) (by kernel_rfl) (by simp) ?_
   refine AllReadyH.cons rfl (fun K hK => ?_) AllReadyH.nil
   go_simp
   refine hK.out _ _ hs2 (fun hHeld => ?_)
   clear hK K
   try simp only [D.pts]
   refine wpAnyH_done (by kernel_rfl) ?_ _
   have HV := hid (And.intro hv (HB3.out.trans (Below.mono hHeld HB3.out.size)))
   clear hv hHeld hs1 hs2 hv1
   go_wp2
   go_ret
   exact ⟨v, rfl, HV.out⟩
end
theorem on_end (p : Ps) (W : World) (ld : Bool) : Calls Tryz.prog 184 #[.agg #[.int .i64 p.1, .int .i64 p.2], .bool ld] W fun e w' => e = .returned (.iface 152 (.agg #[.int .i64 p.1, .int .i64 p.2])) /\ Below W.heap.size W w' := by
 go_enter Tryz.func184, Tryz.ntmps184
 go_wp2
 go_ret
 exact ⟨rfl, (Below.refl _ _).alloc (Nat.le_refl _) _⟩
set_option maxHeartbeats 4000000
set_option maxRecDepth 100000
def OnI (s : String) : Prop := (∀ (x y : Value) (W : World), (invoke (.fn (.method s) #[]) #[.iface 197 x, y]).run Tryz.prog W = .ok (.enter 198 #[x, y]) W) /\ (∀ (x y : Value) (W : World), (invoke (.fn (.method s) #[]) #[.iface 192 x, y]).run Tryz.prog W = .ok (.enter 186 #[x, y]) W) /\ (∀ (x y : Value) (W : World), (invoke (.fn (.method s) #[]) #[.iface 269 x, y]).run Tryz.prog W = .ok (.enter 202 #[x, y]) W) /\ (∀ (x y : Value) (W : World), (invoke (.fn (.method s) #[]) #[.iface 193 x, y]).run Tryz.prog W = .ok (.enter 190 #[x, y]) W) /\ (∀ (x y : Value) (W : World), (invoke (.fn (.method s) #[]) #[.iface 194 x, y]).run Tryz.prog W = .ok (.enter 192 #[x, y]) W) /\ (∀ (x y : Value) (W : World), (invoke (.fn (.method s) #[]) #[.iface 195 x, y]).run Tryz.prog W = .ok (.enter 194 #[x, y]) W) /\ (∀ (x y : Value) (W : World), (invoke (.fn (.method s) #[]) #[.iface 196 x, y]).run Tryz.prog W = .ok (.enter 196 #[x, y]) W) /\ (∀ (x y : Value) (W : World), (invoke (.fn (.method s) #[]) #[.iface 270 x, y]).run Tryz.prog W = .ok (.enter 204 #[x, y]) W) /\ (∀ (x y : Value) (W : World), (invoke (.fn (.method s) #[]) #[.iface 152 x, y]).run Tryz.prog W = .ok (.enter 184 #[x, y]) W)
def LkI (s : String) : Prop := (∀ (x : Value) (W : World), (invoke (.fn (.method s) #[]) #[.iface 197 x]).run Tryz.prog W = .ok (.enter 197 #[x]) W) /\ (∀ (x : Value) (W : World), (invoke (.fn (.method s) #[]) #[.iface 192 x]).run Tryz.prog W = .ok (.enter 185 #[x]) W) /\ (∀ (x : Value) (W : World), (invoke (.fn (.method s) #[]) #[.iface 269 x]).run Tryz.prog W = .ok (.enter 201 #[x]) W) /\ (∀ (x : Value) (W : World), (invoke (.fn (.method s) #[]) #[.iface 193 x]).run Tryz.prog W = .ok (.enter 189 #[x]) W) /\ (∀ (x : Value) (W : World), (invoke (.fn (.method s) #[]) #[.iface 194 x]).run Tryz.prog W = .ok (.enter 191 #[x]) W) /\ (∀ (x : Value) (W : World), (invoke (.fn (.method s) #[]) #[.iface 195 x]).run Tryz.prog W = .ok (.enter 193 #[x]) W) /\ (∀ (x : Value) (W : World), (invoke (.fn (.method s) #[]) #[.iface 196 x]).run Tryz.prog W = .ok (.enter 195 #[x]) W) /\ (∀ (x : Value) (W : World), (invoke (.fn (.method s) #[]) #[.iface 270 x]).run Tryz.prog W = .ok (.enter 203 #[x]) W) /\ (∀ (x : Value) (W : World), (invoke (.fn (.method s) #[]) #[.iface 152 x]).run Tryz.prog W = .ok (.enter 183 #[x]) W)
theorem wp_enter {o : Oper} {a : Act} {W' : World} {K : Act -> World -> Prop} {Q : Exit -> Act -> World -> Prop} (f : FuncId) (args : Array Value) (C : Value -> World -> Prop)
  (ht : (execOp a.eval o).run Tryz.prog W' = .ok (.enter f args) W') (hc : Calls Tryz.prog f args W' fun e' w' => ∃ v, e' = .returned v /\ C v w') (h : ∀ v w', C v w' -> K (a.put o.dst v) w') : o.wp Tryz.prog a W' K Q := by
 unfold Oper.wp
 rw [ht, Oper.upon_enter]
 refine hc.mono ?_
 rintro e' w' ⟨v, rfl, hv⟩
 exact h v w' hv
section
variable {W : World} {O : Nat -> Prop}
theorem wp_on {o : Oper} {a : Act} {W' : World} {K : Act -> World -> Prop} {Q : Exit -> Act -> World -> Prop} {rq q : Operand} {s : String} (ho : o.op = .call { callee := .invoke rq s, args := #[q], argTypes := #[4] }) (hs : OnI s) (l : List Fr) (e : Ps) (x : Value) (ld : Bool) (hx : a.eval rq = x) (hl : a.eval q = .bool ld) (hP : PV W O l e x) (hO : ∀ i, O i -> i < W.heap.size) (k : Below W.heap.size W W')
  (h : ∀ v w', (PV W O (on l ld) e v /\ Below W'.heap.size W' w') -> K (a.put o.dst v) w') : o.wp Tryz.prog a W' K Q := by
 have hex : (execOp a.eval o).run Tryz.prog W' = (invoke (.fn (.method s) #[]) #[x, .bool ld]).run Tryz.prog W' := by
  unfold execOp
  simp [ho, resolve, hx, hl]
 cases l with
 | nil =>
  obtain rfl := hP
  refine wp_enter 184 _ _ (hex.trans (hs.2.2.2.2.2.2.2.2 _ _ _)) ((on_end e W' ld).mono ?_) h
  rintro e' w' ⟨rfl, hb⟩
  exact ⟨_, rfl, rfl, hb⟩
 | cons f r =>
  obtain ⟨g, b, n⟩ := f
  obtain ⟨x', bb, oo, c, wq, tp, op, tc, oc, t, bx, rfl, hg, hS⟩ := Sp.of hP hO
  have hcases : g = 0 \/ g = 1 \/ g = 2 \/ g = 3 \/ g = 4 \/ g = 5 \/ g = 6 \/ g = 7 := by omega
  rcases hcases with rfl | rfl | rfl | rfl | rfl | rfl | rfl | rfl
  ·exact wp_enter 198 _ _ (hex.trans (hs.1 _ _ _)) (on_0 hS W' k ld) h
  ·exact wp_enter 186 _ _ (hex.trans (hs.2.1 _ _ _)) (on_1 hS W' k ld) h
  ·exact wp_enter 202 _ _ (hex.trans (hs.2.2.1 _ _ _)) (on_2 hS W' k ld) h
  ·exact wp_enter 190 _ _ (hex.trans (hs.2.2.2.1 _ _ _)) (on_3 hS W' k ld) h
  ·exact wp_enter 192 _ _ (hex.trans (hs.2.2.2.2.1 _ _ _)) (on_4 hS W' k ld) h
  ·exact wp_enter 194 _ _ (hex.trans (hs.2.2.2.2.2.1 _ _ _)) (on_5 hS W' k ld) h
  ·exact wp_enter 196 _ _ (hex.trans (hs.2.2.2.2.2.2.1 _ _ _)) (on_6 hS W' k ld) h
  ·exact wp_enter 204 _ _ (hex.trans (hs.2.2.2.2.2.2.2.1 _ _ _)) (on_7 hS W' k ld) h
def inV (i : In) (wq : Option Addr) : Value := .agg #[.int .i64 i.op, .int .u16 i.v, .pointer wq, .int .i64 i.p.1, .int .i64 i.p.2]
theorem wp_look {o : Oper} {a : Act} {W' : World} {K : Act -> World -> Prop} {Q : Exit -> Act -> World -> Prop} {rq : Operand} {s : String} (ho : o.op = .call { callee := .invoke rq s, args := #[], argTypes := #[] }) (hs : LkI s) (l : List Fr) (e : Ps) (x : Value) (hx : a.eval rq = x) (hP : PV W O l e x) (hO : ∀ i, O i -> i < W.heap.size) (k : Below W.heap.size W W')
  (h : ∀ v w', ((∃ wq, v = inV (lk l e) wq /\ WP W O (.pointer wq) (lk l e).w (lk l e).wp) /\ Below W'.heap.size W' w') -> K (a.put o.dst v) w') : o.wp Tryz.prog a W' K Q := by
 have hex : (execOp a.eval o).run Tryz.prog W' = (invoke (.fn (.method s) #[]) #[x]).run Tryz.prog W' := by
  unfold execOp
  simp [ho, resolve, hx]
 cases l with
 | nil =>
  obtain rfl := hP
  refine wp_enter 183 _ _ (hex.trans (hs.2.2.2.2.2.2.2.2 _ _)) ((look_end e W').mono ?_) h
  rintro e' w' ⟨rfl, hb⟩
  exact ⟨_, rfl, ⟨none, rfl, .inl ⟨rfl, rfl⟩⟩, hb⟩
 | cons f r =>
  obtain ⟨g, b, n⟩ := f
  obtain ⟨x', bb, oo, c, wq, tp, op, tc, oc, t, bx, rfl, hg, hS⟩ := Sp.of hP hO
  have hcases : g = 0 \/ g = 1 \/ g = 2 \/ g = 3 \/ g = 4 \/ g = 5 \/ g = 6 \/ g = 7 := by omega
  have hfx : ∀ g, Fr.x ⟨g, b, n⟩ = x' := fun g => hS.fx g
  rcases hcases with rfl | rfl | rfl | rfl | rfl | rfl | rfl | rfl
  ·refine wp_enter 197 _ _ (hex.trans (hs.1 _ _)) ((look_0 hS W' k).mono ?_) h
   rintro e' w' ⟨rfl, hb⟩
   refine ⟨_, rfl, ⟨wq, ?_, ?_⟩, hb⟩
   ·show _ = inV (lkf ⟨0, b, n⟩) _; unfold lkf inV; simp only [hfx]
   ·show WP W O _ (lkf ⟨0, b, n⟩).w (lkf ⟨0, b, n⟩).wp; unfold lkf; simp only [hfx]; exact hS.hw
  ·refine wp_enter 185 _ _ (hex.trans (hs.2.1 _ _)) ((look_1 hS W' k).mono ?_) h
   rintro e' w' ⟨rfl, hb⟩
   refine ⟨_, rfl, ⟨none, ?_, ?_⟩, hb⟩
   ·show _ = inV (lkf ⟨1, b, n⟩) _; unfold lkf inV; simp only [hfx]
   ·show WP W O _ (lkf ⟨1, b, n⟩).w (lkf ⟨1, b, n⟩).wp; unfold lkf; simp only [hfx]; exact .inl ⟨rfl, rfl⟩
  ·refine wp_enter 201 _ _ (hex.trans (hs.2.2.1 _ _)) ((look_2 hS W' k).mono ?_) h
   rintro e' w' ⟨rfl, hb⟩
   refine ⟨_, rfl, ⟨none, ?_, ?_⟩, hb⟩
   ·show _ = inV (lkf ⟨2, b, n⟩) _; unfold lkf inV; simp only [hfx]
   ·show WP W O _ (lkf ⟨2, b, n⟩).w (lkf ⟨2, b, n⟩).wp; unfold lkf; simp only [hfx]; exact .inl ⟨rfl, rfl⟩
  ·refine wp_enter 189 _ _ (hex.trans (hs.2.2.2.1 _ _)) ((look_3 hS W' k).mono ?_) h
   rintro e' w' ⟨rfl, hb⟩
   refine ⟨_, rfl, ⟨none, ?_, ?_⟩, hb⟩
   ·show _ = inV (lkf ⟨3, b, n⟩) _; unfold lkf inV; simp only [hfx]
   ·show WP W O _ (lkf ⟨3, b, n⟩).w (lkf ⟨3, b, n⟩).wp; unfold lkf; simp only [hfx]; exact .inl ⟨rfl, rfl⟩
  ·refine wp_enter 191 _ _ (hex.trans (hs.2.2.2.2.1 _ _)) ((look_4 hS W' k).mono ?_) h
   rintro e' w' ⟨rfl, hb⟩
   refine ⟨_, rfl, ⟨none, ?_, ?_⟩, hb⟩
   ·show _ = inV (lkf ⟨4, b, n⟩) _; unfold lkf inV; simp only [hfx]
   ·show WP W O _ (lkf ⟨4, b, n⟩).w (lkf ⟨4, b, n⟩).wp; unfold lkf; simp only [hfx]; exact .inl ⟨rfl, rfl⟩
  ·refine wp_enter 193 _ _ (hex.trans (hs.2.2.2.2.2.1 _ _)) ((look_5 hS W' k).mono ?_) h
   rintro e' w' ⟨rfl, hb⟩
   refine ⟨_, rfl, ⟨none, ?_, ?_⟩, hb⟩
   ·show _ = inV (lkf ⟨5, b, n⟩) _; unfold lkf inV; simp only [hfx]
   ·show WP W O _ (lkf ⟨5, b, n⟩).w (lkf ⟨5, b, n⟩).wp; unfold lkf; simp only [hfx]; exact .inl ⟨rfl, rfl⟩
  ·refine wp_enter 195 _ _ (hex.trans (hs.2.2.2.2.2.2.1 _ _)) ((look_6 hS W' k).mono ?_) h
   rintro e' w' ⟨rfl, hb⟩
   refine ⟨_, rfl, ⟨none, ?_, ?_⟩, hb⟩
   ·show _ = inV (lkf ⟨6, b, n⟩) _; unfold lkf inV; simp only [hfx]
   ·show WP W O _ (lkf ⟨6, b, n⟩).w (lkf ⟨6, b, n⟩).wp; unfold lkf; simp only [hfx]; exact .inl ⟨rfl, rfl⟩
  ·refine wp_enter 203 _ _ (hex.trans (hs.2.2.2.2.2.2.2.1 _ _)) ((look_7 hS W' k).mono ?_) h
   rintro e' w' ⟨rfl, hb⟩
   refine ⟨_, rfl, ⟨none, ?_, ?_⟩, hb⟩
   ·show _ = inV (lkf ⟨7, b, n⟩) _; unfold lkf inV; simp only [hfx]
   ·show WP W O _ (lkf ⟨7, b, n⟩).w (lkf ⟨7, b, n⟩).wp; unfold lkf; simp only [hfx]; exact .inl ⟨rfl, rfl⟩
end
set_option maxHeartbeats 1000000
set_option maxRecDepth 100000
def PVs (W : World) (O : Nat -> Prop) : List Pc -> List Value -> Prop
 | [], xs => xs = []
 | p :: r, xs => ∃ x ys, xs = x :: ys /\ PV W O p.fr p.e x /\ PVs W O r ys
theorem PVs.len {W : World} {O : Nat -> Prop} : ∀ {l : List Pc} {xs : List Value}, PVs W O l xs -> xs.length = l.length
 | [], xs, h => by rw [PVs] at h; subst h; rfl
 | p :: r, xs, h => by obtain ⟨x, ys, rfl, _, h2⟩ := h; simp [PVs.len h2]
theorem PVs.kept {W W' : World} {O O' : Nat -> Prop} (k : ∀ i, O i -> W'.heap[i]? = W.heap[i]?) (m : ∀ i, O i -> O' i) : ∀ {l : List Pc} {xs : List Value}, PVs W O l xs -> PVs W' O' l xs
 | [], xs, h => h
 | p :: r, xs, h => by obtain ⟨x, ys, rfl, h1, h2⟩ := h; exact ⟨x, ys, rfl, PV.kept k m _ _ _ h1, PVs.kept k m h2⟩
theorem PVs.app {W : World} {O : Nat -> Prop} : ∀ {l l' : List Pc} {xs ys : List Value}, PVs W O l xs -> PVs W O l' ys -> PVs W O (l ++ l') (xs ++ ys)
 | [], l', xs, ys, h, h' => by rw [PVs] at h; subst h; exact h'
 | p :: r, l', xs, ys, h, h' => by obtain ⟨x, zs, rfl, h1, h2⟩ := h; exact ⟨x, zs ++ ys, rfl, h1, PVs.app h2 h'⟩
theorem PVs.parts {W : World} {O : Nat -> Prop} : ∀ {l l' : List Pc} {xs : List Value}, PVs W O (l ++ l') xs -> ∃ ys zs, xs = ys ++ zs /\ PVs W O l ys /\ PVs W O l' zs
 | [], l', xs, h => ⟨[], xs, rfl, rfl, h⟩
 | p :: r, l', xs, h => by
  obtain ⟨x, us, rfl, h1, h2⟩ := h
  obtain ⟨ys, zs, rfl, h3, h4⟩ := PVs.parts h2
  exact ⟨x :: ys, zs, rfl, ⟨x, ys, rfl, h1, h3⟩, h4⟩
theorem PVs.one {W : World} {O : Nat -> Prop} {p : Pc} {xs : List Value} (h : PVs W O [p] xs) : ∃ x, xs = [x] /\ PV W O p.fr p.e x := by
 obtain ⟨x, ys, rfl, h1, h2⟩ := h
 rw [PVs] at h2; subst h2
 exact ⟨x, rfl, h1⟩
theorem PVs.mk {W : World} {O : Nat -> Prop} {p : Pc} {x : Value} (h : PV W O p.fr p.e x) : PVs W O [p] [x] := ⟨x, [], rfl, h, rfl⟩
def vcells (v : VS) (bd br bm bs c : Nat) : List Value := [.int .i64 v.st, .int .i64 v.fa, .pointer (some ⟨bd, 0, none⟩), .pointer (some ⟨br, 0, none⟩), .pointer (some ⟨bm, 0, none⟩), .slice (some ⟨bs, 0, none⟩) (v.o.length + 1) c]
structure MV (W : World) (g bd br bm bs c : Nat) (F O : Nat -> Prop) (v : VS) : Prop where
 blk : W.heap[g]? = some (.cells (vcells v bd br bm bs c).toArray 76 (0, 0))
 ps : P.PS W bd br bm F v.D v.R v.m
 row : ∃ xs, W.ownsRow 0 86 1 (.slice (some ⟨bs, 0, none⟩) (v.o.length + 1) c) (v.o.length + 1) xs /\ PVs W O (v.o ++ [v.c]) xs
 ol : ∀ k, O k -> k < W.heap.size
 fl : ∀ k, F k -> k < W.heap.size
 ob : ∀ k, O k -> k ≠ g /\ k ≠ bd /\ k ≠ br /\ k ≠ bs /\ ¬ F k
 ne : g ≠ bd /\ g ≠ br /\ g ≠ bs /\ bs ≠ bd /\ bs ≠ br
 fg : ¬ F g
 fs : ¬ F bs
 wf : Wf v
def TV (g bd br bs : Nat) (F : Nat -> Prop) (k : Nat) : Prop := k = g \/ k = bd \/ k = br \/ k = bs \/ F k
structure VD (W W' : World) (g bd br bm bs : Nat) (F O : Nat -> Prop) (v : VS) : Prop where
 s : ∃ bs' c' F', MV W' g bd br bm bs' c' F' O v /\ (∀ i, F' i -> M.gr F W W' i) /\ (bs' = bs \/ W.heap.size <= bs')
 t : S.Tc (TV g bd br bs F) W W'
section
variable {W W1 W' : World} {g bd br bm bs c : Nat} {F O : Nat -> Prop} {v v' : VS}
theorem MV.c0 (h : MV W g bd br bm bs c F O v) : W.cell? ⟨g, 0, none⟩ = some (.int .i64 v.st) := S.cell_of W g 0 _ _ _ h.blk rfl
theorem MV.c1 (h : MV W g bd br bm bs c F O v) : W.cell? ⟨g, 1, none⟩ = some (.int .i64 v.fa) := S.cell_of W g 1 _ _ _ h.blk rfl
theorem MV.c2 (h : MV W g bd br bm bs c F O v) : W.cell? ⟨g, 2, none⟩ = some (.pointer (some ⟨bd, 0, none⟩)) := S.cell_of W g 2 _ _ _ h.blk rfl
theorem MV.c3 (h : MV W g bd br bm bs c F O v) : W.cell? ⟨g, 3, none⟩ = some (.pointer (some ⟨br, 0, none⟩)) := S.cell_of W g 3 _ _ _ h.blk rfl
theorem MV.c4 (h : MV W g bd br bm bs c F O v) : W.cell? ⟨g, 4, none⟩ = some (.pointer (some ⟨bm, 0, none⟩)) := S.cell_of W g 4 _ _ _ h.blk rfl
theorem MV.c5 (h : MV W g bd br bm bs c F O v) : W.cell? ⟨g, 5, none⟩ = some (.slice (some ⟨bs, 0, none⟩) (v.o.length + 1) c) := S.cell_of W g 5 _ _ _ h.blk rfl
theorem MV.lt (h : MV W g bd br bm bs c F O v) : g < W.heap.size := S.lt_of h.blk
theorem MV.lt_d (h : MV W g bd br bm bs c F O v) : bd < W.heap.size := S.lt_of h.ps.d.1
theorem MV.lt_r (h : MV W g bd br bm bs c F O v) : br < W.heap.size := S.lt_of h.ps.r.1
theorem MV.lt_s (h : MV W g bd br bm bs c F O v) : bs < W.heap.size := by obtain ⟨xs, hr, _⟩ := h.row; exact (World.ownsRow.lt hr bs rfl).2
theorem fz (h : MV W g bd br bm bs c F O v) (i : Nat) : W.frozen? ⟨g, i, none⟩ = false := S.frozen_of W g i _ _ h.blk
theorem MV.below (h : MV W g bd br bm bs c F O v) (k : Below W.heap.size W W') : MV W' g bd br bm bs c F O v := by
 obtain ⟨xs, hr, hp⟩ := h.row
 exact { h with blk := (k.block _ h.lt).trans h.blk, ps := h.ps.below k, row := ⟨xs, S.own_kept hr fun i e hi => k.block i hi, hp.kept (fun i hi => k.block i (h.ol i hi)) fun _ h => h⟩, ol := fun i e => Nat.lt_of_lt_of_le (h.ol i e) k.size, fl := fun i e => Nat.lt_of_lt_of_le (h.fl i e) k.size }
theorem MV.vd (h : MV W' g bd br bm bs c F O v) (t : S.Tc (TV g bd br bs F) W W') : VD W W' g bd br bm bs F O v := ⟨⟨bs, c, F, h, fun i hi => .inl hi, .inl rfl⟩, t⟩
theorem MV.same (h : MV W g bd br bm bs c F O v) (k : Below W.heap.size W W') : VD W W' g bd br bm bs F O v :=
 (h.below k).vd ⟨k.os, k.tape, k.output, k.size, fun i hi _ => k.block i hi⟩
theorem MV.goes (h : MV W g bd br bm bs c F O v) {D : List Int} {R : List (Int × Int)} {m : M.MS} (k : P.PD W W' bd br bm F D R m) (hw : Wf { v with D := D, R := R, m := m }) : VD W W' g bd br bm bs F O { v with D := D, R := R, m := m } := by
 obtain ⟨xs, hr, hp⟩ := h.row
 have o1 : ∀ i, i < W.heap.size -> i ≠ bd -> i ≠ br -> ¬ F i -> W'.heap[i]? = W.heap[i]? := fun i hi a b f => k.t.block i hi (by rintro (e | e | e); exact a e; exact b e; exact f e)
 refine ⟨⟨bs, c, M.gr F W W', ⟨(o1 g h.lt h.ne.1 h.ne.2.1 h.fg).trans h.blk, k.s, ⟨xs, S.own_kept hr fun i e hi => ?_, hp.kept (fun i hi => o1 i (h.ol i hi) (h.ob i hi).2.1 (h.ob i hi).2.2.1 (h.ob i hi).2.2.2.2) fun _ h => h⟩, fun i e => Nat.lt_of_lt_of_le (h.ol i e) k.t.size, ?_, fun i e => ⟨(h.ob i e).1, (h.ob i e).2.1, (h.ob i e).2.2.1, (h.ob i e).2.2.2.1, ?_⟩, h.ne, ?_, ?_, hw⟩, fun _ h => h, .inl rfl⟩, ⟨k.t.os, k.t.tape, k.t.output, k.t.size, fun i hi n => k.t.block i hi (by rintro (e | e | e); exact n (.inr (.inl e)); exact n (.inr (.inr (.inl e))); exact n (.inr (.inr (.inr (.inr e)))))⟩⟩
 ·cases e; exact o1 bs hi h.ne.2.2.2.1 h.ne.2.2.2.2 h.fs
 ·rintro i (f | ⟨_, f⟩)
  ·exact Nat.lt_of_lt_of_le (h.fl i f) k.t.size
  ·exact f
 ·rintro (f | ⟨f, _⟩)
  ·exact (h.ob i e).2.2.2.2 f
  ·have := h.ol i e; omega
 ·rintro (f | ⟨f, _⟩)
  ·exact h.fg f
  ·have := h.lt; omega
 ·rintro (f | ⟨f, _⟩)
  ·exact h.fs f
  ·have := h.lt_s; omega
theorem MV.kv (h : MV W g bd br bm bs c F O v) {R' : List (Int × Int)} (t : S.At br W W') (k : S.HasR W' br R') (hr : ∀ q ∈ R', C.C q.2) : VD W W' g bd br bm bs F O { v with R := R' } :=
 h.goes (h.ps.save k t) ⟨h.wf.d, hr, h.wf.c, h.wf.o, k.2⟩
theorem MV.kd (h : MV W g bd br bm bs c F O v) {D' : List Int} (t : S.At bd W W') (k : S.HasD W' bd D') (hd : ∀ x ∈ D', C.C x) : VD W W' g bd br bm bs F O { v with D := D' } :=
 h.goes (h.ps.put k t) ⟨hd, h.wf.r, h.wf.c, h.wf.o, h.wf.l⟩
theorem VD.step {v2 : VS} {bs1 : Nat} {F1 : Nat -> Prop} (t : S.Tc (TV g bd br bs F) W W1) (hF1 : ∀ i, F1 i -> M.gr F W W1 i) (hb1 : bs1 = bs \/ W.heap.size <= bs1) (k : VD W1 W' g bd br bm bs1 F1 O v2) : VD W W' g bd br bm bs F O v2 := by
 obtain ⟨bs2, c2, F2, hM2, hF2, hb2⟩ := k.s
 have hs := t.size
 have ks := k.t.size
 refine ⟨⟨bs2, c2, F2, hM2, fun i hi => ?_, ?_⟩, t.trans k.t (fun i e => e) ?_⟩
 ·rcases hF2 i hi with e | ⟨e, e'⟩
  ·rcases hF1 i e with e | ⟨e, e'⟩
   ·exact .inl e
   ·exact .inr ⟨e, by omega⟩
  ·exact .inr ⟨by omega, e'⟩
 ·rcases hb2 with rfl | e
  ·exact hb1
  ·exact .inr (by omega)
 ·rintro i hi (e | e | e | e | e)
  ·exact .inl e
  ·exact .inr (.inl e)
  ·exact .inr (.inr (.inl e))
  ·rcases hb1 with rfl | e'
   ·exact .inr (.inr (.inr (.inl e)))
   ·omega
  ·rcases hF1 i e with e | ⟨e, _⟩
   ·exact .inr (.inr (.inr (.inr e)))
   ·omega
theorem VD.trans {v1 v2 : VS} (h : VD W W1 g bd br bm bs F O v1) (k : ∀ bs' c' F', MV W1 g bd br bm bs' c' F' O v1 -> (∀ i, F' i -> M.gr F W W1 i) -> (bs' = bs \/ W.heap.size <= bs') -> VD W1 W' g bd br bm bs' F' O v2) : VD W W' g bd br bm bs F O v2 := by
 obtain ⟨bs1, c1, F1, hM1, hF1, hb1⟩ := h.s
 exact VD.step h.t hF1 hb1 (k bs1 c1 F1 hM1 hF1 hb1)
theorem VD.pre (hB : Below W.heap.size W W1) (k : VD W1 W' g bd br bm bs F O v') : VD W W' g bd br bm bs F O v' := by
 obtain ⟨bs2, c2, F2, hM2, hF2, hb2⟩ := k.s
 have hs := hB.size
 refine ⟨⟨bs2, c2, F2, hM2, fun i hi => ?_, ?_⟩, ⟨k.t.os.trans hB.os, k.t.tape.trans hB.tape, k.t.output.trans hB.output, Nat.le_trans hs k.t.size, fun i hi n => (k.t.block i (Nat.lt_of_lt_of_le hi hs) n).trans (hB.block i hi)⟩⟩
 ·rcases hF2 i hi with e | ⟨e, e'⟩
  ·exact .inl e
  ·exact .inr ⟨by omega, e'⟩
 ·rcases hb2 with e | e
  ·exact .inl e
  ·exact .inr (by omega)
theorem VD.post (h : VD W W1 g bd br bm bs F O v') (hB : Below W1.heap.size W1 W') : VD W W' g bd br bm bs F O v' :=
 VD.trans h fun bs' c' F' hM _ _ => hM.same hB
theorem VD.other (h : VD W W' g bd br bm bs F O v') (k : MV W1 g bd br bm bs c F O v) (hs : W1.heap.size <= W.heap.size) (i : Nat) (h1 : W1.heap.size <= i) (h2 : i < W.heap.size) : W'.heap[i]? = W.heap[i]? :=
 h.t.block i h2 (by
  rintro (e | e | e | e | e)
  ·have := k.lt; omega
  ·have := k.lt_d; omega
  ·have := k.lt_r; omega
  ·have := k.lt_s; omega
  ·have := k.fl i e; omega)
theorem MV.setg (h : MV W g bd br bm bs c F O v) (i : Nat) (x : Value) (hc : (vcells v bd br bm bs c).set i x = vcells v' bd br bm bs c) (hD : v'.D = v.D) (hR : v'.R = v.R) (hm : v'.m = v.m) (ho : v'.o = v.o) (hcc : v'.c = v.c) : MV (W.setCell ⟨g, i, none⟩ x) g bd br bm bs c F O v' := by
 have o : ∀ k, k ≠ g -> (W.setCell ⟨g, i, none⟩ x).heap[k]? = W.heap[k]? := fun k hk => S.setCell_other W g i k x hk
 obtain ⟨xs, hr, hp⟩ := h.row
 refine ⟨by rw [S.setCell_heap W g i _ _ x h.blk, hc], ?_, ⟨xs, by rw [ho]; exact S.own_kept hr fun k e _ => o k (by cases e; exact fun e => h.ne.2.2.1 e.symm), by rw [ho, hcc]; exact hp.kept (fun k hk => o k (h.ob k hk).1) fun _ h => h⟩, fun k e => by rw [S.setCell_size]; exact h.ol k e, fun k e => by rw [S.setCell_size]; exact h.fl k e, h.ob, h.ne, h.fg, h.fs, ⟨by rw [hD]; exact h.wf.d, by rw [hR]; exact h.wf.r, by rw [hcc]; exact h.wf.c, by rw [ho]; exact h.wf.o, by rw [hR]; exact h.wf.l⟩⟩
 rw [hD, hR, hm]
 exact ⟨h.ps.d.kept (o _ (Ne.symm h.ne.1)), h.ps.r.kept (o _ (Ne.symm h.ne.2.1)), h.ps.m.kept fun k _ f => o k (by rintro rfl; exact h.fg f), h.ps.dr, h.ps.fd, h.ps.fr⟩
theorem tc_set (g' i : Nat) (x : Value) (hg : TV g bd br bs F g') : S.Tc (TV g bd br bs F) W (W.setCell ⟨g', i, none⟩ x) := (S.Tc.refl _ _).setCell g' i hg x
theorem MV.st (h : MV W g bd br bm bs c F O v) (n : Int) : MV (W.setCell ⟨g, 0, none⟩ (.int .i64 n)) g bd br bm bs c F O { v with st := n } := h.setg 0 _ rfl rfl rfl rfl rfl rfl
theorem MV.fa (h : MV W g bd br bm bs c F O v) (n : Int) : MV (W.setCell ⟨g, 1, none⟩ (.int .i64 n)) g bd br bm bs c F O { v with fa := n } := h.setg 1 _ rfl rfl rfl rfl rfl rfl
theorem MV.halts (h : MV W g bd br bm bs c F O v) (n : Int) : VD W (W.setCell ⟨g, 0, none⟩ (.int .i64 n)) g bd br bm bs F O { v with st := n } := (h.st n).vd (tc_set g 0 _ (.inl rfl))
theorem MV.put (h : MV W g bd br bm bs c F O v) (p : Pc) (x : Value) (hx : PV W O p.fr p.e x) (hp : okP p.fr) : MV (W.setCell ⟨bs, v.o.length, none⟩ x) g bd br bm bs c F O { v with c := p } := by
 have o : ∀ k, k ≠ bs -> (W.setCell ⟨bs, v.o.length, none⟩ x).heap[k]? = W.heap[k]? := fun k hk => S.setCell_other W bs _ k x hk
 obtain ⟨xs, hr, hps⟩ := h.row
 obtain ⟨ys, zs, rfl, h1, h2⟩ := hps.parts
 obtain ⟨z, rfl, _⟩ := h2.one
 have hl := h1.len
 have hst := hr.stored v.o.length x
 have e : (ys ++ [z]).set v.o.length x = ys ++ [x] := by rw [<- hl, List.set_append_right _ _ (Nat.le_refl _), Nat.sub_self]; rfl
 refine ⟨(o g h.ne.2.2.1).trans h.blk, ⟨h.ps.d.kept (o _ (Ne.symm h.ne.2.2.2.1)), h.ps.r.kept (o _ (Ne.symm h.ne.2.2.2.2)), h.ps.m.kept fun k _ f => o k (by rintro rfl; exact h.fs f), h.ps.dr, h.ps.fd, h.ps.fr⟩, ⟨ys ++ [x], ?_, PVs.app (h1.kept (fun k hk => o k (h.ob k hk).2.2.2.1) fun _ h => h) (PVs.mk (PV.kept (fun k hk => o k (h.ob k hk).2.2.2.1) (fun _ h => h) _ _ _ hx))⟩, fun k e => by rw [S.setCell_size]; exact h.ol k e, fun k e => by rw [S.setCell_size]; exact h.fl k e, h.ob, h.ne, h.fg, h.fs, ⟨h.wf.d, h.wf.r, hp, h.wf.o, h.wf.l⟩⟩
 rw [<- e]
 exact hst.1
theorem own_less {B : Nat} {e : TypeId} {b n c : Nat} {ys : List Value} {z : Value} (h : W.ownsRow B e 1 (.slice (some ⟨b, 0, none⟩) (n + 1) c) (n + 1) (ys ++ [z])) : W.ownsRow B e 1 (.slice (some ⟨b, 0, none⟩) n c) n ys := by
 have h0 := h.1
 simp at h0
 rcases h.2 with ⟨h', _⟩ | ⟨g', cap', cur, h', hb, hg, hnc, hcm, hcs, ht⟩
 ·simp at h'
 ·simp only [Value.slice.injEq, Option.some.injEq, Addr.mk.injEq, and_true, true_and] at h'
  obtain ⟨rfl, rfl⟩ := h'
  refine ⟨by omega, .inr ⟨b, c, cur, rfl, hb, hg, by omega, hcm, hcs, ?_⟩⟩
  rw [Nat.mul_one] at ht ⊢
  have := congrArg (List.take n) ht
  rw [List.take_take, Nat.min_eq_left (by omega), List.take_left' (by omega)] at this
  exact this
theorem MV.pop (h : MV W g bd br bm bs c F O v) (p : Pc) (l : List Pc) (ho : v.o = l ++ [p]) : MV (W.setCell ⟨g, 5, none⟩ (.slice (some ⟨bs, 0, none⟩) (l.length + 1) c)) g bd br bm bs c F O { v with o := l, c := p } := by
 have o : ∀ k, k ≠ g -> (W.setCell ⟨g, 5, none⟩ (.slice (some ⟨bs, 0, none⟩) (l.length + 1) c)).heap[k]? = W.heap[k]? := fun k hk => S.setCell_other W g 5 k _ hk
 obtain ⟨xs, hr, hps⟩ := h.row
 rw [ho] at hr hps
 obtain ⟨ys, zs, rfl, h1, h2⟩ := hps.parts
 obtain ⟨z, rfl, _⟩ := h2.one
 obtain ⟨us, ws, rfl, h3, h4⟩ := h1.parts
 rw [List.length_append] at hr
 refine ⟨by rw [S.setCell_heap W g 5 _ _ _ h.blk]; rfl, ⟨h.ps.d.kept (o _ (Ne.symm h.ne.1)), h.ps.r.kept (o _ (Ne.symm h.ne.2.1)), h.ps.m.kept fun k _ f => o k (by rintro rfl; exact h.fg f), h.ps.dr, h.ps.fd, h.ps.fr⟩, ⟨us ++ ws, S.own_kept (own_less hr) fun k e _ => o k (by cases e; exact fun e => h.ne.2.2.1 e.symm), PVs.app (h3.kept (fun k hk => o k (h.ob k hk).1) fun _ h => h) (h4.kept (fun k hk => o k (h.ob k hk).1) fun _ h => h)⟩, fun k e => by rw [S.setCell_size]; exact h.ol k e, fun k e => by rw [S.setCell_size]; exact h.fl k e, h.ob, h.ne, h.fg, h.fs, ⟨h.wf.d, h.wf.r, h.wf.o p (by rw [ho]; simp), fun q hq => h.wf.o q (by rw [ho]; simp [hq]), h.wf.l⟩⟩
theorem MV.push (h : MV W g bd br bm bs c F O v) (p : Pc) (x v2 : Value) (w2 : World) (xs : List Value) (hps : PVs W O (v.o ++ [v.c]) xs) (hx : PV W O p.fr p.e x) (hp : okP p.fr) (hr : w2.ownsRow 0 86 1 v2 (v.o.length + 1 + 1) (xs ++ [x])) (hg : S.Grew W w2 (.slice (some ⟨bs, 0, none⟩) (v.o.length + 1) c) v2) : ∃ bs2 c2, v2 = .slice (some ⟨bs2, 0, none⟩) (v.o.length + 1 + 1) c2 /\ (bs2 = bs \/ W.heap.size <= bs2) /\ MV (w2.setCell ⟨g, 5, none⟩ v2) g bd br bm bs2 c2 F O { v with o := v.o ++ [v.c], c := p } /\ S.Tc (TV g bd br bs F) W (w2.setCell ⟨g, 5, none⟩ v2) := by
 obtain ⟨bs2, c2, rfl⟩ := S.own_pos hr (by omega)
 have hlt := World.ownsRow.lt hr bs2 rfl
 have ob : ∀ k, k < W.heap.size -> k ≠ bs -> w2.heap[k]? = W.heap[k]? := fun k hk hb => hg.block k hk (by intro e; cases e; exact hb rfl)
 have hb2 : bs2 = bs \/ W.heap.size <= bs2 := by
  rcases hg.own with e | e
  ·cases e; exact .inl rfl
  ·exact .inr (e bs2 rfl)
 have o : ∀ k, k ≠ g -> (w2.setCell ⟨g, 5, none⟩ (.slice (some ⟨bs2, 0, none⟩) (v.o.length + 1 + 1) c2)).heap[k]? = w2.heap[k]? := fun k hk => S.setCell_other w2 g 5 k _ hk
 have oo : ∀ k, k < W.heap.size -> k ≠ bs -> k ≠ g -> (w2.setCell ⟨g, 5, none⟩ (.slice (some ⟨bs2, 0, none⟩) (v.o.length + 1 + 1) c2)).heap[k]? = W.heap[k]? := fun k hk hb hgk => (o k hgk).trans (ob k hk hb)
 have hsz := hg.size
 have hbg : bs2 ≠ g := by rcases hb2 with rfl | e; exact fun e => h.ne.2.2.1 e.symm; have := h.lt; omega
 refine ⟨bs2, c2, rfl, hb2, ⟨?_, ⟨h.ps.d.kept (oo _ h.lt_d (Ne.symm h.ne.2.2.2.1) (Ne.symm h.ne.1)), h.ps.r.kept (oo _ h.lt_r (Ne.symm h.ne.2.2.2.2) (Ne.symm h.ne.2.1)), h.ps.m.kept fun k hk f => oo k hk (by rintro rfl; exact h.fs f) (by rintro rfl; exact h.fg f), h.ps.dr, h.ps.fd, h.ps.fr⟩, ⟨xs ++ [x], ?_, PVs.app (hps.kept (fun k hk => oo k (h.ol k hk) (h.ob k hk).2.2.2.1 (h.ob k hk).1) fun _ h => h) (PVs.mk (PV.kept (fun k hk => oo k (h.ol k hk) (h.ob k hk).2.2.2.1 (h.ob k hk).1) (fun _ h => h) _ _ _ hx))⟩, fun k e => ?_, fun k e => ?_, fun k e => ⟨(h.ob k e).1, (h.ob k e).2.1, (h.ob k e).2.2.1, ?_, (h.ob k e).2.2.2.2⟩, ⟨h.ne.1, h.ne.2.1, hbg.symm, ?_, ?_⟩, h.fg, ?_, ⟨h.wf.d, h.wf.r, hp, ?_, h.wf.l⟩⟩, ⟨hg.os, hg.tape, hg.output, by rw [S.setCell_size]; exact hsz, fun k hk hn => oo k hk (fun e => hn (.inr (.inr (.inr (.inl e))))) fun e => hn (.inl e)⟩⟩
 ·have e : (vcells { v with o := v.o ++ [v.c], c := p } bd br bm bs2 c2) = (vcells v bd br bm bs c).set 5 (.slice (some ⟨bs2, 0, none⟩) (v.o.length + 1 + 1) c2) := by unfold vcells; simp
  rw [S.setCell_heap w2 g 5 _ _ _ ((ob g h.lt h.ne.2.2.1).trans h.blk), e]
 ·rw [show ({ v with o := v.o ++ [v.c], c := p } : VS).o.length = v.o.length + 1 by simp]
  exact S.own_kept hr fun k e _ => o k (by cases e; exact hbg)
 ·rw [S.setCell_size]; exact Nat.lt_of_lt_of_le (h.ol k e) hsz
 ·rw [S.setCell_size]; exact Nat.lt_of_lt_of_le (h.fl k e) hsz
 ·rcases hb2 with rfl | e'
  ·exact (h.ob k e).2.2.2.1
  ·have := h.ol k e; omega
 ·rcases hb2 with rfl | e'
  ·exact h.ne.2.2.2.1
  ·have := h.lt_d; omega
 ·rcases hb2 with rfl | e'
  ·exact h.ne.2.2.2.2
  ·have := h.lt_r; omega
 ·rcases hb2 with rfl | e'
  ·exact h.fs
  ·intro e; have := h.fl _ e; omega
 ·intro q hq
  rcases List.mem_append.1 hq with hq | hq
  ·exact h.wf.o q hq
  ·simp at hq; subst hq; exact h.wf.c
end
set_option maxHeartbeats 4000000
set_option maxRecDepth 100000
section
variable {W W1 W' : World} {g bd br bm bs c : Nat} {F O : Nat -> Prop} {v v' : VS}
theorem trB {n : Nat} {w w1 w2 : World} (h : Below n w w1) (k : Below w1.heap.size w1 w2) (hs : n <= w1.heap.size) : Below n w w2 := h.trans (k.mono hs)
theorem MV.last (h : MV W g bd br bm bs c F O v) : ∃ x, W.cell? ⟨bs, v.o.length, none⟩ = some x /\ PV W O v.c.fr v.c.e x := by
 obtain ⟨xs, hr, hps⟩ := h.row
 obtain ⟨ys, zs, rfl, h1, h2⟩ := hps.parts
 obtain ⟨z, rfl, hz⟩ := h2.one
 refine ⟨z, ?_, hz⟩
 rw [hr.cellAt v.o.length (by omega), <- h1.len, List.getElem?_append_right (Nat.le_refl _), Nat.sub_self]
 rfl
theorem here_any (h : MV W g bd br bm bs c F O v) (hl : v.o.length <= 128) :
  Calls Tryz.prog 27 #[.pointer (some ⟨g, 0, none⟩)] W fun e w' => ∃ x, e = .returned x /\ PV W O v.c.fr v.c.e x /\ Below W.heap.size W w' := by
 obtain ⟨x, hx, hP⟩ := h.last
 obtain ⟨tt, xx, rfl⟩ := PV.isI _ _ _ hP
 have c5 := h.c5
 have hgs : g < W.heap.size := h.lt
 have hbs : bs < W.heap.size := h.lt_s
 have w1 : wrap64 (((v.o.length + 1 : Nat) : Int) - 1) = (v.o.length : Int) := by unfold wrap64; omega
 have i1 : (v.o.length : Int) < ((v.o.length + 1 : Nat) : Int) := by omega
 have HC := hid (fun (w : World) (k : Below W.heap.size W w) => And.intro ((k.cell hgs).trans c5) ((k.cell hbs).trans hx))
 have HP := hid hP
 clear hx hP h c5 hgs hbs
 generalize v.o.length = N at *
 have hwN : IntKind.i64.wrap (N : Int) = (N : Int) := S.i64_id _ (by omega) (by omega)
 have hN1 : (0 : Int) <= (N : Int) /\ (N : Int) < (N : Int) + 1 := ⟨by omega, by omega⟩
 go_enter Tryz.func27, Tryz.ntmps27
 go_upto_region 1 with fail
 refine wp_region_held_drew (S := fun w' : World => Below W.heap.size W w') (by kernel_rfl) (drewB W) (fun hHeld => ?_)
 generalize W.drew = y0 at *
 refine D.zH (is := [0, 1, 2, 3, 4, 5, 6, 7, 8, 9, 10, 11, 12]) ?_
 iterate 13
  refine D.yH (v := ?_) rfl (by kernel_rfl) (fun c a w h => h) (by rfl) ?_ hHeld ?_
  rotate_left
  ·(intro w hSw; obtain ⟨c5, hx⟩ := HC.out w hSw; go_simp; try with_reducible rfl)
  simp only [D.pts]
 refine D.eH ?_
 refine wpAnyH_done (by kernel_rfl) ?_ _
 go_wp2
 go_ret
 exact ⟨_, rfl, HP.out, hHeld⟩
theorem cost_any (op : Nat) (h1 : 1 <= op) (h2 : op < 64) (x : Int) (wq : Option Addr) (p : Ps) (W : World) :
  Calls Tryz.prog 28 #[.agg #[.int .i64 (op : Int), .int .u16 x, .pointer wq, .int .i64 p.1, .int .i64 p.2]] W fun e w' => e = .returned (.int .i64 (P.rc op)) /\ Below W.heap.size W w' := by
 obtain ⟨W1, hW1⟩ : ∃ W1, W.alloc (.cells #[.int .i64 (op : Int), .int .u16 x, .pointer wq, .int .i64 p.1, .int .i64 p.2] 84) = W1 := ⟨_, rfl⟩
 have hb : Below W.heap.size W W1 := by rw [<- hW1]; exact (Below.refl _ _).alloc (Nat.le_refl _) _
 have u1 : W1.heap[W.heap.size]? = some (.cells [.int .i64 (op : Int), .int .u16 x, .pointer wq, .int .i64 p.1, .int .i64 p.2].toArray 84 (0, 0)) := by rw [<- hW1]; exact heap_alloc_new W _
 have x0 := S.cell_of W1 _ 0 _ _ _ u1 rfl
 have kc := P.of_at op h1 h2 W1
 unfold P.rowN P.rowV at kc
 have HW1 := hid hW1
 have HB := hid hb
 clear hW1 hb u1
 go_enter Tryz.func28, Tryz.ntmps28
 go_upto_region 1 with fail
 rw [HW1.out]
 go_wp2_with fail
 refine kc.mono ?_
 rintro e w2 ⟨rfl, hb2⟩
 have HB2 := hid (HB.out.trans (hb2.mono HB.out.size))
 clear hb2 kc x0
 go_wp2
 go_ret
 exact ⟨rfl, HB2.out.alloc HB2.out.size _⟩
theorem goon_any (h : MV W g bd br bm bs c F O v) (hl : v.o.length <= 128) (ld : Bool) :
  Calls Tryz.prog 57 #[.pointer (some ⟨g, 0, none⟩), .bool ld] W fun e w' => e = .returned (.tuple #[]) /\ VD W w' g bd br bm bs F O { v with c := onc v.c ld } := by
 obtain ⟨x, hx, hP⟩ := h.last
 obtain ⟨tt, xx, rfl⟩ := PV.isI _ _ _ hP
 have c5 := h.c5
 have hgs : g < W.heap.size := h.lt
 have hbs : bs < W.heap.size := h.lt_s
 have hgb : g ≠ bs := h.ne.2.2.1
 have w1 : wrap64 (((v.o.length + 1 : Nat) : Int) - 1) = (v.o.length : Int) := by unfold wrap64; omega
 have i1 : (v.o.length : Int) < ((v.o.length + 1 : Nat) : Int) := by omega
 have hz : ∀ w, Below W.heap.size W w -> w.frozen? ⟨bs, v.o.length, none⟩ = false := fun w k => by
  obtain ⟨xs, hr, _⟩ := (h.below k).row
  exact hr.frozenAt _
 have HC := hid (fun (w : World) (k : Below W.heap.size W w) => And.intro ((k.cell hgs).trans c5) (And.intro ((k.cell hbs).trans hx) (hz w k)))
 have hput : ∀ w2 v2, Below W.heap.size W w2 -> PV W O (on v.c.fr ld) v.c.e v2 -> VD W (w2.setCell ⟨bs, v.o.length, none⟩ v2) g bd br bm bs F O { v with c := onc v.c ld } := fun w2 v2 k hv =>
  VD.pre k (((h.below k).put (onc v.c ld) v2 (hv.below k h.ol) (on_ok _ _ h.wf.c)).vd (tc_set bs _ _ (.inr (.inr (.inr (.inl rfl))))))
 have HH := hid h
 have HPUT := hid hput
 clear hx h c5 hgs hbs hz hput hP
 have hl' := hl
 generalize hN : v.o.length = N at *
 have HN := hid hN
 have hwN : IntKind.i64.wrap (N : Int) = (N : Int) := S.i64_id _ (by omega) (by omega)
 have hN1 : (0 : Int) <= (N : Int) /\ (N : Int) < (N : Int) + 1 := ⟨by omega, by omega⟩
 clear hN
 have hb0 : Below W.heap.size W W.drew := drewB W
 go_enter Tryz.func57, Tryz.ntmps57
 go_upto_region 0 with fail
 refine wp_region_held_drew (S := fun w' : World => w'.cell? ⟨g, 5, none⟩ = some (.slice (some ⟨bs, 0, none⟩) (N + 1) c)) (by kernel_rfl) (HC.out _ hb0).1 (fun hHeld => ?_)
 generalize W.drew = y0 at *
 refine D.zH (is := [0, 1, 2, 3, 4, 5, 6, 7, 8, 9, 10, 12]) ?_
 iterate 12
  refine D.yH (v := ?_) rfl (by kernel_rfl) (fun c a w h => h) (by rfl) ?_ hHeld ?_
  rotate_left
  ·(intro w hSw; have c5 := hSw; go_simp; try with_reducible rfl)
  simp only [D.pts]
 refine D.eH ?_
 refine wpAnyH_ready (rs := [11]) (by kernel_rfl) (by simp) ?_
 refine AllReadyH.cons rfl (fun K hK => ?_) AllReadyH.nil
 go_simp
 refine (here_any (HH.out.below hb0) (by rw [HN.out]; exact hl')).mono ?_
 rintro e y1 ⟨x1, rfl, hP1, hb1⟩
 have hP1 := PV.up hb0 HH.out.ol hP1
 have hb1 := hb0.trans (hb1.mono hb0.size)
 refine hK.out _ _ (HC.out _ hb1).1 (fun hHeld => ?_)
 clear hK K
 try simp only [D.pts]
 refine wpAnyH_ready (rs := [13]) (by kernel_rfl) (by simp) ?_
 refine AllReadyH.cons rfl (fun K hK => ?_) AllReadyH.nil
 rw [if_pos (by rfl)]
 refine wp_on (W := W) (O := O) rfl (by refine ⟨?_, ?_, ?_, ?_, ?_, ?_, ?_, ?_, ?_⟩ <;> intros <;> kernel_rfl) v.c.fr v.c.e x1 ld (by rfl) (by rfl) hP1 HH.out.ol hb1 ?_
 rintro v2 y2 ⟨hv2, hb2⟩
 have hb2 := hb1.trans (hb2.mono hb1.size)
 refine hK.out _ _ (HC.out _ hb2).1 (fun hHeld => ?_)
 clear hK K
 try simp only [D.pts]
 refine D.xH 14 (v := ?_) rfl (by kernel_rfl) (fun c a w h => h) (by rfl) ?_ hHeld ?_
 rotate_left
 ·(intro w hSw; obtain ⟨c5, hx, hz⟩ := And.intro hSw (And.intro trivial trivial); go_simp; try with_reducible rfl)
 simp only [D.pts]
 obtain ⟨c5, hx, hz⟩ := HC.out _ hb2
 obtain ⟨t2, u2, rfl⟩ := PV.isI _ _ _ hv2
 have hs5 : (y2.setCell ⟨bs, N, none⟩ (.iface t2 u2)).cell? ⟨g, 5, none⟩ = some (.slice (some ⟨bs, 0, none⟩) (N + 1) c) := (World.cell?_of_block (w := y2) (S.setCell_other y2 bs N g _ hgb)).trans c5
 refine wpAnyH_ready (rs := [15]) (by kernel_rfl) (by simp) ?_
 refine AllReadyH.cons rfl (fun K hK => ?_) AllReadyH.nil
 go_simp
 refine hK.out _ _ hs5 (fun hHeld => ?_)
 clear hK K
 try simp only [D.pts]
 refine wpAnyH_done (by kernel_rfl) ?_ _
 have HF := hid (HPUT.out y2 (.iface t2 u2) hb2 hv2)
 clear hHeld hs5 c5 hx hz hv2 hP1
 go_wp2
 go_end0
 exact ⟨rfl, HF.out⟩
end
set_option maxHeartbeats 4000000
set_option maxRecDepth 100000
theorem last2 (R : List (Int × Int)) : R = [] \/ (∃ q, R = [q]) \/ ∃ l p q, R = l ++ [p] ++ [q] := by
 rcases List.eq_nil_or_concat R with h | ⟨l, q, rfl⟩
 ·exact .inl h
 ·rcases List.eq_nil_or_concat l with rfl | ⟨l, p, rfl⟩
  ·exact .inr (.inl ⟨q, by simp⟩)
  ·exact .inr (.inr ⟨l, p, q, by simp⟩)
theorem turns_any (g bd br bm bs c : Nat) (F O : Nat -> Prop) (v : VS) (W : World) (h : MV W g bd br bm bs c F O v) :
  Calls Tryz.prog 71 #[.pointer (some ⟨g, 0, none⟩)] W fun e W' => e = .returned (.tuple #[.bool (turn v).b, .int .i64 (turn v).f]) /\ VD W W' g bd br bm bs F O (turn v).v := by
 have c4 := h.c3
 have hR := h.ps.r
 have hsame : ∀ q, VD W (W.drewN q) g bd br bm bs F O v := fun q => h.same ⟨rfl, rfl, rfl, Nat.le_refl _, fun _ _ => rfl⟩
 have hwr := h.wf.r
 rcases last2 v.R with hr | ⟨⟨k, i⟩, hr⟩ | ⟨l, ⟨k2, b⟩, ⟨k, i⟩, hr⟩
 ·have ht : turn v = ⟨false, 3, v⟩ := by unfold turn; rw [hr]; rfl
  rw [ht]
  have k1 := S.rat_under br v.R 0 3 (.inr (by rw [hr]; simp)) W hR
  have hs := hsame 0
  clear hR hsame hwr hr ht h
  go_enter Tryz.func71, Tryz.ntmps71
  go_wp2_with fail
  refine k1.mono ?_
  rintro e w1 ⟨rfl, rfl⟩
  go_wp2
  go_ret2
  exact ⟨rfl, hs⟩
 ·by_cases q1 : k = 3
  ·subst q1
   have ht : turn v = ⟨false, 3, v⟩ := by unfold turn; rw [hr]; rfl
   rw [ht]
   have k1 := S.rat_ok br v.R 0 0 (by rw [hr]; rfl) 3 i (by rw [hr]; rfl) W hR
   have k2 := fun q => S.rat_under br v.R 1 2 (.inr (by rw [hr]; simp)) (W.drewN q) hR
   have c4' := fun q => (show (W.drewN q).cell? ⟨g, 3, none⟩ = _ from c4)
   clear hR hwr hr ht h
   go_enter Tryz.func71, Tryz.ntmps71
   go_wp2_with fail
   refine k1.mono ?_
   rintro e w1 ⟨rfl, q, rfl⟩
   have d4 := c4' q
   go_wp2_with fail
   refine (k2 q).mono ?_
   rintro e w2 ⟨rfl, rfl⟩
   go_wp2
   go_ret2
   exact ⟨rfl, hsame q⟩
  ·have ht : turn v = ⟨false, 5, v⟩ := by unfold turn; rw [hr]; simp [q1]
   rw [ht]
   have k1 := S.rat_kind br v.R 0 0 (by rw [hr]; rfl) k i (by rw [hr]; rfl) 3 q1 W hR
   clear hR hwr hr ht h
   go_enter Tryz.func71, Tryz.ntmps71
   go_wp2_with fail
   refine k1.mono ?_
   rintro e w1 ⟨rfl, q, rfl⟩
   go_wp2
   go_ret2
   exact ⟨rfl, hsame q⟩
 have gl : v.R.length = l.length + 2 := by rw [hr]; simp
 have gi : v.R[l.length + 1]? = some (k, i) := by rw [hr, List.getElem?_append_right (by simp)]; simp
 have gb : v.R[l.length]? = some (k2, b) := by rw [hr, List.append_assoc, List.getElem?_append_right (by simp)]; simp
 by_cases q1 : k = 3
 case neg =>
  have ht : turn v = ⟨false, 5, v⟩ := by unfold turn; rw [hr]; simp [q1]
  rw [ht]
  have k1 := S.rat_kind br v.R (l.length + 1) 0 (by omega) k i gi 3 q1 W hR
  clear hR hwr hr ht h gl gi gb
  go_enter Tryz.func71, Tryz.ntmps71
  go_wp2_with fail
  refine k1.mono ?_
  rintro e w1 ⟨rfl, q, rfl⟩
  go_wp2
  go_ret2
  exact ⟨rfl, hsame q⟩
 subst q1
 have k1 := S.rat_ok br v.R (l.length + 1) 0 (by omega) 3 i gi W hR
 have c4' := fun q => (show (W.drewN q).cell? ⟨g, 3, none⟩ = _ from c4)
 by_cases q2 : k2 = 2
 case neg =>
  have ht : turn v = ⟨false, 5, v⟩ := by unfold turn; rw [hr]; simp [q2]
  rw [ht]
  have k2 := fun q => S.rat_kind br v.R l.length 1 (by omega) k2 b gb 2 q2 (W.drewN q) hR
  clear hR hwr hr ht h gl gi gb
  go_enter Tryz.func71, Tryz.ntmps71
  go_wp2_with fail
  refine k1.mono ?_
  rintro e w1 ⟨rfl, q, rfl⟩
  have d4 := c4' q
  go_wp2_with fail
  refine (k2 q).mono ?_
  rintro e w2 ⟨rfl, q', rfl⟩
  go_wp2
  go_ret2
  exact ⟨rfl, hsame _⟩
 subst q2
 have k2 := fun q => S.rat_ok br v.R l.length 1 (by omega) 2 b gb (W.drewN q) hR
 have e1 : IntKind.u16.wrap (i + 1) = (i + 1) % 65536 := M.u16_wrap _
 by_cases q3 : (i + 1) % 65536 = b
 case neg =>
  have ht : turn v = ⟨true, 0, { v with R := l ++ [(2, b)] ++ [(3, (i + 1) % 65536)] }⟩ := by unfold turn; rw [hr]; simp [q3]
  rw [ht]
  have e2 : ((i + 1) % 65536 == b) = false := by simpa using q3
  have k3 := fun q => S.rset br (l ++ [(2, b)]) 3 i ((i + 1) % 65536) (W.drewN q) (by rw [hr] at hR; exact hR)
  have hfin : ∀ q w', S.HasR w' br (l ++ [(2, b)] ++ [(3, (i + 1) % 65536)]) -> S.At br (W.drewN q) w' -> VD W w' g bd br bm bs F O { v with R := l ++ [(2, b)] ++ [(3, (i + 1) % 65536)] } := by
   intro q w' a1 a2
   refine h.kv ⟨a2.os, a2.tape, a2.output, a2.size, a2.block⟩ a1 fun p hp => ?_
   rw [hr] at hwr
   rcases List.mem_append.1 hp with hp | hp
   ·exact hwr p (List.mem_append_left _ hp)
   ·simp at hp; subst hp; exact ⟨by omega, by omega⟩
  clear hR hwr hr ht h gl gi gb hsame
  go_enter Tryz.func71, Tryz.ntmps71
  go_wp2_with fail
  refine k1.mono ?_
  rintro e w1 ⟨rfl, q, rfl⟩
  have d4 := c4' q
  go_wp2_with fail
  refine (k2 q).mono ?_
  rintro e w2 ⟨rfl, q', rfl⟩
  obtain ⟨r, e⟩ := M.drewN_drewN W q q'
  rw [e]
  have d5 := c4' r
  have k3 := k3 r
  clear k1 k2 d4
  go_wp2_with fail
  refine k3.mono ?_
  rintro e w3 ⟨rfl, a1, a2⟩
  have hf := hfin r w3 a1 a2
  clear a1 a2 k3 d5 c4' hfin
  go_wp2
  go_ret2
  exact ⟨rfl, hf⟩
 have ht : turn v = ⟨false, 0, { v with R := l }⟩ := by unfold turn; rw [hr]; simp [q3]
 rw [ht]
 have e2 : ((i + 1) % 65536 == b) = true := by simpa using q3
 have k3 := fun q => S.rpop_ok br (l ++ [(2, b)]) 3 i (W.drewN q) (by rw [hr] at hR; exact hR)
 have hfin : ∀ q w' w'', S.At br (W.drewN q) w' -> S.HasR w'' br l -> S.At br w' w'' -> VD W w'' g bd br bm bs F O { v with R := l } := by
  intro q w' w'' a1 a2 a3
  have a4 : S.At br W w' := ⟨a1.os, a1.tape, a1.output, a1.size, a1.block⟩
  refine h.kv (S.Tc.trans a4 a3 (fun _ e => e) (fun _ _ e => e)) a2 fun p hp => ?_
  rw [hr] at hwr
  exact hwr p (List.mem_append_left _ (List.mem_append_left _ hp))
 have hg4 : ∀ q w', S.At br (W.drewN q) w' -> w'.cell? ⟨g, 3, none⟩ = some (.pointer (some ⟨br, 0, none⟩)) := by
  intro q w' a1
  rw [World.cell?_of_block (w := W) (w' := w') (a := ⟨g, 3, none⟩) (a1.block g h.lt h.ne.2.1)]
  exact c4
 clear hR hwr hr ht h gl gi gb hsame
 go_enter Tryz.func71, Tryz.ntmps71
 go_wp2_with fail
 refine k1.mono ?_
 rintro e w1 ⟨rfl, q, rfl⟩
 have d4 := c4' q
 go_wp2_with fail
 refine (k2 q).mono ?_
 rintro e w2 ⟨rfl, q', rfl⟩
 obtain ⟨r, e⟩ := M.drewN_drewN W q q'
 rw [e]
 have d5 := c4' r
 have k3 := k3 r
 clear k1 k2 d4
 go_wp2_with fail
 refine k3.mono ?_
 rintro e w3 ⟨rfl, a1, a2⟩
 have d6 := hg4 r w3 a2
 have k4 := S.rpop_ok br l 2 b w3 a1
 clear k3 d5 c4' hg4
 go_wp2_with fail
 refine k4.mono ?_
 rintro e w4 ⟨rfl, a3, a4⟩
 have hf := hfin r w3 w4 a2 a3 a4
 clear a1 a2 a3 a4 k4 d6 hfin
 go_wp2
 go_ret2
 exact ⟨rfl, hf⟩
end Go.Proofs.YtoemoiehjdmheaaGreat.Z
