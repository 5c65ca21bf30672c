import Derived.Test.YtoemoiehjdmheaaGreatZBgn
namespace Go.Proofs.YtoemoiehjdmheaaGreat.Z
open Go.RowKit
open Go.Proofs
open Go.Proofs.YtoemoiehjdmheaaGreat.Y (Nd Df Ps Pl hid ZV)
set_option linter.unusedVariables false
set_option linter.unusedSimpArgs false
set_option maxHeartbeats 4000000
set_option maxRecDepth 100000
section
variable {W : World} {O : Nat -> Prop} {l : List Mn} {i : Nat} {x : Mn} {r : List Fr} {e : Ps} {b o c : Nat} {wq tp op : Option Addr} {tc oc : Nat} {t : TypeId} {bx : Value}
theorem Sp.fx (h : Sp W O l i x r e b o c wq tp op tc oc t bx) (g : Nat) : Fr.x ⟨g, l, i⟩ = x := by unfold Fr.x; simp only; rw [h.hx]; rfl
theorem field_th (W : World) (z0 z1 z3 z4 z5 : Int) (b8 : Bool) (wq p6 p7 : Option Addr) (n6 q6 n7 q7 : Nat) : (Instr.field 173 (.agg #[.int .i64 z0, .int .u16 z1, .pointer wq, .int .i64 z3, .int .i64 z4, .int .i64 z5, .slice p6 n6 q6, .slice p7 n7 q7, .bool b8]) 2).run Tryz.prog W = .ok (.slice p6 n6 q6) W := by
 simp [Instr.field, run_underlying Tryz.underlying173, Value.cells, go_sem, asAgg, part]
theorem field_ot (W : World) (z0 z1 z3 z4 z5 : Int) (b8 : Bool) (wq p6 p7 : Option Addr) (n6 q6 n7 q7 : Nat) : (Instr.field 173 (.agg #[.int .i64 z0, .int .u16 z1, .pointer wq, .int .i64 z3, .int .i64 z4, .int .i64 z5, .slice p6 n6 q6, .slice p7 n7 q7, .bool b8]) 3).run Tryz.prog W = .ok (.slice p7 n7 q7) W := by
 simp [Instr.field, run_underlying Tryz.underlying173, Value.cells, go_sem, asAgg, part]
theorem drewB (W : World) : Below W.heap.size W W.drew := ⟨rfl, rfl, rfl, Nat.le_refl _, fun _ _ => rfl⟩
theorem on_0 (h : Sp W O l i x r e b o c wq tp op tc oc t bx) (W' : World) (k : Below W.heap.size W W') (ld : Bool) :
  Calls Tryz.prog 198 #[.agg #[.slice (some ⟨b, o, none⟩) l.length c, .int .i64 (i : Int), .iface t bx], .bool ld] W' fun e' w' => ∃ v, e' = .returned v /\ PV W O (onf ⟨0, l, i⟩ r ld) e v /\ Below W'.heap.size W' w' := by
 obtain ⟨W1, hW1, hb1, u1, hx3⟩ := box3 W' (.slice (some ⟨b, o, none⟩) l.length c) (.int .i64 (i : Int)) (.iface t bx) 197
 obtain ⟨x0, x1, x2⟩ := hx3 W1 (Below.refl _ _)
 have HX := hid hx3
 have HW1 := hid hW1
 have HB1 := hid hb1
 have HK := hid k
 have HFX := hid (h.fx 0)
 have hc := h.pastC W1 (k.trans (hb1.mono k.size))
 have hg : onf ⟨0, l, i⟩ r ld = bgn l (i + 1) r := rfl
 rw [hg]
 clear u1 hx3 hW1 hb1 h k hg HFX HX HK
 generalize l.length = N at *
 go_enter Tryz.func198, Tryz.ntmps198
 go_upto_region 1 with fail
 rw [HW1.out]
 go_wp2_with fail
 refine hc.mono ?_
 rintro e' w2 ⟨v, rfl, hv, hb2⟩
 have HV := hid (And.intro hv (HB1.out.trans (hb2.mono HB1.out.size)))
 clear hc hv hb2
 go_wp2
 go_ret
 exact ⟨v, rfl, HV.out⟩
theorem on_2 (h : Sp W O l i x r e b o c wq tp op tc oc t bx) (W' : World) (k : Below W.heap.size W W') (ld : Bool) :
  Calls Tryz.prog 202 #[.agg #[.slice (some ⟨b, o, none⟩) l.length c, .int .i64 (i : Int), .iface t bx], .bool ld] W' fun e' w' => ∃ v, e' = .returned v /\ PV W O (onf ⟨2, l, i⟩ r ld) e v /\ Below W'.heap.size W' w' := by
 obtain ⟨W1, hW1, hb1, u1, hx3⟩ := box3 W' (.slice (some ⟨b, o, none⟩) l.length c) (.int .i64 (i : Int)) (.iface t bx) 269
 obtain ⟨x0, x1, x2⟩ := hx3 W1 (Below.refl _ _)
 have HX := hid hx3
 have HW1 := hid hW1
 have HB1 := hid hb1
 have HK := hid k
 have HFX := hid (h.fx 2)
 have hc := h.pastC W1 (k.trans (hb1.mono k.size))
 have hg : onf ⟨2, l, i⟩ r ld = bgn l (i + 1) r := rfl
 rw [hg]
 clear u1 hx3 hW1 hb1 h k hg HFX HX HK
 generalize l.length = N at *
 go_enter Tryz.func202, Tryz.ntmps202
 go_upto_region 1 with fail
 rw [HW1.out]
 go_wp2_with fail
 refine hc.mono ?_
 rintro e' w2 ⟨v, rfl, hv, hb2⟩
 have HV := hid (And.intro hv (HB1.out.trans (hb2.mono HB1.out.size)))
 clear hc hv hb2
 go_wp2
 go_ret
 exact ⟨v, rfl, HV.out⟩
theorem on_5 (h : Sp W O l i x r e b o c wq tp op tc oc t bx) (W' : World) (k : Below W.heap.size W W') (ld : Bool) :
  Calls Tryz.prog 194 #[.agg #[.slice (some ⟨b, o, none⟩) l.length c, .int .i64 (i : Int), .iface t bx], .bool ld] W' fun e' w' => ∃ v, e' = .returned v /\ PV W O (onf ⟨5, l, i⟩ r ld) e v /\ Below W'.heap.size W' w' := by
 obtain ⟨W1, hW1, hb1, u1, hx3⟩ := box3 W' (.slice (some ⟨b, o, none⟩) l.length c) (.int .i64 (i : Int)) (.iface t bx) 195
 obtain ⟨x0, x1, x2⟩ := hx3 W1 (Below.refl _ _)
 have HX := hid hx3
 have HW1 := hid hW1
 have HB1 := hid hb1
 have HK := hid k
 have HFX := hid (h.fx 5)
 have hc := h.beginC W1 (k.trans (hb1.mono k.size)) i (Nat.le_of_lt h.lt)
 have hg : onf ⟨5, l, i⟩ r ld = bgn l i r := rfl
 rw [hg]
 clear u1 hx3 hW1 hb1 h k hg HFX HX HK
 generalize l.length = N at *
 go_enter Tryz.func194, Tryz.ntmps194
 go_upto_region 1 with fail
 rw [HW1.out]
 go_wp2_with fail
 refine hc.mono ?_
 rintro e' w2 ⟨v, rfl, hv, hb2⟩
 have HV := hid (And.intro hv (HB1.out.trans (hb2.mono HB1.out.size)))
 clear hc hv hb2
 go_wp2
 go_ret
 exact ⟨v, rfl, HV.out⟩
theorem on_3 (h : Sp W O l i x r e b o c wq tp op tc oc t bx) (W' : World) (k : Below W.heap.size W W') (ld : Bool) :
  Calls Tryz.prog 190 #[.agg #[.slice (some ⟨b, o, none⟩) l.length c, .int .i64 (i : Int), .iface t bx], .bool ld] W' fun e' w' => ∃ v, e' = .returned v /\ PV W O (onf ⟨3, l, i⟩ r ld) e v /\ Below W'.heap.size W' w' := by
 obtain ⟨W1, hW1, hb1, u1, hx3⟩ := box3 W' (.slice (some ⟨b, o, none⟩) l.length c) (.int .i64 (i : Int)) (.iface t bx) 193
 obtain ⟨x0, x1, x2⟩ := hx3 W1 (Below.refl _ _)
 have HX := hid hx3
 have HW1 := hid hW1
 have HB1 := hid hb1
 have HK := hid k
 have HFX := hid (h.fx 3)
 cases ld with
 | true =>
  have hc := h.beginC W1 (k.trans (hb1.mono k.size)) i (Nat.le_of_lt h.lt)
  have hg : onf ⟨3, l, i⟩ r true = bgn l i r := rfl
  rw [hg]
  clear u1 hx3 hW1 hb1 h k hg HFX HX HK
  generalize l.length = N at *
  go_enter Tryz.func190, Tryz.ntmps190
  go_upto_region 2 with fail
  rw [HW1.out]
  go_wp2_with fail
  refine hc.mono ?_
  rintro e' w2 ⟨v, rfl, hv, hb2⟩
  have HV := hid (And.intro hv (HB1.out.trans (hb2.mono HB1.out.size)))
  clear hc hv hb2
  go_wp2
  go_ret
  exact ⟨v, rfl, HV.out⟩
 | false =>
  have hc := h.pastC W1 (k.trans (hb1.mono k.size))
  have hg : onf ⟨3, l, i⟩ r false = bgn l (i + 1) r := rfl
  rw [hg]
  clear u1 hx3 hW1 hb1 h k hg HFX HX HK
  generalize l.length = N at *
  go_enter Tryz.func190, Tryz.ntmps190
  go_upto_region 3 with fail
  rw [HW1.out]
  go_wp2_with fail
  refine hc.mono ?_
  rintro e' w2 ⟨v, rfl, hv, hb2⟩
  have HV := hid (And.intro hv (HB1.out.trans (hb2.mono HB1.out.size)))
  clear hc hv hb2
  go_wp2
  go_ret
  exact ⟨v, rfl, HV.out⟩
theorem on_4 (h : Sp W O l i x r e b o c wq tp op tc oc t bx) (W' : World) (k : Below W.heap.size W W') (ld : Bool) :
  Calls Tryz.prog 192 #[.agg #[.slice (some ⟨b, o, none⟩) l.length c, .int .i64 (i : Int), .iface t bx], .bool ld] W' fun e' w' => ∃ v, e' = .returned v /\ PV W O (onf ⟨4, l, i⟩ r ld) e v /\ Below W'.heap.size W' w' := by
 obtain ⟨W1, hW1, hb1, u1, hx3⟩ := box3 W' (.slice (some ⟨b, o, none⟩) l.length c) (.int .i64 (i : Int)) (.iface t bx) 194
 obtain ⟨x0, x1, x2⟩ := hx3 W1 (Below.refl _ _)
 have HX := hid hx3
 have HW1 := hid hW1
 have HB1 := hid hb1
 have HK := hid k
 have HFX := hid (h.fx 4)
 cases ld with
 | true =>
  have hc := h.pastC W1 (k.trans (hb1.mono k.size))
  have hg : onf ⟨4, l, i⟩ r true = bgn l (i + 1) r := rfl
  rw [hg]
  clear u1 hx3 hW1 hb1 h k hg HFX HX HK
  generalize l.length = N at *
  go_enter Tryz.func192, Tryz.ntmps192
  go_upto_region 2 with fail
  rw [HW1.out]
  go_wp2_with fail
  refine hc.mono ?_
  rintro e' w2 ⟨v, rfl, hv, hb2⟩
  have HV := hid (And.intro hv (HB1.out.trans (hb2.mono HB1.out.size)))
  clear hc hv hb2
  go_wp2
  go_ret
  exact ⟨v, rfl, HV.out⟩
 | false =>
  have hg : onf ⟨4, l, i⟩ r false = bgn x.ot 0 (⟨5, l, i⟩ :: r) := by unfold onf; simp only [HFX.out]; rfl
  rw [hg]
  have HSP := hid h
  have HKB := hid (k.trans (hb1.mono k.size))
  have hf := field_ot (b8 := x.has) (z0 := x.op) (z1 := x.v) (z3 := x.p.1) (z4 := x.p.2) (z5 := x.k) (wq := wq) (p6 := tp) (p7 := op) (n6 := x.th.length) (q6 := tc) (n7 := x.ot.length) (q7 := oc)
  clear u1 hx3 hW1 hb1 h k hg HFX HK
  go_enter Tryz.func192, Tryz.ntmps192
  go_upto_region 3 with fail
  rw [HW1.out]
  refine wp_region_held_drew (S := (fun w' : World => Below W1.heap.size W1 w')) (by kernel_rfl) (drewB W1) (fun hHeld => ?_)
  generalize W1.drew = y0 at *
  clear x0 x1 x2
  refine wpAnyH_take (i := 0) (v := ?_) rfl (by kernel_rfl) (by kernel_rfl) (by kernel_rfl) (fun c a w h => h) (Or.inl ⟨by rfl, ?_⟩) hHeld ?_
  rotate_left
  ·(intro w hSw; obtain ⟨x0, x1, x2⟩ := HX.out w hSw; go_simp; try with_reducible rfl)
  simp only [Act.put, List.getElem_toArray, List.getElem_cons_zero, List.getElem_cons_succ, List.setIfInBounds_toArray, List.set_cons_zero, List.set_cons_succ]
  refine wpAnyH_take (i := 1) (v := ?_) rfl (by kernel_rfl) (by kernel_rfl) (by kernel_rfl) (fun c a w h => h) (Or.inl ⟨by rfl, ?_⟩) hHeld ?_
  rotate_left
  ·(intro w hSw; obtain ⟨x0, x1, x2⟩ := HX.out w hSw; go_simp; try with_reducible rfl)
  simp only [Act.put, List.getElem_toArray, List.getElem_cons_zero, List.getElem_cons_succ, List.setIfInBounds_toArray, List.set_cons_zero, List.set_cons_succ]
  refine wpAnyH_take (i := 4) (v := ?_) rfl (by kernel_rfl) (by kernel_rfl) (by kernel_rfl) (fun c a w h => h) (Or.inl ⟨by rfl, ?_⟩) hHeld ?_
  rotate_left
  ·(intro w hSw; obtain ⟨x0, x1, x2⟩ := HX.out w hSw; go_simp; try with_reducible rfl)
  simp only [Act.put, List.getElem_toArray, List.getElem_cons_zero, List.getElem_cons_succ, List.setIfInBounds_toArray, List.set_cons_zero, List.set_cons_succ]
  refine wpAnyH_take (i := 5) (v := ?_) rfl (by kernel_rfl) (by kernel_rfl) (by kernel_rfl) (fun c a w h => h) (Or.inl ⟨by rfl, ?_⟩) hHeld ?_
  rotate_left
  ·(intro w hSw; obtain ⟨x0, x1, x2⟩ := HX.out w hSw; go_simp; try with_reducible rfl)
  simp only [Act.put, List.getElem_toArray, List.getElem_cons_zero, List.getElem_cons_succ, List.setIfInBounds_toArray, List.set_cons_zero, List.set_cons_succ]
  refine wpAnyH_take (i := 6) (v := ?_) rfl (by kernel_rfl) (by kernel_rfl) (by kernel_rfl) (fun c a w h => h) (Or.inl ⟨by rfl, ?_⟩) hHeld ?_
  rotate_left
  ·(intro w hSw; obtain ⟨x0, x1, x2⟩ := HX.out w hSw; go_simp; try with_reducible rfl)
  simp only [Act.put, List.getElem_toArray, List.getElem_cons_zero, List.getElem_cons_succ, List.setIfInBounds_toArray, List.set_cons_zero, List.set_cons_succ]
  refine wpAnyH_take (i := 7) (v := ?_) rfl (by kernel_rfl) (by kernel_rfl) (by kernel_rfl) (fun c a w h => h) (Or.inl ⟨by rfl, ?_⟩) hHeld ?_
  rotate_left
  ·(intro w hSw; obtain ⟨x0, x1, x2⟩ := HX.out w hSw; go_simp; try with_reducible rfl)
  simp only [Act.put, List.getElem_toArray, List.getElem_cons_zero, List.getElem_cons_succ, List.setIfInBounds_toArray, List.set_cons_zero, List.set_cons_succ]
  refine wpAnyH_ready (rs := [2]) (by kernel_rfl) (by simp) ?_
  refine AllReadyH.cons rfl (fun K hK => ?_) AllReadyH.nil
  go_simp
  refine (HSP.out.node y0 (HKB.out.trans (Below.mono hHeld HKB.out.size))).mono ?_
  rintro e' y1 ⟨rfl, hb2⟩
  have hs1 : Below W1.heap.size W1 y1 := Below.trans hHeld (hb2.mono hHeld.size)
  refine hK.out _ _ hs1 (fun hHeld => ?_)
  clear hK K
  try simp only [Act.put, List.getElem_toArray, List.getElem_cons_zero, List.getElem_cons_succ, List.setIfInBounds_toArray, List.set_cons_zero, List.set_cons_succ]
  clear hb2
  refine wpAnyH_take (i := 3) (v := ?_) rfl (by kernel_rfl) (by kernel_rfl) (by kernel_rfl) (fun c a w h => h) (Or.inl ⟨by rfl, ?_⟩) hHeld ?_
  rotate_left
  ·(intro w hSw; obtain ⟨x0, x1, x2⟩ := HX.out w hSw; go_simp; try with_reducible rfl)
  simp only [Act.put, List.getElem_toArray, List.getElem_cons_zero, List.getElem_cons_succ, List.setIfInBounds_toArray, List.set_cons_zero, List.set_cons_succ]
  refine wpAnyH_ready (rs := [8]) (by kernel_rfl) (by simp) ?_
  refine AllReadyH.cons rfl (fun K hK => ?_) AllReadyH.nil
  go_simp
  refine (HSP.out.firstO y1 (HKB.out.trans (Below.mono hHeld HKB.out.size)) (ty 5) _ _ (HSP.out.place 5 (by decide))).mono ?_
  rintro e' y2 ⟨v, rfl, hv, hb2⟩
  have hs2 : Below W1.heap.size W1 y2 := Below.trans hHeld (hb2.mono hHeld.size)
  refine hK.out _ _ hs2 (fun hHeld => ?_)
  clear hK K
  try simp only [Act.put, List.getElem_toArray, List.getElem_cons_zero, List.getElem_cons_succ, List.setIfInBounds_toArray, List.set_cons_zero, List.set_cons_succ]
  clear hb2
  refine wpAnyH_ready (rs := [9]) (by kernel_rfl) (by simp) ?_
  refine AllReadyH.cons rfl (fun K hK => ?_) AllReadyH.nil
  go_simp
  refine hK.out _ _ hs2 (fun hHeld => ?_)
  clear hK K
  try simp only [Act.put, List.getElem_toArray, List.getElem_cons_zero, List.getElem_cons_succ, List.setIfInBounds_toArray, List.set_cons_zero, List.set_cons_succ]
  refine wpAnyH_done (by kernel_rfl) ?_ _
  have HV := hid (And.intro hv (HB1.out.trans (Below.mono hHeld HB1.out.size)))
  clear hv hHeld hs1 hs2
  go_wp2
  go_ret
  exact ⟨v, rfl, HV.out⟩
theorem on_6 (h : Sp W O l i x r e b o c wq tp op tc oc t bx) (W' : World) (k : Below W.heap.size W W') (ld : Bool) :
  Calls Tryz.prog 196 #[.agg #[.slice (some ⟨b, o, none⟩) l.length c, .int .i64 (i : Int), .iface t bx], .bool ld] W' fun e' w' => ∃ v, e' = .returned v /\ PV W O (onf ⟨6, l, i⟩ r ld) e v /\ Below W'.heap.size W' w' := by
 obtain ⟨W1, hW1, hb1, u1, hx3⟩ := box3 W' (.slice (some ⟨b, o, none⟩) l.length c) (.int .i64 (i : Int)) (.iface t bx) 196
 obtain ⟨x0, x1, x2⟩ := hx3 W1 (Below.refl _ _)
 have HX := hid hx3
 have HW1 := hid hW1
 have HB1 := hid hb1
 have HK := hid k
 have HFX := hid (h.fx 6)
 have hg : onf ⟨6, l, i⟩ r ld = bgn x.th 0 (⟨7, l, i⟩ :: r) := by unfold onf; simp only [HFX.out]
 rw [hg]
 have HSP := hid h
 have HKB := hid (k.trans (hb1.mono k.size))
 have hf := field_th (b8 := x.has) (z0 := x.op) (z1 := x.v) (z3 := x.p.1) (z4 := x.p.2) (z5 := x.k) (wq := wq) (p6 := tp) (p7 := op) (n6 := x.th.length) (q6 := tc) (n7 := x.ot.length) (q7 := oc)
 clear u1 hx3 hW1 hb1 h k hg HFX HK
 go_enter Tryz.func196, Tryz.ntmps196
 go_upto_region 1 with fail
 rw [HW1.out]
 refine wp_region_held_drew (S := (fun w' : World => Below W1.heap.size W1 w')) (by kernel_rfl) (drewB W1) (fun hHeld => ?_)
 generalize W1.drew = y0 at *
 clear x0 x1 x2
 refine wpAnyH_take (i := 0) (v := ?_) rfl (by kernel_rfl) (by kernel_rfl) (by kernel_rfl) (fun c a w h => h) (Or.inl ⟨by rfl, ?_⟩) hHeld ?_
 rotate_left
 ·(intro w hSw; obtain ⟨x0, x1, x2⟩ := HX.out w hSw; go_simp; try with_reducible rfl)
 simp only [Act.put, List.getElem_toArray, List.getElem_cons_zero, List.getElem_cons_succ, List.setIfInBounds_toArray, List.set_cons_zero, List.set_cons_succ]
 refine wpAnyH_take (i := 1) (v := ?_) rfl (by kernel_rfl) (by kernel_rfl) (by kernel_rfl) (fun c a w h => h) (Or.inl ⟨by rfl, ?_⟩) hHeld ?_
 rotate_left
 ·(intro w hSw; obtain ⟨x0, x1, x2⟩ := HX.out w hSw; go_simp; try with_reducible rfl)
 simp only [Act.put, List.getElem_toArray, List.getElem_cons_zero, List.getElem_cons_succ, List.setIfInBounds_toArray, List.set_cons_zero, List.set_cons_succ]
 refine wpAnyH_take (i := 4) (v := ?_) rfl (by kernel_rfl) (by kernel_rfl) (by kernel_rfl) (fun c a w h => h) (Or.inl ⟨by rfl, ?_⟩) hHeld ?_
 rotate_left
 ·(intro w hSw; obtain ⟨x0, x1, x2⟩ := HX.out w hSw; go_simp; try with_reducible rfl)
 simp only [Act.put, List.getElem_toArray, List.getElem_cons_zero, List.getElem_cons_succ, List.setIfInBounds_toArray, List.set_cons_zero, List.set_cons_succ]
 refine wpAnyH_take (i := 5) (v := ?_) rfl (by kernel_rfl) (by kernel_rfl) (by kernel_rfl) (fun c a w h => h) (Or.inl ⟨by rfl, ?_⟩) hHeld ?_
 rotate_left
 ·(intro w hSw; obtain ⟨x0, x1, x2⟩ := HX.out w hSw; go_simp; try with_reducible rfl)
 simp only [Act.put, List.getElem_toArray, List.getElem_cons_zero, List.getElem_cons_succ, List.setIfInBounds_toArray, List.set_cons_zero, List.set_cons_succ]
 refine wpAnyH_take (i := 6) (v := ?_) rfl (by kernel_rfl) (by kernel_rfl) (by kernel_rfl) (fun c a w h => h) (Or.inl ⟨by rfl, ?_⟩) hHeld ?_
 rotate_left
 ·(intro w hSw; obtain ⟨x0, x1, x2⟩ := HX.out w hSw; go_simp; try with_reducible rfl)
 simp only [Act.put, List.getElem_toArray, List.getElem_cons_zero, List.getElem_cons_succ, List.setIfInBounds_toArray, List.set_cons_zero, List.set_cons_succ]
 refine wpAnyH_take (i := 7) (v := ?_) rfl (by kernel_rfl) (by kernel_rfl) (by kernel_rfl) (fun c a w h => h) (Or.inl ⟨by rfl, ?_⟩) hHeld ?_
 rotate_left
 ·(intro w hSw; obtain ⟨x0, x1, x2⟩ := HX.out w hSw; go_simp; try with_reducible rfl)
 simp only [Act.put, List.getElem_toArray, List.getElem_cons_zero, List.getElem_cons_succ, List.setIfInBounds_toArray, List.set_cons_zero, List.set_cons_succ]
 refine wpAnyH_ready (rs := [2]) (by kernel_rfl) (by simp) ?_
 refine AllReadyH.cons rfl (fun K hK => ?_) AllReadyH.nil
 go_simp
 refine (HSP.out.node y0 (HKB.out.trans (Below.mono hHeld HKB.out.size))).mono ?_
 rintro e' y1 ⟨rfl, hb2⟩
 have hs1 : Below W1.heap.size W1 y1 := Below.trans hHeld (hb2.mono hHeld.size)
 refine hK.out _ _ hs1 (fun hHeld => ?_)
 clear hK K
 try simp only [Act.put, List.getElem_toArray, List.getElem_cons_zero, List.getElem_cons_succ, List.setIfInBounds_toArray, List.set_cons_zero, List.set_cons_succ]
 clear hb2
 refine wpAnyH_take (i := 3) (v := ?_) rfl (by kernel_rfl) (by kernel_rfl) (by kernel_rfl) (fun c a w h => h) (Or.inl ⟨by rfl, ?_⟩) hHeld ?_
 rotate_left
 ·(intro w hSw; obtain ⟨x0, x1, x2⟩ := HX.out w hSw; go_simp; try with_reducible rfl)
 simp only [Act.put, List.getElem_toArray, List.getElem_cons_zero, List.getElem_cons_succ, List.setIfInBounds_toArray, List.set_cons_zero, List.set_cons_succ]
 refine wpAnyH_ready (rs := [8]) (by kernel_rfl) (by simp) ?_
 refine AllReadyH.cons rfl (fun K hK => ?_) AllReadyH.nil
 go_simp
 refine (HSP.out.firstT y1 (HKB.out.trans (Below.mono hHeld HKB.out.size)) (ty 7) _ _ (HSP.out.place 7 (by decide))).mono ?_
 rintro e' y2 ⟨v, rfl, hv, hb2⟩
 have hs2 : Below W1.heap.size W1 y2 := Below.trans hHeld (hb2.mono hHeld.size)
 refine hK.out _ _ hs2 (fun hHeld => ?_)
 clear hK K
 try simp only [Act.put, List.getElem_toArray, List.getElem_cons_zero, List.getElem_cons_succ, List.setIfInBounds_toArray, List.set_cons_zero, List.set_cons_succ]
 clear hb2
 refine wpAnyH_ready (rs := [9]) (by kernel_rfl) (by simp) ?_
 refine AllReadyH.cons rfl (fun K hK => ?_) AllReadyH.nil
 go_simp
 refine hK.out _ _ hs2 (fun hHeld => ?_)
 clear hK K
 try simp only [Act.put, List.getElem_toArray, List.getElem_cons_zero, List.getElem_cons_succ, List.setIfInBounds_toArray, List.set_cons_zero, List.set_cons_succ]
 refine wpAnyH_done (by kernel_rfl) ?_ _
 have HV := hid (And.intro hv (HB1.out.trans (Below.mono hHeld HB1.out.size)))
 clear hv hHeld hs1 hs2
 go_wp2
 go_ret
 exact ⟨v, rfl, HV.out⟩
theorem on_7 (h : Sp W O l i x r e b o c wq tp op tc oc t bx) (W' : World) (k : Below W.heap.size W W') (ld : Bool) :
  Calls Tryz.prog 204 #[.agg #[.slice (some ⟨b, o, none⟩) l.length c, .int .i64 (i : Int), .iface t bx], .bool ld] W' fun e' w' => ∃ v, e' = .returned v /\ PV W O (onf ⟨7, l, i⟩ r ld) e v /\ Below W'.heap.size W' w' := by
 obtain ⟨W1, hW1, hb1, u1, hx3⟩ := box3 W' (.slice (some ⟨b, o, none⟩) l.length c) (.int .i64 (i : Int)) (.iface t bx) 270
 obtain ⟨x0, x1, x2⟩ := hx3 W1 (Below.refl _ _)
 have HX := hid hx3
 have HW1 := hid hW1
 have HB1 := hid hb1
 have HK := hid k
 have HFX := hid (h.fx 7)
 cases ld with
 | true =>
  have hg : onf ⟨7, l, i⟩ r true = bgn x.th 0 (⟨7, l, i⟩ :: r) := by unfold onf; simp only [HFX.out]; rfl
  rw [hg]
  have HSP := hid h
  have HKB := hid (k.trans (hb1.mono k.size))
  have hf := field_th (b8 := x.has) (z0 := x.op) (z1 := x.v) (z3 := x.p.1) (z4 := x.p.2) (z5 := x.k) (wq := wq) (p6 := tp) (p7 := op) (n6 := x.th.length) (q6 := tc) (n7 := x.ot.length) (q7 := oc)
  clear u1 hx3 hW1 hb1 h k hg HFX HK
  go_enter Tryz.func204, Tryz.ntmps204
  go_upto_region 2 with fail
  rw [HW1.out]
  refine wp_region_held_drew (S := (fun w' : World => Below W1.heap.size W1 w')) (by kernel_rfl) (drewB W1) (fun hHeld => ?_)
  generalize W1.drew = y0 at *
  clear x0 x1 x2
  refine wpAnyH_take (i := 0) (v := ?_) rfl (by kernel_rfl) (by kernel_rfl) (by kernel_rfl) (fun c a w h => h) (Or.inl ⟨by rfl, ?_⟩) hHeld ?_
  rotate_left
  ·(intro w hSw; obtain ⟨x0, x1, x2⟩ := HX.out w hSw; go_simp; try with_reducible rfl)
  simp only [Act.put, List.getElem_toArray, List.getElem_cons_zero, List.getElem_cons_succ, List.setIfInBounds_toArray, List.set_cons_zero, List.set_cons_succ]
  refine wpAnyH_take (i := 1) (v := ?_) rfl (by kernel_rfl) (by kernel_rfl) (by kernel_rfl) (fun c a w h => h) (Or.inl ⟨by rfl, ?_⟩) hHeld ?_
  rotate_left
  ·(intro w hSw; obtain ⟨x0, x1, x2⟩ := HX.out w hSw; go_simp; try with_reducible rfl)
  simp only [Act.put, List.getElem_toArray, List.getElem_cons_zero, List.getElem_cons_succ, List.setIfInBounds_toArray, List.set_cons_zero, List.set_cons_succ]
  refine wpAnyH_take (i := 4) (v := ?_) rfl (by kernel_rfl) (by kernel_rfl) (by kernel_rfl) (fun c a w h => h) (Or.inl ⟨by rfl, ?_⟩) hHeld ?_
  rotate_left
  ·(intro w hSw; obtain ⟨x0, x1, x2⟩ := HX.out w hSw; go_simp; try with_reducible rfl)
  simp only [Act.put, List.getElem_toArray, List.getElem_cons_zero, List.getElem_cons_succ, List.setIfInBounds_toArray, List.set_cons_zero, List.set_cons_succ]
  refine wpAnyH_take (i := 5) (v := ?_) rfl (by kernel_rfl) (by kernel_rfl) (by kernel_rfl) (fun c a w h => h) (Or.inl ⟨by rfl, ?_⟩) hHeld ?_
  rotate_left
  ·(intro w hSw; obtain ⟨x0, x1, x2⟩ := HX.out w hSw; go_simp; try with_reducible rfl)
  simp only [Act.put, List.getElem_toArray, List.getElem_cons_zero, List.getElem_cons_succ, List.setIfInBounds_toArray, List.set_cons_zero, List.set_cons_succ]
  refine wpAnyH_ready (rs := [2]) (by kernel_rfl) (by simp) ?_
  refine AllReadyH.cons rfl (fun K hK => ?_) AllReadyH.nil
  go_simp
  refine (HSP.out.node y0 (HKB.out.trans (Below.mono hHeld HKB.out.size))).mono ?_
  rintro e' y1 ⟨rfl, hb2⟩
  have hs1 : Below W1.heap.size W1 y1 := Below.trans hHeld (hb2.mono hHeld.size)
  refine hK.out _ _ hs1 (fun hHeld => ?_)
  clear hK K
  try simp only [Act.put, List.getElem_toArray, List.getElem_cons_zero, List.getElem_cons_succ, List.setIfInBounds_toArray, List.set_cons_zero, List.set_cons_succ]
  clear hb2
  refine wpAnyH_take (i := 3) (v := ?_) rfl (by kernel_rfl) (by kernel_rfl) (by kernel_rfl) (fun c a w h => h) (Or.inl ⟨by rfl, ?_⟩) hHeld ?_
  rotate_left
  ·(intro w hSw; obtain ⟨x0, x1, x2⟩ := HX.out w hSw; go_simp; try with_reducible rfl)
  simp only [Act.put, List.getElem_toArray, List.getElem_cons_zero, List.getElem_cons_succ, List.setIfInBounds_toArray, List.set_cons_zero, List.set_cons_succ]
  refine wpAnyH_ready (rs := [6]) (by kernel_rfl) (by simp) ?_
  refine AllReadyH.cons rfl (fun K hK => ?_) AllReadyH.nil
  go_simp
  refine (HSP.out.firstT y1 (HKB.out.trans (Below.mono hHeld HKB.out.size)) (ty 7) _ _ (HSP.out.place 7 (by decide))).mono ?_
  rintro e' y2 ⟨v, rfl, hv, hb2⟩
  have hs2 : Below W1.heap.size W1 y2 := Below.trans hHeld (hb2.mono hHeld.size)
  refine hK.out _ _ hs2 (fun hHeld => ?_)
  clear hK K
  try simp only [Act.put, List.getElem_toArray, List.getElem_cons_zero, List.getElem_cons_succ, List.setIfInBounds_toArray, List.set_cons_zero, List.set_cons_succ]
  clear hb2
  refine wpAnyH_ready (rs := [7]) (by kernel_rfl) (by simp) ?_
  refine AllReadyH.cons rfl (fun K hK => ?_) AllReadyH.nil
  go_simp
  refine hK.out _ _ hs2 (fun hHeld => ?_)
  clear hK K
  try simp only [Act.put, List.getElem_toArray, List.getElem_cons_zero, List.getElem_cons_succ, List.setIfInBounds_toArray, List.set_cons_zero, List.set_cons_succ]
  refine wpAnyH_done (by kernel_rfl) ?_ _
  have HV := hid (And.intro hv (HB1.out.trans (Below.mono hHeld HB1.out.size)))
  clear hv hHeld hs1 hs2
  go_wp2
  go_ret
  exact ⟨v, rfl, HV.out⟩
 | false =>
  have hc := h.pastC W1 (k.trans (hb1.mono k.size))
  have hg : onf ⟨7, l, i⟩ r false = bgn l (i + 1) r := rfl
  rw [hg]
  clear u1 hx3 hW1 hb1 h k hg HFX HX HK
  generalize l.length = N at *
  go_enter Tryz.func204, Tryz.ntmps204
  go_upto_region 3 with fail
  rw [HW1.out]
  go_wp2_with fail
  refine hc.mono ?_
  rintro e' w2 ⟨v, rfl, hv, hb2⟩
  have HV := hid (And.intro hv (HB1.out.trans (hb2.mono HB1.out.size)))
  clear hc hv hb2
  go_wp2
  go_ret
  exact ⟨v, rfl, HV.out⟩
end
end Go.Proofs.YtoemoiehjdmheaaGreat.Z
