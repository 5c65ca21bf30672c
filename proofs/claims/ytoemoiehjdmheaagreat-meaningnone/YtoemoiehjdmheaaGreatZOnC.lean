import Derived.Test.YtoemoiehjdmheaaGreatZOn
namespace Go.Proofs.YtoemoiehjdmheaaGreat.Z
open Go.RowKit
open Go.Proofs
open Go.Proofs.YtoemoiehjdmheaaGreat.Y (Nd Df Ps Pl hid ZV)
set_option linter.unusedVariables false
set_option linter.unusedSimpArgs false
set_option maxHeartbeats 4000000
set_option maxRecDepth 100000
section
variable {W : World} {O : Nat -> Prop} {l : List Mn} {i : Nat} {x : Mn} {r : List Fr} {e : Ps} {b o c : Nat} {wq tp op : Option Addr} {tc oc : Nat} {t : TypeId} {bx : Value}
theorem on_1 (h : Sp W O l i x r e b o c wq tp op tc oc t bx) (W' : World) (k : Below W.heap.size W W') (ld : Bool) :
  Calls Tryz.prog 186 #[.agg #[.slice (some ⟨b, o, none⟩) l.length c, .int .i64 (i : Int), .iface t bx], .bool ld] W' fun e' w' => ∃ v, e' = .returned v /\ PV W O (onf ⟨1, l, i⟩ r ld) e v /\ Below W'.heap.size W' w' := by
 obtain ⟨W1, hW1, hb1, u1, hx3⟩ := box3 W' (.slice (some ⟨b, o, none⟩) l.length c) (.int .i64 (i : Int)) (.iface t bx) 192
 obtain ⟨x0, x1, x2⟩ := hx3 W1 (Below.refl _ _)
 have HX := hid hx3
 have HW1 := hid hW1
 have HB1 := hid hb1
 have HK := hid k
 have HFX := hid (h.fx 1)
 have hn := h.node W1 (k.trans (hb1.mono k.size))
 have HSP := hid h
 have HKB := hid (k.trans (hb1.mono k.size))
 have hxx : x.has = true \/ x.has = false := by cases x.has <;> simp
 clear u1 hx3 hW1 hb1 h k HK
 rcases hxx with hh | hh
 ·cases ld with
  | true =>
   have hg : onf ⟨1, l, i⟩ r true = bgn x.ot 0 (bgn l (i + 1) r) := by unfold onf; simp [HFX.out, hh]
   rw [hg]
   clear hg HFX
   go_enter Tryz.func186, Tryz.ntmps186
   go_upto_region 1 with fail
   rw [HW1.out]
   go_wp2_with fail
   refine hn.mono ?_
   rintro e' w2 ⟨rfl, hb2⟩
   obtain ⟨W3, hW3, hb3, u3, hy⟩ := box9 w2 (.int .i64 x.op) (.int .u16 x.v) (.pointer wq) (.int .i64 x.p.1) (.int .i64 x.p.2) (.int .i64 x.k) (.slice tp x.th.length tc) (.slice op x.ot.length oc) (.bool x.has) 173
   obtain ⟨y5, y6, y7, y8⟩ := hy W3 (Below.refl _ _)
   rw [hh] at y8
   have hb13 := hb2.trans (hb3.mono hb2.size)
   obtain ⟨x0, x1, x2⟩ := HX.out W3 hb13
   have HY := hid hy
   have HW3 := hid hW3
   have HK3 := hid (HKB.out.trans (hb13.mono HKB.out.size))
   have HB3 := hid (HB1.out.trans (hb13.mono HB1.out.size))
   have HX3 := hid hb13
   clear hn hb2 hb3 u3 hW3 hy hb13
   rw [hh] at HW3
   go_upto_region 7 with fail
   rw [HW3.out]
   refine wp_region_held_drew (S := (fun w' : World => Below W3.heap.size W3 w')) (by kernel_rfl) (drewB W3) (fun hHeld => ?_)
   generalize W3.drew = y0 at *
   clear x0 x1 x2 y5 y6 y7 y8
   refine wpAnyH_take (i := 0) (v := ?_) rfl (by kernel_rfl) (by kernel_rfl) (by kernel_rfl) (fun c a w h => h) (Or.inl ⟨by rfl, ?_⟩) hHeld ?_
   rotate_left
   ·(intro w hSw; obtain ⟨x0, x1, x2⟩ := HX.out w (HX3.out.trans (Below.mono hSw HX3.out.size)); obtain ⟨y5, y6, y7, y8⟩ := HY.out w hSw; go_simp; try with_reducible rfl)
   simp only [Act.put, List.getElem_toArray, List.getElem_cons_zero, List.getElem_cons_succ, List.setIfInBounds_toArray, List.set_cons_zero, List.set_cons_succ]
   refine wpAnyH_take (i := 1) (v := ?_) rfl (by kernel_rfl) (by kernel_rfl) (by kernel_rfl) (fun c a w h => h) (Or.inl ⟨by rfl, ?_⟩) hHeld ?_
   rotate_left
   ·(intro w hSw; obtain ⟨x0, x1, x2⟩ := HX.out w (HX3.out.trans (Below.mono hSw HX3.out.size)); obtain ⟨y5, y6, y7, y8⟩ := HY.out w hSw; go_simp; try with_reducible rfl)
   simp only [Act.put, List.getElem_toArray, List.getElem_cons_zero, List.getElem_cons_succ, List.setIfInBounds_toArray, List.set_cons_zero, List.set_cons_succ]
   refine wpAnyH_take (i := 2) (v := ?_) rfl (by kernel_rfl) (by kernel_rfl) (by kernel_rfl) (fun c a w h => h) (Or.inl ⟨by rfl, ?_⟩) hHeld ?_
   rotate_left
   ·(intro w hSw; obtain ⟨x0, x1, x2⟩ := HX.out w (HX3.out.trans (Below.mono hSw HX3.out.size)); obtain ⟨y5, y6, y7, y8⟩ := HY.out w hSw; go_simp; try with_reducible rfl)
   simp only [Act.put, List.getElem_toArray, List.getElem_cons_zero, List.getElem_cons_succ, List.setIfInBounds_toArray, List.set_cons_zero, List.set_cons_succ]
   refine wpAnyH_take (i := 3) (v := ?_) rfl (by kernel_rfl) (by kernel_rfl) (by kernel_rfl) (fun c a w h => h) (Or.inl ⟨by rfl, ?_⟩) hHeld ?_
   rotate_left
   ·(intro w hSw; obtain ⟨x0, x1, x2⟩ := HX.out w (HX3.out.trans (Below.mono hSw HX3.out.size)); obtain ⟨y5, y6, y7, y8⟩ := HY.out w hSw; go_simp; try with_reducible rfl)
   simp only [Act.put, List.getElem_toArray, List.getElem_cons_zero, List.getElem_cons_succ, List.setIfInBounds_toArray, List.set_cons_zero, List.set_cons_succ]
   refine wpAnyH_ready (rs := [4]) (by kernel_rfl) (by simp) ?_
   refine AllReadyH.cons rfl (fun K hK => ?_) AllReadyH.nil
   go_simp
   refine (HSP.out.pastC y0 (HK3.out.trans (Below.mono hHeld HK3.out.size))).mono ?_
   rintro e' z1 ⟨v1, rfl, hv1, hb2⟩
   obtain ⟨t1, b1, rfl⟩ := PV.isI _ _ _ hv1
   have hs1 : Below W3.heap.size W3 z1 := Below.trans hHeld (hb2.mono hHeld.size)
   refine hK.out _ _ hs1 (fun hHeld => ?_)
   clear hK K
   try simp only [Act.put, List.getElem_toArray, List.getElem_cons_zero, List.getElem_cons_succ, List.setIfInBounds_toArray, List.set_cons_zero, List.set_cons_succ]
   clear hb2
   refine wpAnyH_ready (rs := [5]) (by kernel_rfl) (by simp) ?_
   refine AllReadyH.cons rfl (fun K hK => ?_) AllReadyH.nil
   go_simp
   refine (HSP.out.firstO z1 (HK3.out.trans (Below.mono hHeld HK3.out.size)) t1 b1 _ hv1).mono ?_
   rintro e' z2 ⟨v, rfl, hv, hb2⟩
   have hs2 : Below W3.heap.size W3 z2 := Below.trans hHeld (hb2.mono hHeld.size)
   refine hK.out _ _ hs2 (fun hHeld => ?_)
   clear hK K
   try simp only [Act.put, List.getElem_toArray, List.getElem_cons_zero, List.getElem_cons_succ, List.setIfInBounds_toArray, List.set_cons_zero, List.set_cons_succ]
   clear hb2
   refine wpAnyH_ready (rs := [6]) (by kernel_rfl) (by simp) ?_
   refine AllReadyH.cons rfl (fun K hK => ?_) AllReadyH.nil
   go_simp
   refine hK.out _ _ hs2 (fun hHeld => ?_)
   clear hK K
   try simp only [Act.put, List.getElem_toArray, List.getElem_cons_zero, List.getElem_cons_succ, List.setIfInBounds_toArray, List.set_cons_zero, List.set_cons_succ]
   refine wpAnyH_done (by kernel_rfl) ?_ _
   have HV := hid (And.intro hv (HB3.out.trans (Below.mono hHeld HB3.out.size)))
   clear hv hHeld hs1 hs2 hv1
   go_wp2
   go_ret
   exact ⟨v, rfl, HV.out⟩
  | false =>
   have hg : onf ⟨1, l, i⟩ r false = bgn x.th 0 (⟨2, l, i⟩ :: r) := by unfold onf; simp [HFX.out, hh]
   rw [hg]
   clear hg HFX
   go_enter Tryz.func186, Tryz.ntmps186
   go_upto_region 1 with fail
   rw [HW1.out]
   go_wp2_with fail
   refine hn.mono ?_
   rintro e' w2 ⟨rfl, hb2⟩
   obtain ⟨W3, hW3, hb3, u3, hy⟩ := box9 w2 (.int .i64 x.op) (.int .u16 x.v) (.pointer wq) (.int .i64 x.p.1) (.int .i64 x.p.2) (.int .i64 x.k) (.slice tp x.th.length tc) (.slice op x.ot.length oc) (.bool x.has) 173
   obtain ⟨y5, y6, y7, y8⟩ := hy W3 (Below.refl _ _)
   rw [hh] at y8
   have hb13 := hb2.trans (hb3.mono hb2.size)
   obtain ⟨x0, x1, x2⟩ := HX.out W3 hb13
   have HY := hid hy
   have HW3 := hid hW3
   have HK3 := hid (HKB.out.trans (hb13.mono HKB.out.size))
   have HB3 := hid (HB1.out.trans (hb13.mono HB1.out.size))
   have HX3 := hid hb13
   clear hn hb2 hb3 u3 hW3 hy hb13
   rw [hh] at HW3
   go_upto_region 8 with fail
   rw [HW3.out]
   go_wp2_with fail
   refine (HSP.out.firstT W3 HK3.out (ty 2) _ _ (HSP.out.place 2 (by decide))).mono ?_
   rintro e' w4 ⟨v, rfl, hv, hb4⟩
   have HV := hid (And.intro hv (HB3.out.trans (hb4.mono HB3.out.size)))
   clear hv hb4
   go_wp2
   go_ret
   exact ⟨v, rfl, HV.out⟩
 ·cases ld with
  | true =>
   have hg : onf ⟨1, l, i⟩ r true = bgn l (i + 1) r := by unfold onf; simp [HFX.out, hh]
   rw [hg]
   clear hg HFX
   go_enter Tryz.func186, Tryz.ntmps186
   go_upto_region 1 with fail
   rw [HW1.out]
   go_wp2_with fail
   refine hn.mono ?_
   rintro e' w2 ⟨rfl, hb2⟩
   obtain ⟨W3, hW3, hb3, u3, hy⟩ := box9 w2 (.int .i64 x.op) (.int .u16 x.v) (.pointer wq) (.int .i64 x.p.1) (.int .i64 x.p.2) (.int .i64 x.k) (.slice tp x.th.length tc) (.slice op x.ot.length oc) (.bool x.has) 173
   obtain ⟨y5, y6, y7, y8⟩ := hy W3 (Below.refl _ _)
   rw [hh] at y8
   have hb13 := hb2.trans (hb3.mono hb2.size)
   obtain ⟨x0, x1, x2⟩ := HX.out W3 hb13
   have HY := hid hy
   have HW3 := hid hW3
   have HK3 := hid (HKB.out.trans (hb13.mono HKB.out.size))
   have HB3 := hid (HB1.out.trans (hb13.mono HB1.out.size))
   have HX3 := hid hb13
   clear hn hb2 hb3 u3 hW3 hy hb13
   rw [hh] at HW3
   go_upto_region 3 with fail
   rw [HW3.out]
   go_wp2_with fail
   refine (HSP.out.pastC W3 HK3.out).mono ?_
   rintro e' w4 ⟨v, rfl, hv, hb4⟩
   have HV := hid (And.intro hv (HB3.out.trans (hb4.mono HB3.out.size)))
   clear hv hb4
   go_wp2
   go_ret
   exact ⟨v, rfl, HV.out⟩
  | false =>
   have hg : onf ⟨1, l, i⟩ r false = bgn x.th 0 (bgn l (i + 1) r) := by unfold onf; simp [HFX.out, hh]
   rw [hg]
   clear hg HFX
   go_enter Tryz.func186, Tryz.ntmps186
   go_upto_region 1 with fail
   rw [HW1.out]
   go_wp2_with fail
   refine hn.mono ?_
   rintro e' w2 ⟨rfl, hb2⟩
   obtain ⟨W3, hW3, hb3, u3, hy⟩ := box9 w2 (.int .i64 x.op) (.int .u16 x.v) (.pointer wq) (.int .i64 x.p.1) (.int .i64 x.p.2) (.int .i64 x.k) (.slice tp x.th.length tc) (.slice op x.ot.length oc) (.bool x.has) 173
   obtain ⟨y5, y6, y7, y8⟩ := hy W3 (Below.refl _ _)
   rw [hh] at y8
   have hb13 := hb2.trans (hb3.mono hb2.size)
   obtain ⟨x0, x1, x2⟩ := HX.out W3 hb13
   have HY := hid hy
   have HW3 := hid hW3
   have HK3 := hid (HKB.out.trans (hb13.mono HKB.out.size))
   have HB3 := hid (HB1.out.trans (hb13.mono HB1.out.size))
   have HX3 := hid hb13
   clear hn hb2 hb3 u3 hW3 hy hb13
   rw [hh] at HW3
   go_upto_region 5 with fail
   rw [HW3.out]
   refine wp_region_held_drew (S := (fun w' : World => Below W3.heap.size W3 w')) (by kernel_rfl) (drewB W3) (fun hHeld => ?_)
   generalize W3.drew = y0 at *
   clear x0 x1 x2 y5 y6 y7 y8
   refine wpAnyH_take (i := 0) (v := ?_) rfl (by kernel_rfl) (by kernel_rfl) (by kernel_rfl) (fun c a w h => h) (Or.inl ⟨by rfl, ?_⟩) hHeld ?_
   rotate_left
   ·(intro w hSw; obtain ⟨x0, x1, x2⟩ := HX.out w (HX3.out.trans (Below.mono hSw HX3.out.size)); obtain ⟨y5, y6, y7, y8⟩ := HY.out w hSw; go_simp; try with_reducible rfl)
   simp only [Act.put, List.getElem_toArray, List.getElem_cons_zero, List.getElem_cons_succ, List.setIfInBounds_toArray, List.set_cons_zero, List.set_cons_succ]
   refine wpAnyH_take (i := 1) (v := ?_) rfl (by kernel_rfl) (by kernel_rfl) (by kernel_rfl) (fun c a w h => h) (Or.inl ⟨by rfl, ?_⟩) hHeld ?_
   rotate_left
   ·(intro w hSw; obtain ⟨x0, x1, x2⟩ := HX.out w (HX3.out.trans (Below.mono hSw HX3.out.size)); obtain ⟨y5, y6, y7, y8⟩ := HY.out w hSw; go_simp; try with_reducible rfl)
   simp only [Act.put, List.getElem_toArray, List.getElem_cons_zero, List.getElem_cons_succ, List.setIfInBounds_toArray, List.set_cons_zero, List.set_cons_succ]
   refine wpAnyH_take (i := 2) (v := ?_) rfl (by kernel_rfl) (by kernel_rfl) (by kernel_rfl) (fun c a w h => h) (Or.inl ⟨by rfl, ?_⟩) hHeld ?_
   rotate_left
   ·(intro w hSw; obtain ⟨x0, x1, x2⟩ := HX.out w (HX3.out.trans (Below.mono hSw HX3.out.size)); obtain ⟨y5, y6, y7, y8⟩ := HY.out w hSw; go_simp; try with_reducible rfl)
   simp only [Act.put, List.getElem_toArray, List.getElem_cons_zero, List.getElem_cons_succ, List.setIfInBounds_toArray, List.set_cons_zero, List.set_cons_succ]
   refine wpAnyH_take (i := 3) (v := ?_) rfl (by kernel_rfl) (by kernel_rfl) (by kernel_rfl) (fun c a w h => h) (Or.inl ⟨by rfl, ?_⟩) hHeld ?_
   rotate_left
   ·(intro w hSw; obtain ⟨x0, x1, x2⟩ := HX.out w (HX3.out.trans (Below.mono hSw HX3.out.size)); obtain ⟨y5, y6, y7, y8⟩ := HY.out w hSw; go_simp; try with_reducible rfl)
   simp only [Act.put, List.getElem_toArray, List.getElem_cons_zero, List.getElem_cons_succ, List.setIfInBounds_toArray, List.set_cons_zero, List.set_cons_succ]
   refine wpAnyH_ready (rs := [4]) (by kernel_rfl) (by simp) ?_
   refine AllReadyH.cons rfl (fun K hK => ?_) AllReadyH.nil
   go_simp
   refine (HSP.out.pastC y0 (HK3.out.trans (Below.mono hHeld HK3.out.size))).mono ?_
   rintro e' z1 ⟨v1, rfl, hv1, hb2⟩
   obtain ⟨t1, b1, rfl⟩ := PV.isI _ _ _ hv1
   have hs1 : Below W3.heap.size W3 z1 := Below.trans hHeld (hb2.mono hHeld.size)
   refine hK.out _ _ hs1 (fun hHeld => ?_)
   clear hK K
   try simp only [Act.put, List.getElem_toArray, List.getElem_cons_zero, List.getElem_cons_succ, List.setIfInBounds_toArray, List.set_cons_zero, List.set_cons_succ]
   clear hb2
   refine wpAnyH_ready (rs := [5]) (by kernel_rfl) (by simp) ?_
   refine AllReadyH.cons rfl (fun K hK => ?_) AllReadyH.nil
   go_simp
   refine (HSP.out.firstT z1 (HK3.out.trans (Below.mono hHeld HK3.out.size)) t1 b1 _ hv1).mono ?_
   rintro e' z2 ⟨v, rfl, hv, hb2⟩
   have hs2 : Below W3.heap.size W3 z2 := Below.trans hHeld (hb2.mono hHeld.size)
   refine hK.out _ _ hs2 (fun hHeld => ?_)
   clear hK K
   try simp only [Act.put, List.getElem_toArray, List.getElem_cons_zero, List.getElem_cons_succ, List.setIfInBounds_toArray, List.set_cons_zero, List.set_cons_succ]
   clear hb2
   refine wpAnyH_ready (rs := [6]) (by kernel_rfl) (by simp) ?_
   refine AllReadyH.cons rfl (fun K hK => ?_) AllReadyH.nil
   go_simp
   refine hK.out _ _ hs2 (fun hHeld => ?_)
   clear hK K
   try simp only [Act.put, List.getElem_toArray, List.getElem_cons_zero, List.getElem_cons_succ, List.setIfInBounds_toArray, List.set_cons_zero, List.set_cons_succ]
   refine wpAnyH_done (by kernel_rfl) ?_ _
   have HV := hid (And.intro hv (HB3.out.trans (Below.mono hHeld HB3.out.size)))
   clear hv hHeld hs1 hs2 hv1
   go_wp2
   go_ret
   exact ⟨v, rfl, HV.out⟩
end
theorem on_end (p : Ps) (W : World) (ld : Bool) : Calls Tryz.prog 184 #[.agg #[.int .i64 p.1, .int .i64 p.2], .bool ld] W fun e w' => e = .returned (.iface 152 (.agg #[.int .i64 p.1, .int .i64 p.2])) /\ Below W.heap.size W w' := by
 go_enter Tryz.func184, Tryz.ntmps184
 go_wp2
 go_ret
 exact ⟨rfl, (Below.refl _ _).alloc (Nat.le_refl _) _⟩
set_option maxHeartbeats 4000000
set_option maxRecDepth 100000
def OnI (s : String) : Prop := (∀ (x y : Value) (W : World), (invoke (.fn (.method s) #[]) #[.iface 197 x, y]).run Tryz.prog W = .ok (.enter 198 #[x, y]) W) /\ (∀ (x y : Value) (W : World), (invoke (.fn (.method s) #[]) #[.iface 192 x, y]).run Tryz.prog W = .ok (.enter 186 #[x, y]) W) /\ (∀ (x y : Value) (W : World), (invoke (.fn (.method s) #[]) #[.iface 269 x, y]).run Tryz.prog W = .ok (.enter 202 #[x, y]) W) /\ (∀ (x y : Value) (W : World), (invoke (.fn (.method s) #[]) #[.iface 193 x, y]).run Tryz.prog W = .ok (.enter 190 #[x, y]) W) /\ (∀ (x y : Value) (W : World), (invoke (.fn (.method s) #[]) #[.iface 194 x, y]).run Tryz.prog W = .ok (.enter 192 #[x, y]) W) /\ (∀ (x y : Value) (W : World), (invoke (.fn (.method s) #[]) #[.iface 195 x, y]).run Tryz.prog W = .ok (.enter 194 #[x, y]) W) /\ (∀ (x y : Value) (W : World), (invoke (.fn (.method s) #[]) #[.iface 196 x, y]).run Tryz.prog W = .ok (.enter 196 #[x, y]) W) /\ (∀ (x y : Value) (W : World), (invoke (.fn (.method s) #[]) #[.iface 270 x, y]).run Tryz.prog W = .ok (.enter 204 #[x, y]) W) /\ (∀ (x y : Value) (W : World), (invoke (.fn (.method s) #[]) #[.iface 152 x, y]).run Tryz.prog W = .ok (.enter 184 #[x, y]) W)
def LkI (s : String) : Prop := (∀ (x : Value) (W : World), (invoke (.fn (.method s) #[]) #[.iface 197 x]).run Tryz.prog W = .ok (.enter 197 #[x]) W) /\ (∀ (x : Value) (W : World), (invoke (.fn (.method s) #[]) #[.iface 192 x]).run Tryz.prog W = .ok (.enter 185 #[x]) W) /\ (∀ (x : Value) (W : World), (invoke (.fn (.method s) #[]) #[.iface 269 x]).run Tryz.prog W = .ok (.enter 201 #[x]) W) /\ (∀ (x : Value) (W : World), (invoke (.fn (.method s) #[]) #[.iface 193 x]).run Tryz.prog W = .ok (.enter 189 #[x]) W) /\ (∀ (x : Value) (W : World), (invoke (.fn (.method s) #[]) #[.iface 194 x]).run Tryz.prog W = .ok (.enter 191 #[x]) W) /\ (∀ (x : Value) (W : World), (invoke (.fn (.method s) #[]) #[.iface 195 x]).run Tryz.prog W = .ok (.enter 193 #[x]) W) /\ (∀ (x : Value) (W : World), (invoke (.fn (.method s) #[]) #[.iface 196 x]).run Tryz.prog W = .ok (.enter 195 #[x]) W) /\ (∀ (x : Value) (W : World), (invoke (.fn (.method s) #[]) #[.iface 270 x]).run Tryz.prog W = .ok (.enter 203 #[x]) W) /\ (∀ (x : Value) (W : World), (invoke (.fn (.method s) #[]) #[.iface 152 x]).run Tryz.prog W = .ok (.enter 183 #[x]) W)
theorem wp_enter {o : Oper} {a : Act} {W' : World} {K : Act -> World -> Prop} {Q : Exit -> Act -> World -> Prop} (f : FuncId) (args : Array Value) (C : Value -> World -> Prop)
  (ht : (execOp a.eval o).run Tryz.prog W' = .ok (.enter f args) W') (hc : Calls Tryz.prog f args W' fun e' w' => ∃ v, e' = .returned v /\ C v w') (h : ∀ v w', C v w' -> K (a.put o.dst v) w') : o.wp Tryz.prog a W' K Q := by
 unfold Oper.wp
 rw [ht, Oper.upon_enter]
 refine hc.mono ?_
 rintro e' w' ⟨v, rfl, hv⟩
 exact h v w' hv
section
variable {W : World} {O : Nat -> Prop}
theorem wp_on {o : Oper} {a : Act} {W' : World} {K : Act -> World -> Prop} {Q : Exit -> Act -> World -> Prop} {rq q : Operand} {s : String} (ho : o.op = .call { callee := .invoke rq s, args := #[q], argTypes := #[4] }) (hs : OnI s) (l : List Fr) (e : Ps) (x : Value) (ld : Bool) (hx : a.eval rq = x) (hl : a.eval q = .bool ld) (hP : PV W O l e x) (hO : ∀ i, O i -> i < W.heap.size) (k : Below W.heap.size W W')
  (h : ∀ v w', (PV W O (on l ld) e v /\ Below W'.heap.size W' w') -> K (a.put o.dst v) w') : o.wp Tryz.prog a W' K Q := by
 have hex : (execOp a.eval o).run Tryz.prog W' = (invoke (.fn (.method s) #[]) #[x, .bool ld]).run Tryz.prog W' := by
  unfold execOp
  simp [ho, resolve, hx, hl]
 cases l with
 | nil =>
  obtain rfl := hP
  refine wp_enter 184 _ _ (hex.trans (hs.2.2.2.2.2.2.2.2 _ _ _)) ((on_end e W' ld).mono ?_) h
  rintro e' w' ⟨rfl, hb⟩
  exact ⟨_, rfl, rfl, hb⟩
 | cons f r =>
  obtain ⟨g, b, n⟩ := f
  obtain ⟨x', bb, oo, c, wq, tp, op, tc, oc, t, bx, rfl, hg, hS⟩ := Sp.of hP hO
  have hcases : g = 0 \/ g = 1 \/ g = 2 \/ g = 3 \/ g = 4 \/ g = 5 \/ g = 6 \/ g = 7 := by omega
  rcases hcases with rfl | rfl | rfl | rfl | rfl | rfl | rfl | rfl
  ·exact wp_enter 198 _ _ (hex.trans (hs.1 _ _ _)) (on_0 hS W' k ld) h
  ·exact wp_enter 186 _ _ (hex.trans (hs.2.1 _ _ _)) (on_1 hS W' k ld) h
  ·exact wp_enter 202 _ _ (hex.trans (hs.2.2.1 _ _ _)) (on_2 hS W' k ld) h
  ·exact wp_enter 190 _ _ (hex.trans (hs.2.2.2.1 _ _ _)) (on_3 hS W' k ld) h
  ·exact wp_enter 192 _ _ (hex.trans (hs.2.2.2.2.1 _ _ _)) (on_4 hS W' k ld) h
  ·exact wp_enter 194 _ _ (hex.trans (hs.2.2.2.2.2.1 _ _ _)) (on_5 hS W' k ld) h
  ·exact wp_enter 196 _ _ (hex.trans (hs.2.2.2.2.2.2.1 _ _ _)) (on_6 hS W' k ld) h
  ·exact wp_enter 204 _ _ (hex.trans (hs.2.2.2.2.2.2.2.1 _ _ _)) (on_7 hS W' k ld) h
def inV (i : In) (wq : Option Addr) : Value := .agg #[.int .i64 i.op, .int .u16 i.v, .pointer wq, .int .i64 i.p.1, .int .i64 i.p.2]
theorem wp_look {o : Oper} {a : Act} {W' : World} {K : Act -> World -> Prop} {Q : Exit -> Act -> World -> Prop} {rq : Operand} {s : String} (ho : o.op = .call { callee := .invoke rq s, args := #[], argTypes := #[] }) (hs : LkI s) (l : List Fr) (e : Ps) (x : Value) (hx : a.eval rq = x) (hP : PV W O l e x) (hO : ∀ i, O i -> i < W.heap.size) (k : Below W.heap.size W W')
  (h : ∀ v w', ((∃ wq, v = inV (lk l e) wq /\ WP W O (.pointer wq) (lk l e).w (lk l e).wp) /\ Below W'.heap.size W' w') -> K (a.put o.dst v) w') : o.wp Tryz.prog a W' K Q := by
 have hex : (execOp a.eval o).run Tryz.prog W' = (invoke (.fn (.method s) #[]) #[x]).run Tryz.prog W' := by
  unfold execOp
  simp [ho, resolve, hx]
 cases l with
 | nil =>
  obtain rfl := hP
  refine wp_enter 183 _ _ (hex.trans (hs.2.2.2.2.2.2.2.2 _ _)) ((look_end e W').mono ?_) h
  rintro e' w' ⟨rfl, hb⟩
  exact ⟨_, rfl, ⟨none, rfl, .inl ⟨rfl, rfl⟩⟩, hb⟩
 | cons f r =>
  obtain ⟨g, b, n⟩ := f
  obtain ⟨x', bb, oo, c, wq, tp, op, tc, oc, t, bx, rfl, hg, hS⟩ := Sp.of hP hO
  have hcases : g = 0 \/ g = 1 \/ g = 2 \/ g = 3 \/ g = 4 \/ g = 5 \/ g = 6 \/ g = 7 := by omega
  have hfx : ∀ g, Fr.x ⟨g, b, n⟩ = x' := fun g => hS.fx g
  rcases hcases with rfl | rfl | rfl | rfl | rfl | rfl | rfl | rfl
  ·refine wp_enter 197 _ _ (hex.trans (hs.1 _ _)) ((look_0 hS W' k).mono ?_) h
   rintro e' w' ⟨rfl, hb⟩
   refine ⟨_, rfl, ⟨wq, ?_, ?_⟩, hb⟩
   ·show _ = inV (lkf ⟨0, b, n⟩) _; unfold lkf inV; simp only [hfx]
   ·show WP W O _ (lkf ⟨0, b, n⟩).w (lkf ⟨0, b, n⟩).wp; unfold lkf; simp only [hfx]; exact hS.hw
  ·refine wp_enter 185 _ _ (hex.trans (hs.2.1 _ _)) ((look_1 hS W' k).mono ?_) h
   rintro e' w' ⟨rfl, hb⟩
   refine ⟨_, rfl, ⟨none, ?_, ?_⟩, hb⟩
   ·show _ = inV (lkf ⟨1, b, n⟩) _; unfold lkf inV; simp only [hfx]
   ·show WP W O _ (lkf ⟨1, b, n⟩).w (lkf ⟨1, b, n⟩).wp; unfold lkf; simp only [hfx]; exact .inl ⟨rfl, rfl⟩
  ·refine wp_enter 201 _ _ (hex.trans (hs.2.2.1 _ _)) ((look_2 hS W' k).mono ?_) h
   rintro e' w' ⟨rfl, hb⟩
   refine ⟨_, rfl, ⟨none, ?_, ?_⟩, hb⟩
   ·show _ = inV (lkf ⟨2, b, n⟩) _; unfold lkf inV; simp only [hfx]
   ·show WP W O _ (lkf ⟨2, b, n⟩).w (lkf ⟨2, b, n⟩).wp; unfold lkf; simp only [hfx]; exact .inl ⟨rfl, rfl⟩
  ·refine wp_enter 189 _ _ (hex.trans (hs.2.2.2.1 _ _)) ((look_3 hS W' k).mono ?_) h
   rintro e' w' ⟨rfl, hb⟩
   refine ⟨_, rfl, ⟨none, ?_, ?_⟩, hb⟩
   ·show _ = inV (lkf ⟨3, b, n⟩) _; unfold lkf inV; simp only [hfx]
   ·show WP W O _ (lkf ⟨3, b, n⟩).w (lkf ⟨3, b, n⟩).wp; unfold lkf; simp only [hfx]; exact .inl ⟨rfl, rfl⟩
  ·refine wp_enter 191 _ _ (hex.trans (hs.2.2.2.2.1 _ _)) ((look_4 hS W' k).mono ?_) h
   rintro e' w' ⟨rfl, hb⟩
   refine ⟨_, rfl, ⟨none, ?_, ?_⟩, hb⟩
   ·show _ = inV (lkf ⟨4, b, n⟩) _; unfold lkf inV; simp only [hfx]
   ·show WP W O _ (lkf ⟨4, b, n⟩).w (lkf ⟨4, b, n⟩).wp; unfold lkf; simp only [hfx]; exact .inl ⟨rfl, rfl⟩
  ·refine wp_enter 193 _ _ (hex.trans (hs.2.2.2.2.2.1 _ _)) ((look_5 hS W' k).mono ?_) h
   rintro e' w' ⟨rfl, hb⟩
   refine ⟨_, rfl, ⟨none, ?_, ?_⟩, hb⟩
   ·show _ = inV (lkf ⟨5, b, n⟩) _; unfold lkf inV; simp only [hfx]
   ·show WP W O _ (lkf ⟨5, b, n⟩).w (lkf ⟨5, b, n⟩).wp; unfold lkf; simp only [hfx]; exact .inl ⟨rfl, rfl⟩
  ·refine wp_enter 195 _ _ (hex.trans (hs.2.2.2.2.2.2.1 _ _)) ((look_6 hS W' k).mono ?_) h
   rintro e' w' ⟨rfl, hb⟩
   refine ⟨_, rfl, ⟨none, ?_, ?_⟩, hb⟩
   ·show _ = inV (lkf ⟨6, b, n⟩) _; unfold lkf inV; simp only [hfx]
   ·show WP W O _ (lkf ⟨6, b, n⟩).w (lkf ⟨6, b, n⟩).wp; unfold lkf; simp only [hfx]; exact .inl ⟨rfl, rfl⟩
  ·refine wp_enter 203 _ _ (hex.trans (hs.2.2.2.2.2.2.2.1 _ _)) ((look_7 hS W' k).mono ?_) h
   rintro e' w' ⟨rfl, hb⟩
   refine ⟨_, rfl, ⟨none, ?_, ?_⟩, hb⟩
   ·show _ = inV (lkf ⟨7, b, n⟩) _; unfold lkf inV; simp only [hfx]
   ·show WP W O _ (lkf ⟨7, b, n⟩).w (lkf ⟨7, b, n⟩).wp; unfold lkf; simp only [hfx]; exact .inl ⟨rfl, rfl⟩
end
set_option maxHeartbeats 1000000
set_option maxRecDepth 100000
def PVs (W : World) (O : Nat -> Prop) : List Pc -> List Value -> Prop
 | [], xs => xs = []
 | p :: r, xs => ∃ x ys, xs = x :: ys /\ PV W O p.fr p.e x /\ PVs W O r ys
theorem PVs.len {W : World} {O : Nat -> Prop} : ∀ {l : List Pc} {xs : List Value}, PVs W O l xs -> xs.length = l.length
 | [], xs, h => by rw [PVs] at h; subst h; rfl
 | p :: r, xs, h => by obtain ⟨x, ys, rfl, _, h2⟩ := h; simp [PVs.len h2]
theorem PVs.kept {W W' : World} {O O' : Nat -> Prop} (k : ∀ i, O i -> W'.heap[i]? = W.heap[i]?) (m : ∀ i, O i -> O' i) : ∀ {l : List Pc} {xs : List Value}, PVs W O l xs -> PVs W' O' l xs
 | [], xs, h => h
 | p :: r, xs, h => by obtain ⟨x, ys, rfl, h1, h2⟩ := h; exact ⟨x, ys, rfl, PV.kept k m _ _ _ h1, PVs.kept k m h2⟩
theorem PVs.app {W : World} {O : Nat -> Prop} : ∀ {l l' : List Pc} {xs ys : List Value}, PVs W O l xs -> PVs W O l' ys -> PVs W O (l ++ l') (xs ++ ys)
 | [], l', xs, ys, h, h' => by rw [PVs] at h; subst h; exact h'
 | p :: r, l', xs, ys, h, h' => by obtain ⟨x, zs, rfl, h1, h2⟩ := h; exact ⟨x, zs ++ ys, rfl, h1, PVs.app h2 h'⟩
theorem PVs.parts {W : World} {O : Nat -> Prop} : ∀ {l l' : List Pc} {xs : List Value}, PVs W O (l ++ l') xs -> ∃ ys zs, xs = ys ++ zs /\ PVs W O l ys /\ PVs W O l' zs
 | [], l', xs, h => ⟨[], xs, rfl, rfl, h⟩
 | p :: r, l', xs, h => by
  obtain ⟨x, us, rfl, h1, h2⟩ := h
  obtain ⟨ys, zs, rfl, h3, h4⟩ := PVs.parts h2
  exact ⟨x :: ys, zs, rfl, ⟨x, ys, rfl, h1, h3⟩, h4⟩
theorem PVs.one {W : World} {O : Nat -> Prop} {p : Pc} {xs : List Value} (h : PVs W O [p] xs) : ∃ x, xs = [x] /\ PV W O p.fr p.e x := by
 obtain ⟨x, ys, rfl, h1, h2⟩ := h
 rw [PVs] at h2; subst h2
 exact ⟨x, rfl, h1⟩
theorem PVs.mk {W : World} {O : Nat -> Prop} {p : Pc} {x : Value} (h : PV W O p.fr p.e x) : PVs W O [p] [x] := ⟨x, [], rfl, h, rfl⟩
def vcells (v : VS) (bd br bm bs c : Nat) : List Value := [.int .i64 v.st, .int .i64 v.fa, .pointer (some ⟨bd, 0, none⟩), .pointer (some ⟨br, 0, none⟩), .pointer (some ⟨bm, 0, none⟩), .slice (some ⟨bs, 0, none⟩) (v.o.length + 1) c]
structure MV (W : World) (g bd br bm bs c : Nat) (F O : Nat -> Prop) (v : VS) : Prop where
 blk : W.heap[g]? = some (.cells (vcells v bd br bm bs c).toArray 76 (0, 0))
 ps : P.PS W bd br bm F v.D v.R v.m
 row : ∃ xs, W.ownsRow 0 86 1 (.slice (some ⟨bs, 0, none⟩) (v.o.length + 1) c) (v.o.length + 1) xs /\ PVs W O (v.o ++ [v.c]) xs
 ol : ∀ k, O k -> k < W.heap.size
 fl : ∀ k, F k -> k < W.heap.size
 ob : ∀ k, O k -> k ≠ g /\ k ≠ bd /\ k ≠ br /\ k ≠ bs /\ ¬ F k
 ne : g ≠ bd /\ g ≠ br /\ g ≠ bs /\ bs ≠ bd /\ bs ≠ br
 fg : ¬ F g
 fs : ¬ F bs
 wf : Wf v
def TV (g bd br bs : Nat) (F : Nat -> Prop) (k : Nat) : Prop := k = g \/ k = bd \/ k = br \/ k = bs \/ F k
structure VD (W W' : World) (g bd br bm bs : Nat) (F O : Nat -> Prop) (v : VS) : Prop where
 s : ∃ bs' c' F', MV W' g bd br bm bs' c' F' O v /\ (∀ i, F' i -> M.gr F W W' i) /\ (bs' = bs \/ W.heap.size <= bs')
 t : S.Tc (TV g bd br bs F) W W'
section
variable {W W1 W' : World} {g bd br bm bs c : Nat} {F O : Nat -> Prop} {v v' : VS}
theorem MV.c0 (h : MV W g bd br bm bs c F O v) : W.cell? ⟨g, 0, none⟩ = some (.int .i64 v.st) := S.cell_of W g 0 _ _ _ h.blk rfl
theorem MV.c1 (h : MV W g bd br bm bs c F O v) : W.cell? ⟨g, 1, none⟩ = some (.int .i64 v.fa) := S.cell_of W g 1 _ _ _ h.blk rfl
theorem MV.c2 (h : MV W g bd br bm bs c F O v) : W.cell? ⟨g, 2, none⟩ = some (.pointer (some ⟨bd, 0, none⟩)) := S.cell_of W g 2 _ _ _ h.blk rfl
theorem MV.c3 (h : MV W g bd br bm bs c F O v) : W.cell? ⟨g, 3, none⟩ = some (.pointer (some ⟨br, 0, none⟩)) := S.cell_of W g 3 _ _ _ h.blk rfl
theorem MV.c4 (h : MV W g bd br bm bs c F O v) : W.cell? ⟨g, 4, none⟩ = some (.pointer (some ⟨bm, 0, none⟩)) := S.cell_of W g 4 _ _ _ h.blk rfl
theorem MV.c5 (h : MV W g bd br bm bs c F O v) : W.cell? ⟨g, 5, none⟩ = some (.slice (some ⟨bs, 0, none⟩) (v.o.length + 1) c) := S.cell_of W g 5 _ _ _ h.blk rfl
theorem MV.lt (h : MV W g bd br bm bs c F O v) : g < W.heap.size := S.lt_of h.blk
theorem MV.lt_d (h : MV W g bd br bm bs c F O v) : bd < W.heap.size := S.lt_of h.ps.d.1
theorem MV.lt_r (h : MV W g bd br bm bs c F O v) : br < W.heap.size := S.lt_of h.ps.r.1
theorem MV.lt_s (h : MV W g bd br bm bs c F O v) : bs < W.heap.size := by obtain ⟨xs, hr, _⟩ := h.row; exact (World.ownsRow.lt hr bs rfl).2
theorem fz (h : MV W g bd br bm bs c F O v) (i : Nat) : W.frozen? ⟨g, i, none⟩ = false := S.frozen_of W g i _ _ h.blk
theorem MV.below (h : MV W g bd br bm bs c F O v) (k : Below W.heap.size W W') : MV W' g bd br bm bs c F O v := by
 obtain ⟨xs, hr, hp⟩ := h.row
 exact { h with blk := (k.block _ h.lt).trans h.blk, ps := h.ps.below k, row := ⟨xs, S.own_kept hr fun i e hi => k.block i hi, hp.kept (fun i hi => k.block i (h.ol i hi)) fun _ h => h⟩, ol := fun i e => Nat.lt_of_lt_of_le (h.ol i e) k.size, fl := fun i e => Nat.lt_of_lt_of_le (h.fl i e) k.size }
theorem MV.vd (h : MV W' g bd br bm bs c F O v) (t : S.Tc (TV g bd br bs F) W W') : VD W W' g bd br bm bs F O v := ⟨⟨bs, c, F, h, fun i hi => .inl hi, .inl rfl⟩, t⟩
theorem MV.same (h : MV W g bd br bm bs c F O v) (k : Below W.heap.size W W') : VD W W' g bd br bm bs F O v :=
 (h.below k).vd ⟨k.os, k.tape, k.output, k.size, fun i hi _ => k.block i hi⟩
theorem MV.goes (h : MV W g bd br bm bs c F O v) {D : List Int} {R : List (Int × Int)} {m : M.MS} (k : P.PD W W' bd br bm F D R m) (hw : Wf { v with D := D, R := R, m := m }) : VD W W' g bd br bm bs F O { v with D := D, R := R, m := m } := by
 obtain ⟨xs, hr, hp⟩ := h.row
 have o1 : ∀ i, i < W.heap.size -> i ≠ bd -> i ≠ br -> ¬ F i -> W'.heap[i]? = W.heap[i]? := fun i hi a b f => k.t.block i hi (by rintro (e | e | e); exact a e; exact b e; exact f e)
 refine ⟨⟨bs, c, M.gr F W W', ⟨(o1 g h.lt h.ne.1 h.ne.2.1 h.fg).trans h.blk, k.s, ⟨xs, S.own_kept hr fun i e hi => ?_, hp.kept (fun i hi => o1 i (h.ol i hi) (h.ob i hi).2.1 (h.ob i hi).2.2.1 (h.ob i hi).2.2.2.2) fun _ h => h⟩, fun i e => Nat.lt_of_lt_of_le (h.ol i e) k.t.size, ?_, fun i e => ⟨(h.ob i e).1, (h.ob i e).2.1, (h.ob i e).2.2.1, (h.ob i e).2.2.2.1, ?_⟩, h.ne, ?_, ?_, hw⟩, fun _ h => h, .inl rfl⟩, ⟨k.t.os, k.t.tape, k.t.output, k.t.size, fun i hi n => k.t.block i hi (by rintro (e | e | e); exact n (.inr (.inl e)); exact n (.inr (.inr (.inl e))); exact n (.inr (.inr (.inr (.inr e)))))⟩⟩
 ·cases e; exact o1 bs hi h.ne.2.2.2.1 h.ne.2.2.2.2 h.fs
 ·rintro i (f | ⟨_, f⟩)
  ·exact Nat.lt_of_lt_of_le (h.fl i f) k.t.size
  ·exact f
 ·rintro (f | ⟨f, _⟩)
  ·exact (h.ob i e).2.2.2.2 f
  ·have := h.ol i e; omega
 ·rintro (f | ⟨f, _⟩)
  ·exact h.fg f
  ·have := h.lt; omega
 ·rintro (f | ⟨f, _⟩)
  ·exact h.fs f
  ·have := h.lt_s; omega
theorem MV.kv (h : MV W g bd br bm bs c F O v) {R' : List (Int × Int)} (t : S.At br W W') (k : S.HasR W' br R') (hr : ∀ q ∈ R', C.C q.2) : VD W W' g bd br bm bs F O { v with R := R' } :=
 h.goes (h.ps.save k t) ⟨h.wf.d, hr, h.wf.c, h.wf.o, k.2⟩
theorem MV.kd (h : MV W g bd br bm bs c F O v) {D' : List Int} (t : S.At bd W W') (k : S.HasD W' bd D') (hd : ∀ x ∈ D', C.C x) : VD W W' g bd br bm bs F O { v with D := D' } :=
 h.goes (h.ps.put k t) ⟨hd, h.wf.r, h.wf.c, h.wf.o, h.wf.l⟩
theorem VD.step {v2 : VS} {bs1 : Nat} {F1 : Nat -> Prop} (t : S.Tc (TV g bd br bs F) W W1) (hF1 : ∀ i, F1 i -> M.gr F W W1 i) (hb1 : bs1 = bs \/ W.heap.size <= bs1) (k : VD W1 W' g bd br bm bs1 F1 O v2) : VD W W' g bd br bm bs F O v2 := by
 obtain ⟨bs2, c2, F2, hM2, hF2, hb2⟩ := k.s
 have hs := t.size
 have ks := k.t.size
 refine ⟨⟨bs2, c2, F2, hM2, fun i hi => ?_, ?_⟩, t.trans k.t (fun i e => e) ?_⟩
 ·rcases hF2 i hi with e | ⟨e, e'⟩
  ·rcases hF1 i e with e | ⟨e, e'⟩
   ·exact .inl e
   ·exact .inr ⟨e, by omega⟩
  ·exact .inr ⟨by omega, e'⟩
 ·rcases hb2 with rfl | e
  ·exact hb1
  ·exact .inr (by omega)
 ·rintro i hi (e | e | e | e | e)
  ·exact .inl e
  ·exact .inr (.inl e)
  ·exact .inr (.inr (.inl e))
  ·rcases hb1 with rfl | e'
   ·exact .inr (.inr (.inr (.inl e)))
   ·omega
  ·rcases hF1 i e with e | ⟨e, _⟩
   ·exact .inr (.inr (.inr (.inr e)))
   ·omega
theorem VD.trans {v1 v2 : VS} (h : VD W W1 g bd br bm bs F O v1) (k : ∀ bs' c' F', MV W1 g bd br bm bs' c' F' O v1 -> (∀ i, F' i -> M.gr F W W1 i) -> (bs' = bs \/ W.heap.size <= bs') -> VD W1 W' g bd br bm bs' F' O v2) : VD W W' g bd br bm bs F O v2 := by
 obtain ⟨bs1, c1, F1, hM1, hF1, hb1⟩ := h.s
 exact VD.step h.t hF1 hb1 (k bs1 c1 F1 hM1 hF1 hb1)
theorem VD.pre (hB : Below W.heap.size W W1) (k : VD W1 W' g bd br bm bs F O v') : VD W W' g bd br bm bs F O v' := by
 obtain ⟨bs2, c2, F2, hM2, hF2, hb2⟩ := k.s
 have hs := hB.size
 refine ⟨⟨bs2, c2, F2, hM2, fun i hi => ?_, ?_⟩, ⟨k.t.os.trans hB.os, k.t.tape.trans hB.tape, k.t.output.trans hB.output, Nat.le_trans hs k.t.size, fun i hi n => (k.t.block i (Nat.lt_of_lt_of_le hi hs) n).trans (hB.block i hi)⟩⟩
 ·rcases hF2 i hi with e | ⟨e, e'⟩
  ·exact .inl e
  ·exact .inr ⟨by omega, e'⟩
 ·rcases hb2 with e | e
  ·exact .inl e
  ·exact .inr (by omega)
theorem VD.post (h : VD W W1 g bd br bm bs F O v') (hB : Below W1.heap.size W1 W') : VD W W' g bd br bm bs F O v' :=
 VD.trans h fun bs' c' F' hM _ _ => hM.same hB
theorem VD.other (h : VD W W' g bd br bm bs F O v') (k : MV W1 g bd br bm bs c F O v) (hs : W1.heap.size <= W.heap.size) (i : Nat) (h1 : W1.heap.size <= i) (h2 : i < W.heap.size) : W'.heap[i]? = W.heap[i]? :=
 h.t.block i h2 (by
  rintro (e | e | e | e | e)
  ·have := k.lt; omega
  ·have := k.lt_d; omega
  ·have := k.lt_r; omega
  ·have := k.lt_s; omega
  ·have := k.fl i e; omega)
theorem MV.setg (h : MV W g bd br bm bs c F O v) (i : Nat) (x : Value) (hc : (vcells v bd br bm bs c).set i x = vcells v' bd br bm bs c) (hD : v'.D = v.D) (hR : v'.R = v.R) (hm : v'.m = v.m) (ho : v'.o = v.o) (hcc : v'.c = v.c) : MV (W.setCell ⟨g, i, none⟩ x) g bd br bm bs c F O v' := by
 have o : ∀ k, k ≠ g -> (W.setCell ⟨g, i, none⟩ x).heap[k]? = W.heap[k]? := fun k hk => S.setCell_other W g i k x hk
 obtain ⟨xs, hr, hp⟩ := h.row
 refine ⟨by rw [S.setCell_heap W g i _ _ x h.blk, hc], ?_, ⟨xs, by rw [ho]; exact S.own_kept hr fun k e _ => o k (by cases e; exact fun e => h.ne.2.2.1 e.symm), by rw [ho, hcc]; exact hp.kept (fun k hk => o k (h.ob k hk).1) fun _ h => h⟩, fun k e => by rw [S.setCell_size]; exact h.ol k e, fun k e => by rw [S.setCell_size]; exact h.fl k e, h.ob, h.ne, h.fg, h.fs, ⟨by rw [hD]; exact h.wf.d, by rw [hR]; exact h.wf.r, by rw [hcc]; exact h.wf.c, by rw [ho]; exact h.wf.o, by rw [hR]; exact h.wf.l⟩⟩
 rw [hD, hR, hm]
 exact ⟨h.ps.d.kept (o _ (Ne.symm h.ne.1)), h.ps.r.kept (o _ (Ne.symm h.ne.2.1)), h.ps.m.kept fun k _ f => o k (by rintro rfl; exact h.fg f), h.ps.dr, h.ps.fd, h.ps.fr⟩
theorem tc_set (g' i : Nat) (x : Value) (hg : TV g bd br bs F g') : S.Tc (TV g bd br bs F) W (W.setCell ⟨g', i, none⟩ x) := (S.Tc.refl _ _).setCell g' i hg x
theorem MV.st (h : MV W g bd br bm bs c F O v) (n : Int) : MV (W.setCell ⟨g, 0, none⟩ (.int .i64 n)) g bd br bm bs c F O { v with st := n } := h.setg 0 _ rfl rfl rfl rfl rfl rfl
theorem MV.fa (h : MV W g bd br bm bs c F O v) (n : Int) : MV (W.setCell ⟨g, 1, none⟩ (.int .i64 n)) g bd br bm bs c F O { v with fa := n } := h.setg 1 _ rfl rfl rfl rfl rfl rfl
theorem MV.halts (h : MV W g bd br bm bs c F O v) (n : Int) : VD W (W.setCell ⟨g, 0, none⟩ (.int .i64 n)) g bd br bm bs F O { v with st := n } := (h.st n).vd (tc_set g 0 _ (.inl rfl))
theorem MV.put (h : MV W g bd br bm bs c F O v) (p : Pc) (x : Value) (hx : PV W O p.fr p.e x) (hp : okP p.fr) : MV (W.setCell ⟨bs, v.o.length, none⟩ x) g bd br bm bs c F O { v with c := p } := by
 have o : ∀ k, k ≠ bs -> (W.setCell ⟨bs, v.o.length, none⟩ x).heap[k]? = W.heap[k]? := fun k hk => S.setCell_other W bs _ k x hk
 obtain ⟨xs, hr, hps⟩ := h.row
 obtain ⟨ys, zs, rfl, h1, h2⟩ := hps.parts
 obtain ⟨z, rfl, _⟩ := h2.one
 have hl := h1.len
 have hst := hr.stored v.o.length x
 have e : (ys ++ [z]).set v.o.length x = ys ++ [x] := by rw [<- hl, List.set_append_right _ _ (Nat.le_refl _), Nat.sub_self]; rfl
 refine ⟨(o g h.ne.2.2.1).trans h.blk, ⟨h.ps.d.kept (o _ (Ne.symm h.ne.2.2.2.1)), h.ps.r.kept (o _ (Ne.symm h.ne.2.2.2.2)), h.ps.m.kept fun k _ f => o k (by rintro rfl; exact h.fs f), h.ps.dr, h.ps.fd, h.ps.fr⟩, ⟨ys ++ [x], ?_, PVs.app (h1.kept (fun k hk => o k (h.ob k hk).2.2.2.1) fun _ h => h) (PVs.mk (PV.kept (fun k hk => o k (h.ob k hk).2.2.2.1) (fun _ h => h) _ _ _ hx))⟩, fun k e => by rw [S.setCell_size]; exact h.ol k e, fun k e => by rw [S.setCell_size]; exact h.fl k e, h.ob, h.ne, h.fg, h.fs, ⟨h.wf.d, h.wf.r, hp, h.wf.o, h.wf.l⟩⟩
 rw [<- e]
 exact hst.1
theorem own_less {B : Nat} {e : TypeId} {b n c : Nat} {ys : List Value} {z : Value} (h : W.ownsRow B e 1 (.slice (some ⟨b, 0, none⟩) (n + 1) c) (n + 1) (ys ++ [z])) : W.ownsRow B e 1 (.slice (some ⟨b, 0, none⟩) n c) n ys := by
 have h0 := h.1
 simp at h0
 rcases h.2 with ⟨h', _⟩ | ⟨g', cap', cur, h', hb, hg, hnc, hcm, hcs, ht⟩
 ·simp at h'
 ·simp only [Value.slice.injEq, Option.some.injEq, Addr.mk.injEq, and_true, true_and] at h'
  obtain ⟨rfl, rfl⟩ := h'
  refine ⟨by omega, .inr ⟨b, c, cur, rfl, hb, hg, by omega, hcm, hcs, ?_⟩⟩
  rw [Nat.mul_one] at ht ⊢
  have := congrArg (List.take n) ht
  rw [List.take_take, Nat.min_eq_left (by omega), List.take_left' (by omega)] at this
  exact this
theorem MV.pop (h : MV W g bd br bm bs c F O v) (p : Pc) (l : List Pc) (ho : v.o = l ++ [p]) : MV (W.setCell ⟨g, 5, none⟩ (.slice (some ⟨bs, 0, none⟩) (l.length + 1) c)) g bd br bm bs c F O { v with o := l, c := p } := by
 have o : ∀ k, k ≠ g -> (W.setCell ⟨g, 5, none⟩ (.slice (some ⟨bs, 0, none⟩) (l.length + 1) c)).heap[k]? = W.heap[k]? := fun k hk => S.setCell_other W g 5 k _ hk
 obtain ⟨xs, hr, hps⟩ := h.row
 rw [ho] at hr hps
 obtain ⟨ys, zs, rfl, h1, h2⟩ := hps.parts
 obtain ⟨z, rfl, _⟩ := h2.one
 obtain ⟨us, ws, rfl, h3, h4⟩ := h1.parts
 rw [List.length_append] at hr
 refine ⟨by rw [S.setCell_heap W g 5 _ _ _ h.blk]; rfl, ⟨h.ps.d.kept (o _ (Ne.symm h.ne.1)), h.ps.r.kept (o _ (Ne.symm h.ne.2.1)), h.ps.m.kept fun k _ f => o k (by rintro rfl; exact h.fg f), h.ps.dr, h.ps.fd, h.ps.fr⟩, ⟨us ++ ws, S.own_kept (own_less hr) fun k e _ => o k (by cases e; exact fun e => h.ne.2.2.1 e.symm), PVs.app (h3.kept (fun k hk => o k (h.ob k hk).1) fun _ h => h) (h4.kept (fun k hk => o k (h.ob k hk).1) fun _ h => h)⟩, fun k e => by rw [S.setCell_size]; exact h.ol k e, fun k e => by rw [S.setCell_size]; exact h.fl k e, h.ob, h.ne, h.fg, h.fs, ⟨h.wf.d, h.wf.r, h.wf.o p (by rw [ho]; simp), fun q hq => h.wf.o q (by rw [ho]; simp [hq]), h.wf.l⟩⟩
theorem MV.push (h : MV W g bd br bm bs c F O v) (p : Pc) (x v2 : Value) (w2 : World) (xs : List Value) (hps : PVs W O (v.o ++ [v.c]) xs) (hx : PV W O p.fr p.e x) (hp : okP p.fr) (hr : w2.ownsRow 0 86 1 v2 (v.o.length + 1 + 1) (xs ++ [x])) (hg : S.Grew W w2 (.slice (some ⟨bs, 0, none⟩) (v.o.length + 1) c) v2) : ∃ bs2 c2, v2 = .slice (some ⟨bs2, 0, none⟩) (v.o.length + 1 + 1) c2 /\ (bs2 = bs \/ W.heap.size <= bs2) /\ MV (w2.setCell ⟨g, 5, none⟩ v2) g bd br bm bs2 c2 F O { v with o := v.o ++ [v.c], c := p } /\ S.Tc (TV g bd br bs F) W (w2.setCell ⟨g, 5, none⟩ v2) := by
 obtain ⟨bs2, c2, rfl⟩ := S.own_pos hr (by omega)
 have hlt := World.ownsRow.lt hr bs2 rfl
 have ob : ∀ k, k < W.heap.size -> k ≠ bs -> w2.heap[k]? = W.heap[k]? := fun k hk hb => hg.block k hk (by intro e; cases e; exact hb rfl)
 have hb2 : bs2 = bs \/ W.heap.size <= bs2 := by
  rcases hg.own with e | e
  ·cases e; exact .inl rfl
  ·exact .inr (e bs2 rfl)
 have o : ∀ k, k ≠ g -> (w2.setCell ⟨g, 5, none⟩ (.slice (some ⟨bs2, 0, none⟩) (v.o.length + 1 + 1) c2)).heap[k]? = w2.heap[k]? := fun k hk => S.setCell_other w2 g 5 k _ hk
 have oo : ∀ k, k < W.heap.size -> k ≠ bs -> k ≠ g -> (w2.setCell ⟨g, 5, none⟩ (.slice (some ⟨bs2, 0, none⟩) (v.o.length + 1 + 1) c2)).heap[k]? = W.heap[k]? := fun k hk hb hgk => (o k hgk).trans (ob k hk hb)
 have hsz := hg.size
 have hbg : bs2 ≠ g := by rcases hb2 with rfl | e; exact fun e => h.ne.2.2.1 e.symm; have := h.lt; omega
 refine ⟨bs2, c2, rfl, hb2, ⟨?_, ⟨h.ps.d.kept (oo _ h.lt_d (Ne.symm h.ne.2.2.2.1) (Ne.symm h.ne.1)), h.ps.r.kept (oo _ h.lt_r (Ne.symm h.ne.2.2.2.2) (Ne.symm h.ne.2.1)), h.ps.m.kept fun k hk f => oo k hk (by rintro rfl; exact h.fs f) (by rintro rfl; exact h.fg f), h.ps.dr, h.ps.fd, h.ps.fr⟩, ⟨xs ++ [x], ?_, PVs.app (hps.kept (fun k hk => oo k (h.ol k hk) (h.ob k hk).2.2.2.1 (h.ob k hk).1) fun _ h => h) (PVs.mk (PV.kept (fun k hk => oo k (h.ol k hk) (h.ob k hk).2.2.2.1 (h.ob k hk).1) (fun _ h => h) _ _ _ hx))⟩, fun k e => ?_, fun k e => ?_, fun k e => ⟨(h.ob k e).1, (h.ob k e).2.1, (h.ob k e).2.2.1, ?_, (h.ob k e).2.2.2.2⟩, ⟨h.ne.1, h.ne.2.1, hbg.symm, ?_, ?_⟩, h.fg, ?_, ⟨h.wf.d, h.wf.r, hp, ?_, h.wf.l⟩⟩, ⟨hg.os, hg.tape, hg.output, by rw [S.setCell_size]; exact hsz, fun k hk hn => oo k hk (fun e => hn (.inr (.inr (.inr (.inl e))))) fun e => hn (.inl e)⟩⟩
 ·have e : (vcells { v with o := v.o ++ [v.c], c := p } bd br bm bs2 c2) = (vcells v bd br bm bs c).set 5 (.slice (some ⟨bs2, 0, none⟩) (v.o.length + 1 + 1) c2) := by unfold vcells; simp
  rw [S.setCell_heap w2 g 5 _ _ _ ((ob g h.lt h.ne.2.2.1).trans h.blk), e]
 ·rw [show ({ v with o := v.o ++ [v.c], c := p } : VS).o.length = v.o.length + 1 by simp]
  exact S.own_kept hr fun k e _ => o k (by cases e; exact hbg)
 ·rw [S.setCell_size]; exact Nat.lt_of_lt_of_le (h.ol k e) hsz
 ·rw [S.setCell_size]; exact Nat.lt_of_lt_of_le (h.fl k e) hsz
 ·rcases hb2 with rfl | e'
  ·exact (h.ob k e).2.2.2.1
  ·have := h.ol k e; omega
 ·rcases hb2 with rfl | e'
  ·exact h.ne.2.2.2.1
  ·have := h.lt_d; omega
 ·rcases hb2 with rfl | e'
  ·exact h.ne.2.2.2.2
  ·have := h.lt_r; omega
 ·rcases hb2 with rfl | e'
  ·exact h.fs
  ·intro e; have := h.fl _ e; omega
 ·intro q hq
  rcases List.mem_append.1 hq with hq | hq
  ·exact h.wf.o q hq
  ·simp at hq; subst hq; exact h.wf.c
end
end Go.Proofs.YtoemoiehjdmheaaGreat.Z
