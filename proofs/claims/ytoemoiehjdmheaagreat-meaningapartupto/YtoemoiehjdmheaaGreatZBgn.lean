import Derived.Test.YtoemoiehjdmheaaGreatZMnv
import Derived.Deep.Cut
import Derived.Deep.CutBlock
import Derived.Deep.DeepCutAuto
import Derived.Deep.RegionHeld
import Derived.Deep.RegionHeldLaw
namespace Go.Proofs.YtoemoiehjdmheaaGreat.Z
open Go.RowKit
open Go.Proofs
open Go.Proofs.YtoemoiehjdmheaaGreat.Y (Nd Df Ps Pl hid ZV)
set_option linter.unusedVariables false
set_option linter.unusedSimpArgs false
set_option maxHeartbeats 4000000
set_option maxRecDepth 100000
theorem sizeMN : (Tryz.prog.info? 173).map (·.size) = some 9 := by kernel_rfl
theorem sizeIN : (Tryz.prog.info? 84).map (·.size) = some 5 := by kernel_rfl
theorem box3 (W : World) (a b c : Value) (t : TypeId) : ∃ W1, W.alloc (.cells #[a, b, c] t) = W1 /\ Below W.heap.size W W1 /\ W1.heap[W.heap.size]? = some (.cells [a, b, c].toArray t (0, 0)) /\ ∀ w, Below W1.heap.size W1 w -> w.cell? ⟨W.heap.size, 0, none⟩ = some a /\ w.cell? ⟨W.heap.size, 1, none⟩ = some b /\ w.cell? ⟨W.heap.size, 2, none⟩ = some c := by
 refine ⟨_, rfl, (Below.refl _ _).alloc (Nat.le_refl _) _, heap_alloc_new W _, fun w k => ?_⟩
 have h2 : w.heap[W.heap.size]? = some (.cells [a, b, c].toArray t (0, 0)) := (k.block _ (by simp)).trans (heap_alloc_new W _)
 exact ⟨S.cell_of w _ 0 _ t _ h2 rfl, S.cell_of w _ 1 _ t _ h2 rfl, S.cell_of w _ 2 _ t _ h2 rfl⟩
theorem box9 (W : World) (a0 a1 a2 a3 a4 a5 a6 a7 a8 : Value) (t : TypeId) : ∃ W1, W.alloc (.cells #[a0, a1, a2, a3, a4, a5, a6, a7, a8] t) = W1 /\ Below W.heap.size W W1 /\ W1.heap[W.heap.size]? = some (.cells [a0, a1, a2, a3, a4, a5, a6, a7, a8].toArray t (0, 0)) /\ ∀ w, Below W1.heap.size W1 w -> w.cell? ⟨W.heap.size, 5, none⟩ = some a5 /\ w.cell? ⟨W.heap.size, 6, none⟩ = some a6 /\ w.cell? ⟨W.heap.size, 7, none⟩ = some a7 /\ w.cell? ⟨W.heap.size, 8, none⟩ = some a8 := by
 refine ⟨_, rfl, (Below.refl _ _).alloc (Nat.le_refl _) _, heap_alloc_new W _, fun w k => ?_⟩
 have h2 : w.heap[W.heap.size]? = some (.cells [a0, a1, a2, a3, a4, a5, a6, a7, a8].toArray t (0, 0)) := (k.block _ (by simp)).trans (heap_alloc_new W _)
 exact ⟨S.cell_of w _ 5 _ t _ h2 rfl, S.cell_of w _ 6 _ t _ h2 rfl, S.cell_of w _ 7 _ t _ h2 rfl, S.cell_of w _ 8 _ t _ h2 rfl⟩
theorem node_c (b o N c i : Nat) (bt : TypeId) (bx : Value) (m : Mn) (wq tp op : Option Addr) (tn tc on oc : Nat) (hi : i < N) (W : World) (hm : ∀ (j : Nat) (x : Value), (mnc m (.pointer wq) (.slice tp tn tc) (.slice op on oc))[j]? = some x -> W.cell? ⟨b, o + i * 9 + j, none⟩ = some x) (hb : b < W.heap.size) :
  Calls Tryz.prog 84 #[.agg #[.slice (some ⟨b, o, none⟩) N c, .int .i64 (i : Int), .iface bt bx]] W fun e w' => e = .returned (.agg #[.int .i64 m.op, .int .u16 m.v, .pointer wq, .int .i64 m.p.1, .int .i64 m.p.2, .int .i64 m.k, .slice tp tn tc, .slice op on oc, .bool m.has]) /\ Below W.heap.size W w' := by
 obtain ⟨a0, a1, a2, a3, a4, a5, a6, a7, a8⟩ := mcells hm
 have i1 : (i : Int) < (N : Int) := by omega
 clear hm
 go_enter Tryz.func84, Tryz.ntmps84
 go_wp2_with fail
 exact bodyPost_ret (results_cell_row rfl _ _ (W.heap.size + 1) 173 _ (0, 0) _ rfl (heap_alloc2_new W _ _) Tryz.underlying173 rfl (by exact sizeMN)) rfl ⟨rfl, ((Below.refl _ _).alloc (Nat.le_refl _) _).alloc (by simp) _⟩
theorem first_w (bp : Option Addr) (bn bc : Nat) (t : TypeId) (x : Value) (W : World) (Q : Ending -> World -> Prop) (h : Calls Tryz.prog 65 #[.agg #[.slice bp bn bc, .int .i64 0, .iface t x]] W fun e w' => ∃ v, e = .returned v /\ Q e w') :
  Calls Tryz.prog 53 #[.slice bp bn bc, .iface t x] W Q := by
 go_enter Tryz.func53, Tryz.ntmps53
 go_wp2_with fail
 refine h.mono ?_
 rintro e w2 ⟨v, rfl, hq⟩
 go_wp2
 exact hq
theorem begin_end (p : Option Addr) (N c : Nat) (hN : N <= 140737488355328) (t : TypeId) (x : Value) (W : World) :
  Calls Tryz.prog 65 #[.agg #[.slice p N c, .int .i64 (N : Int), .iface t x]] W fun e w' => e = .returned (.iface t x) /\ Below W.heap.size W w' := by
 obtain ⟨W1, hW1, hb1, u1, hx⟩ := box3 W (.slice p N c) (.int .i64 (N : Int)) (.iface t x) 175
 obtain ⟨x0, x1, x2⟩ := hx W1 (Below.refl _ _)
 have HW1 := hid hW1
 have HB1 := hid hb1
 clear u1 hx hW1 hb1
 go_enter Tryz.func65, Tryz.ntmps65
 go_upto_region 1 with fail
 rw [HW1.out]
 go_wp2
 go_ret
 exact ⟨rfl, HB1.out⟩
theorem WR.isP {W : World} {O : Nat -> Prop} {R : Value -> List Mn -> Prop} {wv : Value} {w : List (List Mn)} {wp : Ps} (h : WR W O R wv w wp) : ∃ q, wv = .pointer q := by
 rcases h with ⟨_, h⟩ | ⟨b, l, bv, _, h, _⟩
 ·exact ⟨_, h⟩
 ·exact ⟨_, h⟩
def BgC (x : Mn) : Prop := ∀ (l : List Mn) (i : Nat) (p : Option Addr) (c : Nat) (t : TypeId) (bx : Value) (r : List Fr) (e : Ps) (O : Nat -> Prop) (W : World), l[i]? = some x -> MNV W O (.slice p l.length c) l -> PV W O r e (.iface t bx) -> (∀ i, O i -> i < W.heap.size) ->
  Calls Tryz.prog 65 #[.agg #[.slice p l.length c, .int .i64 (i : Int), .iface t bx]] W fun e' w' => ∃ v, e' = .returned v /\ PV W O (en x l i r) e v /\ Below W.heap.size W w'
theorem first_th (l : List Mn) (h : ∀ m ∈ l, BgC m) (p : Option Addr) (c : Nat) (t : TypeId) (bx : Value) (r : List Fr) (e : Ps) (O : Nat -> Prop) (W : World) (hN : MNV W O (.slice p l.length c) l) (hP : PV W O r e (.iface t bx)) (hO : ∀ i, O i -> i < W.heap.size) :
  Calls Tryz.prog 53 #[.slice p l.length c, .iface t bx] W fun e' w' => ∃ v, e' = .returned v /\ PV W O (bgn l 0 r) e v /\ Below W.heap.size W w' := by
 refine first_w p l.length c t bx W _ ?_
 cases l with
 | nil =>
  refine (begin_end p 0 c (by omega) t bx W).mono ?_
  rintro e' w' ⟨rfl, hb⟩
  exact ⟨_, rfl, _, rfl, hP, hb⟩
 | cons y r' =>
  refine (h y (by simp) (y :: r') 0 p c t bx r e O W rfl hN hP hO).mono ?_
  rintro e' w' ⟨v, rfl, hv, hb⟩
  exact ⟨_, rfl, v, rfl, hv, hb⟩
theorem begin_at (x : Mn) (hth : ∀ m ∈ x.th, BgC m) : BgC x := by
 intro l i p c t bx r e O W hx hN hP hO
 have hi : i < l.length := (List.getElem?_eq_some_iff.1 hx).1
 obtain ⟨p', c', he, hfew, hA⟩ := hN.ex
 cases he
 obtain ⟨b, o, rfl, hOb, wv, tv, ov, hc, hw, ht, ho⟩ := hA i x hx
 obtain ⟨wq, rfl⟩ := hw.isP
 obtain ⟨tp, tc, rfl, htf, _⟩ := ht.ex
 obtain ⟨op, oc, rfl, hof, _⟩ := ho.ex
 obtain ⟨W1, hW1, hb1, u1, hx3⟩ := box3 W (.slice (some ⟨b, o, none⟩) l.length c) (.int .i64 (i : Int)) (.iface t bx) 175
 obtain ⟨x0, x1, x2⟩ := hx3 W1 (Below.refl _ _)
 have hcall := node_c b o l.length c i t bx x wq tp op x.th.length tc x.ot.length oc hi W1 (fun j y hy => (World.cell?_of_block (w := W) (a := ⟨b, o + i * 9 + j, none⟩) (hb1.block _ (hO _ hOb))).trans (hc j y hy)) (Nat.lt_of_lt_of_le (hO _ hOb) hb1.size)
 have b1 : ((i : Int) == (l.length : Int)) = false := by simp; omega
 have HX := hid hx3
 have HW1 := hid hW1
 have HB1 := hid hb1
 have HE := hid (en_is x l i r)
 have HP := hid (And.intro hP (And.intro hN (And.intro ht hO)))
 have HT := hid hth
 have HI := hid (And.intro hi hfew)
 have HTF := hid htf
 clear u1 hx3 hW1 hb1 hP hN ht ho hO hw hA hc hth hx htf hof hi
 have hfin : ∀ (g : Nat), g <= 7 -> ∀ w', Below W.heap.size W w' -> ∃ v, Ending.returned (.iface (ty g) (.agg #[.slice (some ⟨b, o, none⟩) l.length c, .int .i64 (i : Int), .iface t bx])) = .returned v /\ PV W O (⟨g, l, i⟩ :: r) e v /\ Below W.heap.size W w' := fun g hg w' hb =>
  ⟨_, rfl, ⟨_, _, rfl, HP.out.2.1, HI.out.1, hg, HP.out.1⟩, hb⟩
 have hsub : ∀ (g : Nat), g <= 7 -> ∀ w3, Below W.heap.size W w3 -> Calls Tryz.prog 53 #[.slice tp x.th.length tc, .iface (ty g) (.agg #[.slice (some ⟨b, o, none⟩) l.length c, .int .i64 (i : Int), .iface t bx])] w3 fun e' w' => ∃ v, e' = .returned v /\ PV W O (bgn x.th 0 (⟨g, l, i⟩ :: r)) e v /\ Below W.heap.size W w' := fun g hg w3 hb3 => by
  refine (first_th x.th HT.out tp tc (ty g) _ (⟨g, l, i⟩ :: r) e O w3 (HP.out.2.2.1.below hb3 HP.out.2.2.2) ?_ (fun i hi => Nat.lt_of_lt_of_le (HP.out.2.2.2 i hi) hb3.size)).mono ?_
  ·exact PV.below (l := ⟨g, l, i⟩ :: r) ⟨_, _, rfl, HP.out.2.1, HI.out.1, hg, HP.out.1⟩ hb3 HP.out.2.2.2
  ·rintro e' w' ⟨v, rfl, hv, hb⟩
   exact ⟨v, rfl, PV.kept (fun i hi => (hb3.block i (HP.out.2.2.2 i hi)).symm) (fun _ h => h) _ _ _ hv, hb3.trans (hb.mono hb3.size)⟩
 have HF := hid hfin
 have HS := hid hsub
 clear hfin hsub HT HI HTF
 generalize l.length = N at *
 generalize x.th.length = tn at *
 generalize x.ot.length = on at *
 by_cases h4 : x.k = 4
 ·have E := hid (show en x l i r = _ from HE.out)
  have e4 : (x.k == 4) = true := by simp [h4]
  have hr : en x l i r = ⟨1, l, i⟩ :: r := by rw [HE.out]; simp [h4]
  rw [hr]
  clear HE E hr h4
  go_enter Tryz.func65, Tryz.ntmps65
  go_upto_region 1 with fail
  rw [HW1.out]
  go_wp2_with fail
  refine hcall.mono ?_
  rintro e' w2 ⟨rfl, hb2⟩
  obtain ⟨W3, hW3, hb3, u3, hy⟩ := box9 w2 (.int .i64 x.op) (.int .u16 x.v) (.pointer wq) (.int .i64 x.p.1) (.int .i64 x.p.2) (.int .i64 x.k) (.slice tp tn tc) (.slice op on oc) (.bool x.has) 173
  obtain ⟨y5, y6, y7, y8⟩ := hy W3 (Below.refl _ _)
  obtain ⟨x0, x1, x2⟩ := HX.out W3 (hb2.trans (hb3.mono hb2.size))
  have HB3 := hid ((HB1.out.trans (hb2.mono HB1.out.size)).trans (hb3.mono (HB1.out.trans (hb2.mono HB1.out.size)).size))
  have HW3 := hid hW3
  clear hcall hb2 hb3 u3 hW3 hy HX
  go_upto_region 4 with fail
  rw [HW3.out]
  go_wp2
  go_ret
  exact HF.out 1 (by decide) _ HB3.out
 by_cases h5 : x.k = 5
 ·have E := hid (show en x l i r = _ from HE.out)
  have e5 : (x.k == 5) = true := by simp [h5]
  have e4 : (x.k == 4) = false := by simp [h4]
  have hr : en x l i r = bgn x.th 0 (⟨3, l, i⟩ :: r) := by rw [HE.out]; simp [h4, h5]
  rw [hr]
  clear HE E hr h5 h4
  go_enter Tryz.func65, Tryz.ntmps65
  go_upto_region 1 with fail
  rw [HW1.out]
  go_wp2_with fail
  refine hcall.mono ?_
  rintro e' w2 ⟨rfl, hb2⟩
  obtain ⟨W3, hW3, hb3, u3, hy⟩ := box9 w2 (.int .i64 x.op) (.int .u16 x.v) (.pointer wq) (.int .i64 x.p.1) (.int .i64 x.p.2) (.int .i64 x.k) (.slice tp tn tc) (.slice op on oc) (.bool x.has) 173
  obtain ⟨y5, y6, y7, y8⟩ := hy W3 (Below.refl _ _)
  obtain ⟨x0, x1, x2⟩ := HX.out W3 (hb2.trans (hb3.mono hb2.size))
  have HB3 := hid ((HB1.out.trans (hb2.mono HB1.out.size)).trans (hb3.mono (HB1.out.trans (hb2.mono HB1.out.size)).size))
  have HW3 := hid hW3
  clear hcall hb2 hb3 u3 hW3 hy HX
  go_upto_region 4 with fail
  rw [HW3.out]
  go_wp2_with fail
  refine (HS.out 3 (by decide) W3 HB3.out).mono ?_
  rintro e' w4 ⟨v, rfl, hv, hb4⟩
  have HV := hid (And.intro hv hb4)
  clear hv hb4
  go_wp2
  go_ret
  exact ⟨v, rfl, HV.out⟩
 by_cases h6 : x.k = 6
 ·have E := hid (show en x l i r = _ from HE.out)
  have e6 : (x.k == 6) = true := by simp [h6]
  have e4 : (x.k == 4) = false := by simp [h4]
  have e5 : (x.k == 5) = false := by simp [h5]
  have hr : en x l i r = bgn x.th 0 (⟨4, l, i⟩ :: r) := by rw [HE.out]; simp [h4, h5, h6]
  rw [hr]
  clear HE E hr h6 h4 h5
  go_enter Tryz.func65, Tryz.ntmps65
  go_upto_region 1 with fail
  rw [HW1.out]
  go_wp2_with fail
  refine hcall.mono ?_
  rintro e' w2 ⟨rfl, hb2⟩
  obtain ⟨W3, hW3, hb3, u3, hy⟩ := box9 w2 (.int .i64 x.op) (.int .u16 x.v) (.pointer wq) (.int .i64 x.p.1) (.int .i64 x.p.2) (.int .i64 x.k) (.slice tp tn tc) (.slice op on oc) (.bool x.has) 173
  obtain ⟨y5, y6, y7, y8⟩ := hy W3 (Below.refl _ _)
  obtain ⟨x0, x1, x2⟩ := HX.out W3 (hb2.trans (hb3.mono hb2.size))
  have HB3 := hid ((HB1.out.trans (hb2.mono HB1.out.size)).trans (hb3.mono (HB1.out.trans (hb2.mono HB1.out.size)).size))
  have HW3 := hid hW3
  clear hcall hb2 hb3 u3 hW3 hy HX
  go_upto_region 4 with fail
  rw [HW3.out]
  go_wp2_with fail
  refine (HS.out 4 (by decide) W3 HB3.out).mono ?_
  rintro e' w4 ⟨v, rfl, hv, hb4⟩
  have HV := hid (And.intro hv hb4)
  clear hv hb4
  go_wp2
  go_ret
  exact ⟨v, rfl, HV.out⟩
 by_cases h7 : x.k = 7
 ·have E := hid (show en x l i r = _ from HE.out)
  have e7 : (x.k == 7) = true := by simp [h7]
  have e4 : (x.k == 4) = false := by simp [h4]
  have e5 : (x.k == 5) = false := by simp [h5]
  have e6 : (x.k == 6) = false := by simp [h6]
  have hr : en x l i r = bgn x.th 0 (⟨5, l, i⟩ :: r) := by rw [HE.out]; simp [h4, h5, h6, h7]
  rw [hr]
  clear HE E hr h7 h4 h5 h6
  go_enter Tryz.func65, Tryz.ntmps65
  go_upto_region 1 with fail
  rw [HW1.out]
  go_wp2_with fail
  refine hcall.mono ?_
  rintro e' w2 ⟨rfl, hb2⟩
  obtain ⟨W3, hW3, hb3, u3, hy⟩ := box9 w2 (.int .i64 x.op) (.int .u16 x.v) (.pointer wq) (.int .i64 x.p.1) (.int .i64 x.p.2) (.int .i64 x.k) (.slice tp tn tc) (.slice op on oc) (.bool x.has) 173
  obtain ⟨y5, y6, y7, y8⟩ := hy W3 (Below.refl _ _)
  obtain ⟨x0, x1, x2⟩ := HX.out W3 (hb2.trans (hb3.mono hb2.size))
  have HB3 := hid ((HB1.out.trans (hb2.mono HB1.out.size)).trans (hb3.mono (HB1.out.trans (hb2.mono HB1.out.size)).size))
  have HW3 := hid hW3
  clear hcall hb2 hb3 u3 hW3 hy HX
  go_upto_region 4 with fail
  rw [HW3.out]
  go_wp2_with fail
  refine (HS.out 5 (by decide) W3 HB3.out).mono ?_
  rintro e' w4 ⟨v, rfl, hv, hb4⟩
  have HV := hid (And.intro hv hb4)
  clear hv hb4
  go_wp2
  go_ret
  exact ⟨v, rfl, HV.out⟩
 by_cases h8 : x.k = 8
 ·have E := hid (show en x l i r = _ from HE.out)
  have e8 : (x.k == 8) = true := by simp [h8]
  have e4 : (x.k == 4) = false := by simp [h4]
  have e5 : (x.k == 5) = false := by simp [h5]
  have e6 : (x.k == 6) = false := by simp [h6]
  have e7 : (x.k == 7) = false := by simp [h7]
  have hr : en x l i r = ⟨6, l, i⟩ :: r := by rw [HE.out]; simp [h4, h5, h6, h7, h8]
  rw [hr]
  clear HE E hr h8 h4 h5 h6 h7
  go_enter Tryz.func65, Tryz.ntmps65
  go_upto_region 1 with fail
  rw [HW1.out]
  go_wp2_with fail
  refine hcall.mono ?_
  rintro e' w2 ⟨rfl, hb2⟩
  obtain ⟨W3, hW3, hb3, u3, hy⟩ := box9 w2 (.int .i64 x.op) (.int .u16 x.v) (.pointer wq) (.int .i64 x.p.1) (.int .i64 x.p.2) (.int .i64 x.k) (.slice tp tn tc) (.slice op on oc) (.bool x.has) 173
  obtain ⟨y5, y6, y7, y8⟩ := hy W3 (Below.refl _ _)
  obtain ⟨x0, x1, x2⟩ := HX.out W3 (hb2.trans (hb3.mono hb2.size))
  have HB3 := hid ((HB1.out.trans (hb2.mono HB1.out.size)).trans (hb3.mono (HB1.out.trans (hb2.mono HB1.out.size)).size))
  have HW3 := hid hW3
  clear hcall hb2 hb3 u3 hW3 hy HX
  go_upto_region 4 with fail
  rw [HW3.out]
  go_wp2
  go_ret
  exact HF.out 6 (by decide) _ HB3.out
 ·have e4 : (x.k == 4) = false := by simp [h4]
  have e5 : (x.k == 5) = false := by simp [h5]
  have e6 : (x.k == 6) = false := by simp [h6]
  have e7 : (x.k == 7) = false := by simp [h7]
  have e8 : (x.k == 8) = false := by simp [h8]
  have hr : en x l i r = ⟨0, l, i⟩ :: r := by rw [HE.out]; simp [h4, h5, h6, h7, h8]
  rw [hr]
  clear HE hr h4 h5 h6 h7 h8
  go_enter Tryz.func65, Tryz.ntmps65
  go_upto_region 1 with fail
  rw [HW1.out]
  go_wp2_with fail
  refine hcall.mono ?_
  rintro e' w2 ⟨rfl, hb2⟩
  obtain ⟨W3, hW3, hb3, u3, hy⟩ := box9 w2 (.int .i64 x.op) (.int .u16 x.v) (.pointer wq) (.int .i64 x.p.1) (.int .i64 x.p.2) (.int .i64 x.k) (.slice tp tn tc) (.slice op on oc) (.bool x.has) 173
  obtain ⟨y5, y6, y7, y8⟩ := hy W3 (Below.refl _ _)
  obtain ⟨x0, x1, x2⟩ := HX.out W3 (hb2.trans (hb3.mono hb2.size))
  have HB3 := hid ((HB1.out.trans (hb2.mono HB1.out.size)).trans (hb3.mono (HB1.out.trans (hb2.mono HB1.out.size)).size))
  have HW3 := hid hW3
  clear hcall hb2 hb3 u3 hW3 hy HX
  go_upto_region 4 with fail
  rw [HW3.out]
  go_wp2
  go_ret
  exact HF.out 0 (by decide) _ HB3.out
theorem begin_node (x : Mn) : BgC x := Mn.ind (P := BgC) (fun n h _ _ => begin_at n h) x
theorem first_any (l : List Mn) (p : Option Addr) (c : Nat) (t : TypeId) (bx : Value) (r : List Fr) (e : Ps) (O : Nat -> Prop) (W : World) (hN : MNV W O (.slice p l.length c) l) (hP : PV W O r e (.iface t bx)) (hO : ∀ i, O i -> i < W.heap.size) :
  Calls Tryz.prog 53 #[.slice p l.length c, .iface t bx] W fun e' w' => ∃ v, e' = .returned v /\ PV W O (bgn l 0 r) e v /\ Below W.heap.size W w' :=
 first_th l (fun m _ => begin_node m) p c t bx r e O W hN hP hO
theorem begin_any (l : List Mn) (i : Nat) (hi : i <= l.length) (p : Option Addr) (c : Nat) (t : TypeId) (bx : Value) (r : List Fr) (e : Ps) (O : Nat -> Prop) (W : World) (hN : MNV W O (.slice p l.length c) l) (hP : PV W O r e (.iface t bx)) (hO : ∀ i, O i -> i < W.heap.size) :
  Calls Tryz.prog 65 #[.agg #[.slice p l.length c, .int .i64 (i : Int), .iface t bx]] W fun e' w' => ∃ v, e' = .returned v /\ PV W O (bgn l i r) e v /\ Below W.heap.size W w' := by
 by_cases h : i < l.length
 ·obtain ⟨x, hx⟩ : ∃ x, l[i]? = some x := ⟨_, List.getElem?_eq_getElem h⟩
  rw [bgn_at l i r x hx]
  exact begin_node x l i p c t bx r e O W hx hN hP hO
 ·obtain rfl : i = l.length := by omega
  rw [bgn_end l l.length r (Nat.le_refl _)]
  obtain ⟨_, _, _, hf, _⟩ := hN.ex
  refine (begin_end p l.length c hf t bx W).mono ?_
  rintro e' w' ⟨rfl, hb⟩
  exact ⟨_, rfl, hP, hb⟩
set_option maxHeartbeats 4000000
set_option maxRecDepth 100000
structure Sp (W : World) (O : Nat -> Prop) (l : List Mn) (i : Nat) (x : Mn) (r : List Fr) (e : Ps) (b o c : Nat) (wq tp op : Option Addr) (tc oc : Nat) (t : TypeId) (bx : Value) : Prop where
 hx : l[i]? = some x
 hN : MNV W O (.slice (some ⟨b, o, none⟩) l.length c) l
 hP : PV W O r e (.iface t bx)
 hO : ∀ i, O i -> i < W.heap.size
 hOb : O b
 hc : ∀ (j : Nat) (y : Value), (mnc x (.pointer wq) (.slice tp x.th.length tc) (.slice op x.ot.length oc))[j]? = some y -> W.cell? ⟨b, o + i * 9 + j, none⟩ = some y
 hw : WP W O (.pointer wq) x.w x.wp
 ht : MNV W O (.slice tp x.th.length tc) x.th
 ho : MNV W O (.slice op x.ot.length oc) x.ot
section
variable {W : World} {O : Nat -> Prop} {l : List Mn} {i : Nat} {x : Mn} {r : List Fr} {e : Ps} {b o c : Nat} {wq tp op : Option Addr} {tc oc : Nat} {t : TypeId} {bx : Value}
theorem Sp.of {g : Nat} {v : Value} (h : PV W O (⟨g, l, i⟩ :: r) e v) (hO : ∀ i, O i -> i < W.heap.size) : ∃ x b o c wq tp op tc oc t bx, v = .iface (ty g) (.agg #[.slice (some ⟨b, o, none⟩) l.length c, .int .i64 (i : Int), .iface t bx]) /\ g <= 7 /\ Sp W O l i x r e b o c wq tp op tc oc t bx := by
 obtain ⟨bv, be, rfl, hN, hi, hg, hP⟩ := h
 simp only at hN hi hg
 obtain ⟨t, bx, rfl⟩ := PV.isI _ _ _ hP
 obtain ⟨p, c, rfl, hfew, hA⟩ := hN.ex
 obtain ⟨x, hx⟩ : ∃ x, l[i]? = some x := ⟨_, List.getElem?_eq_getElem hi⟩
 obtain ⟨b, o, rfl, hOb, wv, tv, ov, hc, hw, ht, ho⟩ := hA i x hx
 obtain ⟨wq, rfl⟩ := hw.isP
 obtain ⟨tp, tc, rfl, _, _⟩ := ht.ex
 obtain ⟨op, oc, rfl, _, _⟩ := ho.ex
 exact ⟨x, b, o, c, wq, tp, op, tc, oc, t, bx, rfl, hg, hx, hN, hP, hO, hOb, hc, hw, ht, ho⟩
theorem Sp.below {W' : World} (h : Sp W O l i x r e b o c wq tp op tc oc t bx) (k : Below W.heap.size W W') : Sp W' O l i x r e b o c wq tp op tc oc t bx :=
 { h with hN := h.hN.below k h.hO, hP := h.hP.below k h.hO, hO := fun i hi => Nat.lt_of_lt_of_le (h.hO i hi) k.size, hc := fun j y hy => (World.cell?_of_block (w := W) (a := ⟨b, o + i * 9 + j, none⟩) (k.block _ (h.hO _ h.hOb))).trans (h.hc j y hy), hw := h.hw.below k h.hO, ht := h.ht.below k h.hO, ho := h.ho.below k h.hO }
theorem Sp.lt (h : Sp W O l i x r e b o c wq tp op tc oc t bx) : i < l.length := (List.getElem?_eq_some_iff.1 h.hx).1
theorem Sp.few (h : Sp W O l i x r e b o c wq tp op tc oc t bx) : l.length <= 140737488355328 := by obtain ⟨_, _, _, hf, _⟩ := h.hN.ex; exact hf
theorem PV.up {W' : World} {l : List Fr} {e : Ps} {v : Value} (k : Below W.heap.size W W') (hO : ∀ i, O i -> i < W.heap.size) (h : PV W' O l e v) : PV W O l e v := PV.kept (fun i hi => (k.block i (hO i hi)).symm) (fun _ h => h) _ _ _ h
theorem Sp.place (h : Sp W O l i x r e b o c wq tp op tc oc t bx) (g : Nat) (hg : g <= 7) : PV W O (⟨g, l, i⟩ :: r) e (.iface (ty g) (.agg #[.slice (some ⟨b, o, none⟩) l.length c, .int .i64 (i : Int), .iface t bx])) := ⟨_, _, rfl, h.hN, h.lt, hg, h.hP⟩
theorem Sp.node (h : Sp W O l i x r e b o c wq tp op tc oc t bx) (W' : World) (k : Below W.heap.size W W') :
  Calls Tryz.prog 84 #[.agg #[.slice (some ⟨b, o, none⟩) l.length c, .int .i64 (i : Int), .iface t bx]] W' fun e' w' => e' = .returned (.agg #[.int .i64 x.op, .int .u16 x.v, .pointer wq, .int .i64 x.p.1, .int .i64 x.p.2, .int .i64 x.k, .slice tp x.th.length tc, .slice op x.ot.length oc, .bool x.has]) /\ Below W'.heap.size W' w' := by
 have h' := h.below k
 refine (node_c b o l.length c i t bx x wq tp op x.th.length tc x.ot.length oc h.lt W' h'.hc (h'.hO _ h.hOb)).mono ?_
 rintro e' w' ⟨rfl, hb⟩
 exact ⟨rfl, hb⟩
theorem Sp.beginC (h : Sp W O l i x r e b o c wq tp op tc oc t bx) (W' : World) (k : Below W.heap.size W W') (j : Nat) (hj : j <= l.length) :
  Calls Tryz.prog 65 #[.agg #[.slice (some ⟨b, o, none⟩) l.length c, .int .i64 (j : Int), .iface t bx]] W' fun e' w' => ∃ v, e' = .returned v /\ PV W O (bgn l j r) e v /\ Below W'.heap.size W' w' := by
 have h' := h.below k
 refine (begin_any l j hj (some ⟨b, o, none⟩) c t bx r e O W' h'.hN h'.hP h'.hO).mono ?_
 rintro e' w' ⟨v, rfl, hv, hb⟩
 exact ⟨v, rfl, hv.up k h.hO, hb⟩
theorem first_up (m : List Mn) (p : Option Addr) (c : Nat) (t' : TypeId) (bx' : Value) (r' : List Fr) (e : Ps) (hN : MNV W O (.slice p m.length c) m) (hP : PV W O r' e (.iface t' bx')) (hO : ∀ i, O i -> i < W.heap.size) (W' : World) (k : Below W.heap.size W W') :
  Calls Tryz.prog 53 #[.slice p m.length c, .iface t' bx'] W' fun e' w' => ∃ v, e' = .returned v /\ PV W O (bgn m 0 r') e v /\ Below W'.heap.size W' w' := by
 refine (first_any m p c t' bx' r' e O W' (hN.below k hO) (hP.below k hO) (fun i hi => Nat.lt_of_lt_of_le (hO i hi) k.size)).mono ?_
 rintro e' w' ⟨v, rfl, hv, hb⟩
 exact ⟨v, rfl, hv.up k hO, hb⟩
theorem Sp.firstT (h : Sp W O l i x r e b o c wq tp op tc oc t bx) (W' : World) (k : Below W.heap.size W W') (t' : TypeId) (bx' : Value) (r' : List Fr) (hP : PV W O r' e (.iface t' bx')) :
  Calls Tryz.prog 53 #[.slice tp x.th.length tc, .iface t' bx'] W' fun e' w' => ∃ v, e' = .returned v /\ PV W O (bgn x.th 0 r') e v /\ Below W'.heap.size W' w' := first_up x.th tp tc t' bx' r' e h.ht hP h.hO W' k
theorem Sp.firstO (h : Sp W O l i x r e b o c wq tp op tc oc t bx) (W' : World) (k : Below W.heap.size W W') (t' : TypeId) (bx' : Value) (r' : List Fr) (hP : PV W O r' e (.iface t' bx')) :
  Calls Tryz.prog 53 #[.slice op x.ot.length oc, .iface t' bx'] W' fun e' w' => ∃ v, e' = .returned v /\ PV W O (bgn x.ot 0 r') e v /\ Below W'.heap.size W' w' := first_up x.ot op oc t' bx' r' e h.ho hP h.hO W' k
theorem Sp.pastC (h : Sp W O l i x r e b o c wq tp op tc oc t bx) (W' : World) (k : Below W.heap.size W W') :
  Calls Tryz.prog 188 #[.agg #[.slice (some ⟨b, o, none⟩) l.length c, .int .i64 (i : Int), .iface t bx]] W' fun e' w' => ∃ v, e' = .returned v /\ PV W O (bgn l (i + 1) r) e v /\ Below W'.heap.size W' w' := by
 obtain ⟨W1, hW1, hb1, u1, hx3⟩ := box3 W' (.slice (some ⟨b, o, none⟩) l.length c) (.int .i64 ((i : Int) + 1)) (.iface t bx) 175
 obtain ⟨x0, x1, x2⟩ := hx3 W1 (Below.refl _ _)
 have hc := h.beginC W1 (k.trans (hb1.mono k.size)) (i + 1) h.lt
 rw [show ((i + 1 : Nat) : Int) = (i : Int) + 1 by omega] at hc
 have hi64 : wrap64 ((i : Int) + 1) = (i : Int) + 1 := by have := h.few; have := h.lt; unfold wrap64; omega
 have HW1 := hid hW1
 have HB1 := hid hb1
 clear u1 hx3 hW1 hb1 h k
 generalize l.length = N at *
 go_enter Tryz.func188, Tryz.ntmps188
 go_upto_region 2 with fail
 rw [HW1.out]
 go_wp2_with fail
 refine hc.mono ?_
 rintro e' w2 ⟨v, rfl, hv, hb2⟩
 have HV := hid (And.intro hv (HB1.out.trans (hb2.mono HB1.out.size)))
 clear hc hv hb2
 go_wp2
 go_ret
 exact ⟨v, rfl, HV.out⟩
theorem inst_ret {w : World} {fn : Func} {a : Act} {q : Tmp} {b : Nat} {c0 c1 c2 c3 c4 : Value} {Q : Ending -> World -> Prop} (hr : fn.results = #[.cell q 84]) (hh : w.heap[b]? = some (.cells #[c0, c1, c2, c3, c4] 84 (0, 0))) (hp : a.tmps.getD q undef = .pointer (some ⟨b, 0, none⟩)) (hd : a.defers = []) (hQ : Q (.returned (.agg #[c0, c1, c2, c3, c4])) w) : bodyPost Tryz.prog fn Q .ret a w :=
 bodyPost_ret (results_cell_row hr _ _ b 84 _ (0, 0) _ hp hh Tryz.underlying84 rfl (by exact sizeIN)) hd hQ
theorem field_in (W : World) (c0 c1 c3 c4 c5 c8 : Value) (wq p6 p7 : Option Addr) (n6 q6 n7 q7 : Nat) (h0 : ∃ z, c0 = .int .i64 z) (h1 : ∃ z, c1 = .int .u16 z) (h3 : ∃ z, c3 = .int .i64 z) (h4 : ∃ z, c4 = .int .i64 z) : (Instr.field 173 (.agg #[c0, c1, .pointer wq, c3, c4, c5, .slice p6 n6 q6, .slice p7 n7 q7, c8]) 0).run Tryz.prog W = .ok (.agg #[c0, c1, .pointer wq, c3, c4]) W := by
 obtain ⟨z0, rfl⟩ := h0
 obtain ⟨z1, rfl⟩ := h1
 obtain ⟨z3, rfl⟩ := h3
 obtain ⟨z4, rfl⟩ := h4
 simp [Instr.field, run_underlying Tryz.underlying173, Value.cells, Tryz.sizeOf84, go_sem, asAgg, part]
theorem field_p (W : World) (z0 z1 z3 z4 : Int) (wq : Option Addr) : (Instr.field 84 (.agg #[.int .i64 z0, .int .u16 z1, .pointer wq, .int .i64 z3, .int .i64 z4]) 3).run Tryz.prog W = .ok (.agg #[.int .i64 z3, .int .i64 z4]) W := by
 simp [Instr.field, run_underlying Tryz.underlying84, Value.cells, Tryz.sizeOf33, go_sem, asAgg, part]
theorem row_below {n : Nat} {A B : World} (h : Below n A B) (b : Nat) (hb : n <= b) (c : Array Value) : Below n A (B.setRow b c) :=
 ⟨h.os, h.tape, h.output, by rw [size_setRow]; exact h.size, fun i hi => (setRow_other _ _ i _ (by omega)).trans (h.block i hi)⟩
theorem boxI (W : World) (a b c : Value) (t : TypeId) : ∃ W1, (W.alloc (.cells #[a, b, c] t)).alloc (.cells #[.int .i64 0, .int .u16 0, .pointer none, .int .i64 0, .int .i64 0] 84) = W1 /\ Below W.heap.size W W1 /\ W1.heap[W.heap.size + 1]? = some (.cells #[.int .i64 0, .int .u16 0, .pointer none, .int .i64 0, .int .i64 0] 84 (0, 0)) /\ W1.heap.size = W.heap.size + 2 /\ W1.cell? ⟨W.heap.size, 0, none⟩ = some a /\ W1.cell? ⟨W.heap.size, 1, none⟩ = some b /\ W1.cell? ⟨W.heap.size, 2, none⟩ = some c := by
 refine ⟨_, rfl, ((Below.refl _ _).alloc (Nat.le_refl _) _).alloc (by simp) _, heap_alloc2_new W _ _, by simp, ?_⟩
 have h2 : ((W.alloc (.cells #[a, b, c] t)).alloc (.cells #[.int .i64 0, .int .u16 0, .pointer none, .int .i64 0, .int .i64 0] 84)).heap[W.heap.size]? = some (.cells [a, b, c].toArray t (0, 0)) := by rw [Below.heap_alloc _ _ _ (by simp)]; exact heap_alloc_new W _
 exact ⟨S.cell_of _ _ 0 _ t _ h2 rfl, S.cell_of _ _ 1 _ t _ h2 rfl, S.cell_of _ _ 2 _ t _ h2 rfl⟩
theorem Sp.addedC (h : Sp W O l i x r e b o c wq tp op tc oc t bx) (W' : World) (k : Below W.heap.size W W') (q : Int) :
  Calls Tryz.prog 187 #[.agg #[.slice (some ⟨b, o, none⟩) l.length c, .int .i64 (i : Int), .iface t bx], .int .i64 q] W' fun e' w' => e' = .returned (.agg #[.int .i64 q, .int .u16 0, .pointer none, .int .i64 x.p.1, .int .i64 x.p.2]) /\ Below W'.heap.size W' w' := by
 obtain ⟨W1, hW1, hb1, u2, hs1, x0, x1, x2⟩ := boxI W' (.slice (some ⟨b, o, none⟩) l.length c) (.int .i64 (i : Int)) (.iface t bx) 175
 have hc := h.node W1 (k.trans (hb1.mono k.size))
 have HW1 := hid hW1
 have HB1 := hid (And.intro hb1 u2)
 have HS := hid hs1
 have hfp := fun w => field_p w x.op x.v x.p.1 x.p.2 wq
 have hfd := fun w => field_in w (.int .i64 x.op) (.int .u16 x.v) (.int .i64 x.p.1) (.int .i64 x.p.2) (.int .i64 x.k) (.bool x.has) wq tp op x.th.length tc x.ot.length oc ⟨_, rfl⟩ ⟨_, rfl⟩ ⟨_, rfl⟩ ⟨_, rfl⟩
 clear hW1 h k u2 hs1 hb1
 generalize l.length = N at *
 generalize x.th.length = tn at *
 generalize x.ot.length = on at *
 go_enter Tryz.func187, Tryz.ntmps187
 go_upto_region 1 with fail
 rw [HW1.out]
 go_wp2_with fail
 refine hc.mono ?_
 rintro e' w2 ⟨rfl, hb2⟩
 have u2 : w2.heap[W'.heap.size + 1]? = some (.cells #[.int .i64 0, .int .u16 0, .pointer none, .int .i64 0, .int .i64 0] 84 (0, 0)) := (hb2.block _ (by rw [HS.out]; omega)).trans HB1.out.2
 have HB2 := hid (HB1.out.1.trans (hb2.mono HB1.out.1.size))
 clear hc hb2 HB1 HW1 x0 x1 x2
 go_wp2_with (refine wpList_store_row rfl 84 _ _ rfl (W'.heap.size + 1) _ rfl rfl 84 _ u2 (by exact sizeIN) (by rfl) (by simp [Value.oneCell']) ?_)
 exact inst_ret rfl (setRow_heap w2 (W'.heap.size + 1) _ _ _ _ u2) rfl rfl ⟨rfl, row_below HB2.out (W'.heap.size + 1) (by omega) _⟩
theorem look_1 (h : Sp W O l i x r e b o c wq tp op tc oc t bx) (W' : World) (k : Below W.heap.size W W') :
  Calls Tryz.prog 185 #[.agg #[.slice (some ⟨b, o, none⟩) l.length c, .int .i64 (i : Int), .iface t bx]] W' fun e' w' => e' = .returned (.agg #[.int .i64 5, .int .u16 0, .pointer none, .int .i64 x.p.1, .int .i64 x.p.2]) /\ Below W'.heap.size W' w' := by
 obtain ⟨W1, hW1, hb1, u2, hs1, x0, x1, x2⟩ := boxI W' (.slice (some ⟨b, o, none⟩) l.length c) (.int .i64 (i : Int)) (.iface t bx) 192
 have hc := h.addedC W1 (k.trans (hb1.mono k.size)) 5
 have HW1 := hid hW1
 have HB1 := hid (And.intro hb1 u2)
 have HS := hid hs1
 clear hW1 h k u2 hs1 hb1
 generalize l.length = N at *
 go_enter Tryz.func185, Tryz.ntmps185
 go_upto_region 1 with fail
 rw [HW1.out]
 go_wp2_with fail
 refine hc.mono ?_
 rintro e' w2 ⟨rfl, hb2⟩
 have u2 : w2.heap[W'.heap.size + 1]? = some (.cells #[.int .i64 0, .int .u16 0, .pointer none, .int .i64 0, .int .i64 0] 84 (0, 0)) := (hb2.block _ (by rw [HS.out]; omega)).trans HB1.out.2
 have HB2 := hid (HB1.out.1.trans (hb2.mono HB1.out.1.size))
 clear hc hb2 HB1 HW1 x0 x1 x2
 go_wp2_with (refine wpList_store_row rfl 84 _ _ rfl (W'.heap.size + 1) _ rfl rfl 84 _ u2 (by exact sizeIN) (by rfl) (by simp [Value.oneCell']) ?_)
 exact inst_ret rfl (setRow_heap w2 (W'.heap.size + 1) _ _ _ _ u2) rfl rfl ⟨rfl, row_below HB2.out (W'.heap.size + 1) (by omega) _⟩
theorem look_2 (h : Sp W O l i x r e b o c wq tp op tc oc t bx) (W' : World) (k : Below W.heap.size W W') :
  Calls Tryz.prog 201 #[.agg #[.slice (some ⟨b, o, none⟩) l.length c, .int .i64 (i : Int), .iface t bx]] W' fun e' w' => e' = .returned (.agg #[.int .i64 4, .int .u16 0, .pointer none, .int .i64 x.p.1, .int .i64 x.p.2]) /\ Below W'.heap.size W' w' := by
 obtain ⟨W1, hW1, hb1, u2, hs1, x0, x1, x2⟩ := boxI W' (.slice (some ⟨b, o, none⟩) l.length c) (.int .i64 (i : Int)) (.iface t bx) 269
 have hc := h.addedC W1 (k.trans (hb1.mono k.size)) 4
 have HW1 := hid hW1
 have HB1 := hid (And.intro hb1 u2)
 have HS := hid hs1
 clear hW1 h k u2 hs1 hb1
 generalize l.length = N at *
 go_enter Tryz.func201, Tryz.ntmps201
 go_upto_region 1 with fail
 rw [HW1.out]
 go_wp2_with fail
 refine hc.mono ?_
 rintro e' w2 ⟨rfl, hb2⟩
 have u2 : w2.heap[W'.heap.size + 1]? = some (.cells #[.int .i64 0, .int .u16 0, .pointer none, .int .i64 0, .int .i64 0] 84 (0, 0)) := (hb2.block _ (by rw [HS.out]; omega)).trans HB1.out.2
 have HB2 := hid (HB1.out.1.trans (hb2.mono HB1.out.1.size))
 clear hc hb2 HB1 HW1 x0 x1 x2
 go_wp2_with (refine wpList_store_row rfl 84 _ _ rfl (W'.heap.size + 1) _ rfl rfl 84 _ u2 (by exact sizeIN) (by rfl) (by simp [Value.oneCell']) ?_)
 exact inst_ret rfl (setRow_heap w2 (W'.heap.size + 1) _ _ _ _ u2) rfl rfl ⟨rfl, row_below HB2.out (W'.heap.size + 1) (by omega) _⟩
theorem look_3 (h : Sp W O l i x r e b o c wq tp op tc oc t bx) (W' : World) (k : Below W.heap.size W W') :
  Calls Tryz.prog 189 #[.agg #[.slice (some ⟨b, o, none⟩) l.length c, .int .i64 (i : Int), .iface t bx]] W' fun e' w' => e' = .returned (.agg #[.int .i64 5, .int .u16 0, .pointer none, .int .i64 x.p.1, .int .i64 x.p.2]) /\ Below W'.heap.size W' w' := by
 obtain ⟨W1, hW1, hb1, u2, hs1, x0, x1, x2⟩ := boxI W' (.slice (some ⟨b, o, none⟩) l.length c) (.int .i64 (i : Int)) (.iface t bx) 193
 have hc := h.addedC W1 (k.trans (hb1.mono k.size)) 5
 have HW1 := hid hW1
 have HB1 := hid (And.intro hb1 u2)
 have HS := hid hs1
 clear hW1 h k u2 hs1 hb1
 generalize l.length = N at *
 go_enter Tryz.func189, Tryz.ntmps189
 go_upto_region 1 with fail
 rw [HW1.out]
 go_wp2_with fail
 refine hc.mono ?_
 rintro e' w2 ⟨rfl, hb2⟩
 have u2 : w2.heap[W'.heap.size + 1]? = some (.cells #[.int .i64 0, .int .u16 0, .pointer none, .int .i64 0, .int .i64 0] 84 (0, 0)) := (hb2.block _ (by rw [HS.out]; omega)).trans HB1.out.2
 have HB2 := hid (HB1.out.1.trans (hb2.mono HB1.out.1.size))
 clear hc hb2 HB1 HW1 x0 x1 x2
 go_wp2_with (refine wpList_store_row rfl 84 _ _ rfl (W'.heap.size + 1) _ rfl rfl 84 _ u2 (by exact sizeIN) (by rfl) (by simp [Value.oneCell']) ?_)
 exact inst_ret rfl (setRow_heap w2 (W'.heap.size + 1) _ _ _ _ u2) rfl rfl ⟨rfl, row_below HB2.out (W'.heap.size + 1) (by omega) _⟩
theorem look_4 (h : Sp W O l i x r e b o c wq tp op tc oc t bx) (W' : World) (k : Below W.heap.size W W') :
  Calls Tryz.prog 191 #[.agg #[.slice (some ⟨b, o, none⟩) l.length c, .int .i64 (i : Int), .iface t bx]] W' fun e' w' => e' = .returned (.agg #[.int .i64 5, .int .u16 0, .pointer none, .int .i64 x.p.1, .int .i64 x.p.2]) /\ Below W'.heap.size W' w' := by
 obtain ⟨W1, hW1, hb1, u2, hs1, x0, x1, x2⟩ := boxI W' (.slice (some ⟨b, o, none⟩) l.length c) (.int .i64 (i : Int)) (.iface t bx) 194
 have hc := h.addedC W1 (k.trans (hb1.mono k.size)) 5
 have HW1 := hid hW1
 have HB1 := hid (And.intro hb1 u2)
 have HS := hid hs1
 clear hW1 h k u2 hs1 hb1
 generalize l.length = N at *
 go_enter Tryz.func191, Tryz.ntmps191
 go_upto_region 1 with fail
 rw [HW1.out]
 go_wp2_with fail
 refine hc.mono ?_
 rintro e' w2 ⟨rfl, hb2⟩
 have u2 : w2.heap[W'.heap.size + 1]? = some (.cells #[.int .i64 0, .int .u16 0, .pointer none, .int .i64 0, .int .i64 0] 84 (0, 0)) := (hb2.block _ (by rw [HS.out]; omega)).trans HB1.out.2
 have HB2 := hid (HB1.out.1.trans (hb2.mono HB1.out.1.size))
 clear hc hb2 HB1 HW1 x0 x1 x2
 go_wp2_with (refine wpList_store_row rfl 84 _ _ rfl (W'.heap.size + 1) _ rfl rfl 84 _ u2 (by exact sizeIN) (by rfl) (by simp [Value.oneCell']) ?_)
 exact inst_ret rfl (setRow_heap w2 (W'.heap.size + 1) _ _ _ _ u2) rfl rfl ⟨rfl, row_below HB2.out (W'.heap.size + 1) (by omega) _⟩
theorem look_5 (h : Sp W O l i x r e b o c wq tp op tc oc t bx) (W' : World) (k : Below W.heap.size W W') :
  Calls Tryz.prog 193 #[.agg #[.slice (some ⟨b, o, none⟩) l.length c, .int .i64 (i : Int), .iface t bx]] W' fun e' w' => e' = .returned (.agg #[.int .i64 4, .int .u16 0, .pointer none, .int .i64 x.p.1, .int .i64 x.p.2]) /\ Below W'.heap.size W' w' := by
 obtain ⟨W1, hW1, hb1, u2, hs1, x0, x1, x2⟩ := boxI W' (.slice (some ⟨b, o, none⟩) l.length c) (.int .i64 (i : Int)) (.iface t bx) 195
 have hc := h.addedC W1 (k.trans (hb1.mono k.size)) 4
 have HW1 := hid hW1
 have HB1 := hid (And.intro hb1 u2)
 have HS := hid hs1
 clear hW1 h k u2 hs1 hb1
 generalize l.length = N at *
 go_enter Tryz.func193, Tryz.ntmps193
 go_upto_region 1 with fail
 rw [HW1.out]
 go_wp2_with fail
 refine hc.mono ?_
 rintro e' w2 ⟨rfl, hb2⟩
 have u2 : w2.heap[W'.heap.size + 1]? = some (.cells #[.int .i64 0, .int .u16 0, .pointer none, .int .i64 0, .int .i64 0] 84 (0, 0)) := (hb2.block _ (by rw [HS.out]; omega)).trans HB1.out.2
 have HB2 := hid (HB1.out.1.trans (hb2.mono HB1.out.1.size))
 clear hc hb2 HB1 HW1 x0 x1 x2
 go_wp2_with (refine wpList_store_row rfl 84 _ _ rfl (W'.heap.size + 1) _ rfl rfl 84 _ u2 (by exact sizeIN) (by rfl) (by simp [Value.oneCell']) ?_)
 exact inst_ret rfl (setRow_heap w2 (W'.heap.size + 1) _ _ _ _ u2) rfl rfl ⟨rfl, row_below HB2.out (W'.heap.size + 1) (by omega) _⟩
theorem look_6 (h : Sp W O l i x r e b o c wq tp op tc oc t bx) (W' : World) (k : Below W.heap.size W W') :
  Calls Tryz.prog 195 #[.agg #[.slice (some ⟨b, o, none⟩) l.length c, .int .i64 (i : Int), .iface t bx]] W' fun e' w' => e' = .returned (.agg #[.int .i64 6, .int .u16 0, .pointer none, .int .i64 x.p.1, .int .i64 x.p.2]) /\ Below W'.heap.size W' w' := by
 obtain ⟨W1, hW1, hb1, u2, hs1, x0, x1, x2⟩ := boxI W' (.slice (some ⟨b, o, none⟩) l.length c) (.int .i64 (i : Int)) (.iface t bx) 196
 have hc := h.addedC W1 (k.trans (hb1.mono k.size)) 6
 have HW1 := hid hW1
 have HB1 := hid (And.intro hb1 u2)
 have HS := hid hs1
 clear hW1 h k u2 hs1 hb1
 generalize l.length = N at *
 go_enter Tryz.func195, Tryz.ntmps195
 go_upto_region 1 with fail
 rw [HW1.out]
 go_wp2_with fail
 refine hc.mono ?_
 rintro e' w2 ⟨rfl, hb2⟩
 have u2 : w2.heap[W'.heap.size + 1]? = some (.cells #[.int .i64 0, .int .u16 0, .pointer none, .int .i64 0, .int .i64 0] 84 (0, 0)) := (hb2.block _ (by rw [HS.out]; omega)).trans HB1.out.2
 have HB2 := hid (HB1.out.1.trans (hb2.mono HB1.out.1.size))
 clear hc hb2 HB1 HW1 x0 x1 x2
 go_wp2_with (refine wpList_store_row rfl 84 _ _ rfl (W'.heap.size + 1) _ rfl rfl 84 _ u2 (by exact sizeIN) (by rfl) (by simp [Value.oneCell']) ?_)
 exact inst_ret rfl (setRow_heap w2 (W'.heap.size + 1) _ _ _ _ u2) rfl rfl ⟨rfl, row_below HB2.out (W'.heap.size + 1) (by omega) _⟩
theorem look_7 (h : Sp W O l i x r e b o c wq tp op tc oc t bx) (W' : World) (k : Below W.heap.size W W') :
  Calls Tryz.prog 203 #[.agg #[.slice (some ⟨b, o, none⟩) l.length c, .int .i64 (i : Int), .iface t bx]] W' fun e' w' => e' = .returned (.agg #[.int .i64 7, .int .u16 0, .pointer none, .int .i64 x.p.1, .int .i64 x.p.2]) /\ Below W'.heap.size W' w' := by
 obtain ⟨W1, hW1, hb1, u2, hs1, x0, x1, x2⟩ := boxI W' (.slice (some ⟨b, o, none⟩) l.length c) (.int .i64 (i : Int)) (.iface t bx) 270
 have hc := h.addedC W1 (k.trans (hb1.mono k.size)) 7
 have HW1 := hid hW1
 have HB1 := hid (And.intro hb1 u2)
 have HS := hid hs1
 clear hW1 h k u2 hs1 hb1
 generalize l.length = N at *
 go_enter Tryz.func203, Tryz.ntmps203
 go_upto_region 1 with fail
 rw [HW1.out]
 go_wp2_with fail
 refine hc.mono ?_
 rintro e' w2 ⟨rfl, hb2⟩
 have u2 : w2.heap[W'.heap.size + 1]? = some (.cells #[.int .i64 0, .int .u16 0, .pointer none, .int .i64 0, .int .i64 0] 84 (0, 0)) := (hb2.block _ (by rw [HS.out]; omega)).trans HB1.out.2
 have HB2 := hid (HB1.out.1.trans (hb2.mono HB1.out.1.size))
 clear hc hb2 HB1 HW1 x0 x1 x2
 go_wp2_with (refine wpList_store_row rfl 84 _ _ rfl (W'.heap.size + 1) _ rfl rfl 84 _ u2 (by exact sizeIN) (by rfl) (by simp [Value.oneCell']) ?_)
 exact inst_ret rfl (setRow_heap w2 (W'.heap.size + 1) _ _ _ _ u2) rfl rfl ⟨rfl, row_below HB2.out (W'.heap.size + 1) (by omega) _⟩
theorem look_0 (h : Sp W O l i x r e b o c wq tp op tc oc t bx) (W' : World) (k : Below W.heap.size W W') :
  Calls Tryz.prog 197 #[.agg #[.slice (some ⟨b, o, none⟩) l.length c, .int .i64 (i : Int), .iface t bx]] W' fun e' w' => e' = .returned (.agg #[.int .i64 x.op, .int .u16 x.v, .pointer wq, .int .i64 x.p.1, .int .i64 x.p.2]) /\ Below W'.heap.size W' w' := by
 obtain ⟨W1, hW1, hb1, u2, hs1, x0, x1, x2⟩ := boxI W' (.slice (some ⟨b, o, none⟩) l.length c) (.int .i64 (i : Int)) (.iface t bx) 197
 have hc := h.node W1 (k.trans (hb1.mono k.size))
 have hfd := fun w => field_in w (.int .i64 x.op) (.int .u16 x.v) (.int .i64 x.p.1) (.int .i64 x.p.2) (.int .i64 x.k) (.bool x.has) wq tp op x.th.length tc x.ot.length oc ⟨_, rfl⟩ ⟨_, rfl⟩ ⟨_, rfl⟩ ⟨_, rfl⟩
 have HW1 := hid hW1
 have HB1 := hid (And.intro hb1 u2)
 have HS := hid hs1
 clear hW1 h k u2 hs1 hb1
 generalize l.length = N at *
 generalize x.th.length = tn at *
 generalize x.ot.length = on at *
 go_enter Tryz.func197, Tryz.ntmps197
 go_upto_region 1 with fail
 rw [HW1.out]
 go_wp2_with fail
 refine hc.mono ?_
 rintro e' w2 ⟨rfl, hb2⟩
 have u2 : w2.heap[W'.heap.size + 1]? = some (.cells #[.int .i64 0, .int .u16 0, .pointer none, .int .i64 0, .int .i64 0] 84 (0, 0)) := (hb2.block _ (by rw [HS.out]; omega)).trans HB1.out.2
 have HB2 := hid (HB1.out.1.trans (hb2.mono HB1.out.1.size))
 clear hc hb2 HB1 HW1 x0 x1 x2
 go_wp2_with (refine wpList_store_row rfl 84 _ _ rfl (W'.heap.size + 1) _ rfl rfl 84 _ u2 (by exact sizeIN) (by rfl) (by simp [Value.oneCell']) ?_)
 exact inst_ret rfl (setRow_heap w2 (W'.heap.size + 1) _ _ _ _ u2) rfl rfl ⟨rfl, row_below HB2.out (W'.heap.size + 1) (by omega) _⟩
theorem look_end (p : Ps) (W : World) : Calls Tryz.prog 183 #[.agg #[.int .i64 p.1, .int .i64 p.2]] W fun e w' => e = .returned (.agg #[.int .i64 8, .int .u16 0, .pointer none, .int .i64 p.1, .int .i64 p.2]) /\ Below W.heap.size W w' := by
 go_enter Tryz.func183, Tryz.ntmps183
 go_wp2_with fail
 exact inst_ret rfl (heap_alloc2_new W _ _) rfl rfl ⟨rfl, ((Below.refl _ _).alloc (Nat.le_refl _) _).alloc (by simp) _⟩
end
end Go.Proofs.YtoemoiehjdmheaaGreat.Z
