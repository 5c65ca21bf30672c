import Derived.Test.YtoemoiehjdmheaaGreatZDon
import Derived.Test.YtoemoiehjdmheaaGreatDDrop
namespace Go.Proofs.YtoemoiehjdmheaaGreat.Z
open Go.RowKit
open Go.Proofs
open Go.Proofs.YtoemoiehjdmheaaGreat.Y (Nd Df Ps Pl hid ZV)
set_option linter.unusedVariables false
set_option linter.unusedSimpArgs false
set_option maxHeartbeats 4000000
set_option maxRecDepth 100000
theorem wbegin_any (wb : Nat) (l : List Mn) (bv : Value) (wp : Ps) (O : Nat -> Prop) (W : World) (hb : W.heap[wb]? = some (.cells [bv, .int .i64 wp.1, .int .i64 wp.2].toArray 149 (0, 0))) (hN : MNV W O bv l) (hO : ∀ i, O i -> i < W.heap.size) (hOb : O wb) :
  Calls Tryz.prog 35 #[.pointer (some ⟨wb, 0, none⟩)] W fun e' w' => ∃ v, e' = .returned v /\ PV W O (bgn l 0 []) wp v /\ Below W.heap.size W w' := by
 obtain ⟨p, c, rfl, _, _⟩ := hN.ex
 have HC := hid (fun (w : World) (k : Below W.heap.size W w) => show w.cell? ⟨wb, 0, none⟩ = some (.slice p l.length c) /\ w.cell? ⟨wb, 1, none⟩ = some (.int .i64 wp.1) /\ w.cell? ⟨wb, 2, none⟩ = some (.int .i64 wp.2) from by
  have h2 := (k.block wb (hO _ hOb)).trans hb
  exact ⟨S.cell_of w _ 0 _ _ _ h2 rfl, S.cell_of w _ 1 _ _ _ h2 rfl, S.cell_of w _ 2 _ _ _ h2 rfl⟩)
 have hcall := fun W' (k : Below W.heap.size W W') => first_up (O := O) l p c 152 (.agg #[.int .i64 wp.1, .int .i64 wp.2]) [] wp hN rfl hO W' k
 have HF := hid hcall
 clear hb hN hcall
 generalize l.length = N at *
 go_enter Tryz.func35, Tryz.ntmps35
 go_upto_region 1 with fail
 refine wp_region_held_drew (S := fun w' : World => Below W.heap.size W w') (by kernel_rfl) (drewB W) (fun hHeld => ?_)
 generalize W.drew = y0 at *
 refine wpAnyH_take (i := 0) (v := ?_) rfl (by kernel_rfl) (by kernel_rfl) (by kernel_rfl) (fun c a w h => h) (Or.inl ⟨by rfl, ?_⟩) hHeld ?_
 rotate_left
 ·(intro w hSw; obtain ⟨x0, x1, x2⟩ := HC.out w hSw; go_simp; try with_reducible rfl)
 simp only [Act.put, List.getElem_toArray, List.getElem_cons_zero, List.getElem_cons_succ, List.setIfInBounds_toArray, List.set_cons_zero, List.set_cons_succ]
 refine wpAnyH_take (i := 1) (v := ?_) rfl (by kernel_rfl) (by kernel_rfl) (by kernel_rfl) (fun c a w h => h) (Or.inl ⟨by rfl, ?_⟩) hHeld ?_
 rotate_left
 ·(intro w hSw; obtain ⟨x0, x1, x2⟩ := HC.out w hSw; go_simp; try with_reducible rfl)
 simp only [Act.put, List.getElem_toArray, List.getElem_cons_zero, List.getElem_cons_succ, List.setIfInBounds_toArray, List.set_cons_zero, List.set_cons_succ]
 refine wpAnyH_take (i := 2) (v := ?_) rfl (by kernel_rfl) (by kernel_rfl) (by kernel_rfl) (fun c a w h => h) (Or.inl ⟨by rfl, ?_⟩) hHeld ?_
 rotate_left
 ·(intro w hSw; obtain ⟨x0, x1, x2⟩ := HC.out w hSw; go_simp; try with_reducible rfl)
 simp only [Act.put, List.getElem_toArray, List.getElem_cons_zero, List.getElem_cons_succ, List.setIfInBounds_toArray, List.set_cons_zero, List.set_cons_succ]
 refine wpAnyH_take (i := 3) (v := ?_) rfl (by kernel_rfl) (by kernel_rfl) (by kernel_rfl) (fun c a w h => h) (Or.inl ⟨by rfl, ?_⟩) hHeld ?_
 rotate_left
 ·(intro w hSw; obtain ⟨x0, x1, x2⟩ := HC.out w hSw; go_simp; try with_reducible rfl)
 simp only [Act.put, List.getElem_toArray, List.getElem_cons_zero, List.getElem_cons_succ, List.setIfInBounds_toArray, List.set_cons_zero, List.set_cons_succ]
 refine wpAnyH_take (i := 4) (v := ?_) rfl (by kernel_rfl) (by kernel_rfl) (by kernel_rfl) (fun c a w h => h) (Or.inl ⟨by rfl, ?_⟩) hHeld ?_
 rotate_left
 ·(intro w hSw; obtain ⟨x0, x1, x2⟩ := HC.out w hSw; go_simp; try with_reducible rfl)
 simp only [Act.put, List.getElem_toArray, List.getElem_cons_zero, List.getElem_cons_succ, List.setIfInBounds_toArray, List.set_cons_zero, List.set_cons_succ]
 refine wpAnyH_take (i := 5) (v := ?_) rfl (by kernel_rfl) (by kernel_rfl) (by kernel_rfl) (fun c a w h => h) (Or.inl ⟨by rfl, ?_⟩) hHeld ?_
 rotate_left
 ·(intro w hSw; obtain ⟨x0, x1, x2⟩ := HC.out w hSw; go_simp; try with_reducible rfl)
 simp only [Act.put, List.getElem_toArray, List.getElem_cons_zero, List.getElem_cons_succ, List.setIfInBounds_toArray, List.set_cons_zero, List.set_cons_succ]
 refine wpAnyH_take (i := 6) (v := ?_) rfl (by kernel_rfl) (by kernel_rfl) (by kernel_rfl) (fun c a w h => h) (Or.inl ⟨by rfl, ?_⟩) hHeld ?_
 rotate_left
 ·(intro w hSw; obtain ⟨x0, x1, x2⟩ := HC.out w hSw; go_simp; try with_reducible rfl)
 simp only [Act.put, List.getElem_toArray, List.getElem_cons_zero, List.getElem_cons_succ, List.setIfInBounds_toArray, List.set_cons_zero, List.set_cons_succ]
 refine wpAnyH_take (i := 7) (v := ?_) rfl (by kernel_rfl) (by kernel_rfl) (by kernel_rfl) (fun c a w h => h) (Or.inl ⟨by rfl, ?_⟩) hHeld ?_
 rotate_left
 ·(intro w hSw; obtain ⟨x0, x1, x2⟩ := HC.out w hSw; go_simp; try with_reducible rfl)
 simp only [Act.put, List.getElem_toArray, List.getElem_cons_zero, List.getElem_cons_succ, List.setIfInBounds_toArray, List.set_cons_zero, List.set_cons_succ]
 refine wpAnyH_take (i := 8) (v := ?_) rfl (by kernel_rfl) (by kernel_rfl) (by kernel_rfl) (fun c a w h => h) (Or.inl ⟨by rfl, ?_⟩) hHeld ?_
 rotate_left
 ·(intro w hSw; obtain ⟨x0, x1, x2⟩ := HC.out w hSw; go_simp; try with_reducible rfl)
 simp only [Act.put, List.getElem_toArray, List.getElem_cons_zero, List.getElem_cons_succ, List.setIfInBounds_toArray, List.set_cons_zero, List.set_cons_succ]
 refine wpAnyH_take (i := 9) (v := ?_) rfl (by kernel_rfl) (by kernel_rfl) (by kernel_rfl) (fun c a w h => h) (Or.inl ⟨by rfl, ?_⟩) hHeld ?_
 rotate_left
 ·(intro w hSw; obtain ⟨x0, x1, x2⟩ := HC.out w hSw; go_simp; try with_reducible rfl)
 simp only [Act.put, List.getElem_toArray, List.getElem_cons_zero, List.getElem_cons_succ, List.setIfInBounds_toArray, List.set_cons_zero, List.set_cons_succ]
 refine wpAnyH_ready (rs := [10]) (by kernel_rfl) (by simp) ?_
 refine AllReadyH.cons rfl (fun K hK => ?_) AllReadyH.nil
 go_simp
 refine (HF.out y0 hHeld).mono ?_
 rintro e' y1 ⟨v, rfl, hv, hb1⟩
 have hs1 : Below W.heap.size W y1 := Below.trans hHeld (hb1.mono hHeld.size)
 refine hK.out _ _ hs1 (fun hHeld => ?_)
 clear hK K
 try simp only [Act.put, List.getElem_toArray, List.getElem_cons_zero, List.getElem_cons_succ, List.setIfInBounds_toArray, List.set_cons_zero, List.set_cons_succ]
 refine wpAnyH_ready (rs := [11]) (by kernel_rfl) (by simp) ?_
 refine AllReadyH.cons rfl (fun K hK => ?_) AllReadyH.nil
 go_simp
 refine hK.out _ _ hs1 (fun hHeld => ?_)
 clear hK K
 try simp only [Act.put, List.getElem_toArray, List.getElem_cons_zero, List.getElem_cons_succ, List.setIfInBounds_toArray, List.set_cons_zero, List.set_cons_succ]
 refine wpAnyH_done (by kernel_rfl) ?_ _
 clear hHeld
 go_wp2
 go_ret
 exact ⟨v, rfl, hv, hs1⟩
section
variable (v : VS) (g bd br bm bs c : Nat) (F O : Nat -> Prop) (W : World)
theorem infoPC : (Tryz.prog.info? 86).map (fun i => (i.zero, i.size, i.bytes)) = some (some .nilIface, 1, 16) := by kernel_rfl
theorem enter_any (h : MV W g bd br bm bs c F O v) (hl : v.o.length <= 128) (wb : Nat) (l : List Mn) (bv : Value) (wp : Ps) (hb : W.heap[wb]? = some (.cells [bv, .int .i64 wp.1, .int .i64 wp.2].toArray 149 (0, 0))) (hN : MNV W O bv l) (hOb : O wb) (hok : okL l) :
  Calls Tryz.prog 54 #[.pointer (some ⟨g, 0, none⟩), .pointer (some ⟨wb, 0, none⟩)] W fun e w' => e = .returned (.int .i64 (enter [l] wp v).1) /\ VD W w' g bd br bm bs F O (enter [l] wp v).2 := by
 have hbA := P.bel_alloc W (.cells #[.int .i64 1, .int .u16 0] 106)
 have hs : S.Sl S.eK 2 (W.alloc (.cells #[.int .i64 1, .int .u16 0] 106)) (some ⟨W.heap.size, 0, none⟩) [(1, 0)] :=
  P.sl_block S.hK _ _ _ [(1, 0)] (heap_alloc_new W (.cells #[.int .i64 1, .int .u16 0] 106))
 have c3 := h.c3
 by_cases q1 : 128 < v.R.length + 1
 ·have ht : enter [l] wp v = (4, v) := by unfold enter; rw [if_pos q1]
  rw [ht]
  have hp := S.rpush_no br v.R [(1, 0)] (some ⟨W.heap.size, 0, none⟩) 1 _ (h.ps.r.below hbA) (by simpa using q1) (by unfold S.room; simp)
  simp only [List.length_cons, List.length_nil, Nat.reduceAdd] at hp
  have hv := h.same hbA
  clear h hbA hs ht q1 hb hN hOb hok
  go_enter Tryz.func54, Tryz.ntmps54
  go_wp2_with fail
  refine hp.mono ?_
  rintro e w1 ⟨rfl, rfl⟩
  go_wp2
  go_ret
  exact ⟨rfl, hv⟩
 ·have ht : enter [l] wp v = (0, { v with R := v.R ++ [(1, 0)], o := v.o ++ [onc v.c false], c := ⟨bgn l 0 [], wp⟩ }) := by unfold enter; rw [if_neg q1]; rfl
  rw [ht]
  have hp := S.rpush_yes br v.R [(1, 0)] (some ⟨W.heap.size, 0, none⟩) 1 _ (h.ps.r.below hbA) hs (by simp; omega)
  simp only [List.length_cons, List.length_nil, Nat.reduceAdd] at hp
  have hv : ∀ w', S.HasR w' br (v.R ++ [(1, 0)]) -> S.At br (W.alloc (.cells #[.int .i64 1, .int .u16 0] 106)) w' -> VD W w' g bd br bm bs F O { v with R := v.R ++ [(1, 0)] } := fun w' a1 a2 =>
   h.kv (at_below hbA a2) a1 fun q hq => by
    rcases List.mem_append.1 hq with hq | hq
    ·exact h.wf.r q hq
    ·simp at hq; subst hq; exact ⟨by omega, by omega⟩
  have HH := hid (And.intro h (And.intro hb (And.intro hN (And.intro hOb (And.intro hok hl)))))
  clear h hbA hs ht q1 hb hN hOb hok
  go_enter Tryz.func54, Tryz.ntmps54
  go_wp2_with fail
  refine hp.mono ?_
  rintro e w1 ⟨rfl, a1, a2⟩
  have hV1 := hv _ a1 a2
  obtain ⟨bs1, c1, F1, hM1, hF1, hbs1⟩ := hV1.s
  have kg := goon_any hM1 HH.out.2.2.2.2.2 false
  have HV1 := hid (And.intro hV1 (And.intro hF1 hbs1))
  clear a1 a2 hv hp c3 hV1 hF1 hbs1 hM1
  go_wp2_with fail
  refine kg.mono ?_
  rintro e w2 ⟨rfl, hV2⟩
  obtain ⟨bs2, c2, F2, hM2, hF2, hbs2⟩ := hV2.s
  have hkO : ∀ i, O i -> w2.heap[i]? = W.heap[i]? := fun i hi => by
   have h1 := HH.out.1.ol i hi
   have hob := HH.out.1.ob i hi
   have e1 : w1.heap[i]? = W.heap[i]? := HV1.out.1.t.block i h1 (by rintro (e | e | e | e | e); exact hob.1 e; exact hob.2.1 e; exact hob.2.2.1 e; exact hob.2.2.2.1 e; exact hob.2.2.2.2 e)
   refine (hV2.t.block i (Nat.lt_of_lt_of_le h1 HV1.out.1.t.size) ?_).trans e1
   rintro (e | e | e | e | e)
   ·exact hob.1 e
   ·exact hob.2.1 e
   ·exact hob.2.2.1 e
   ·rcases HV1.out.2.2 with rfl | e'
    ·exact hob.2.2.2.1 e
    ·omega
   ·rcases HV1.out.2.1 i e with e | ⟨e, _⟩
    ·exact hob.2.2.2.2 e
    ·omega
  have hN2 : MNV w2 O bv l := HH.out.2.2.1.kept hkO fun _ h => h
  have hb2 := (hkO wb HH.out.2.2.2.1).trans HH.out.2.1
  have kw := fun W' (k : Below w2.heap.size w2 W') => wbegin_any wb l bv wp O W' ((k.block _ (hM2.ol _ HH.out.2.2.2.1)).trans hb2) (hN2.below k hM2.ol) (fun i hi => Nat.lt_of_lt_of_le (hM2.ol i hi) k.size) HH.out.2.2.2.1
  have c5 := hM2.c5
  have HV2 := hid (And.intro hV2 (And.intro hM2 (And.intro hF2 hbs2)))
  have HW := hid kw
  have hb20 : Below w2.heap.size w2 w2.drew := drewB w2
  clear kg hV2 hM2 hF2 hbs2 hkO hN2 hb2 kw
  go_upto_region 5 with fail
  refine D.wp_region_drop [11] (S := fun w' : World => w'.cell? ⟨g, 5, none⟩ = some (.slice (some ⟨bs2, 0, none⟩) (v.o.length + 1) c2)) (by kernel_rfl) (show w2.drew.cell? ⟨g, 5, none⟩ = _ from c5) (fun hHeld => ?_)
  generalize w2.drew = y0 at *
  clear c5
  refine D.wpD_take (i := 0) (v := ?_) rfl (by kernel_rfl) (by kernel_rfl) (by kernel_rfl) (by kernel_rfl) (by kernel_rfl) (fun c a w h => h) (Or.inl ⟨by rfl, ?_⟩) hHeld ?_
  rotate_left
  ·(intro w hSw; have c5 := hSw; go_simp; try with_reducible rfl)
  simp only [Act.put, List.getElem_toArray, List.getElem_cons_zero, List.getElem_cons_succ, List.setIfInBounds_toArray, List.set_cons_zero, List.set_cons_succ]
  refine D.wpD_take (i := 1) (v := ?_) rfl (by kernel_rfl) (by kernel_rfl) (by kernel_rfl) (by kernel_rfl) (by kernel_rfl) (fun c a w h => h) (Or.inl ⟨by rfl, ?_⟩) hHeld ?_
  rotate_left
  ·(intro w hSw; have c5 := hSw; go_simp; try with_reducible rfl)
  simp only [Act.put, List.getElem_toArray, List.getElem_cons_zero, List.getElem_cons_succ, List.setIfInBounds_toArray, List.set_cons_zero, List.set_cons_succ]
  refine D.wpD_take (i := 2) (v := ?_) rfl (by kernel_rfl) (by kernel_rfl) (by kernel_rfl) (by kernel_rfl) (by kernel_rfl) (fun c a w h => h) (Or.inl ⟨by rfl, ?_⟩) hHeld ?_
  rotate_left
  ·(intro w hSw; have c5 := hSw; go_simp; try with_reducible rfl)
  simp only [Act.put, List.getElem_toArray, List.getElem_cons_zero, List.getElem_cons_succ, List.setIfInBounds_toArray, List.set_cons_zero, List.set_cons_succ]
  refine D.wpD_take (i := 3) (v := ?_) rfl (by kernel_rfl) (by kernel_rfl) (by kernel_rfl) (by kernel_rfl) (by kernel_rfl) (fun c a w h => h) (Or.inl ⟨by rfl, ?_⟩) hHeld ?_
  rotate_left
  ·(intro w hSw; have c5 := hSw; go_simp; try with_reducible rfl)
  simp only [Act.put, List.getElem_toArray, List.getElem_cons_zero, List.getElem_cons_succ, List.setIfInBounds_toArray, List.set_cons_zero, List.set_cons_succ]
  refine D.wpD_take (i := 4) (v := ?_) rfl (by kernel_rfl) (by kernel_rfl) (by kernel_rfl) (by kernel_rfl) (by kernel_rfl) (fun c a w h => h) (Or.inl ⟨by rfl, ?_⟩) hHeld ?_
  rotate_left
  ·(intro w hSw; have c5 := hSw; go_simp; try with_reducible rfl)
  simp only [Act.put, List.getElem_toArray, List.getElem_cons_zero, List.getElem_cons_succ, List.setIfInBounds_toArray, List.set_cons_zero, List.set_cons_succ]
  refine D.wpD_take (i := 5) (v := ?_) rfl (by kernel_rfl) (by kernel_rfl) (by kernel_rfl) (by kernel_rfl) (by kernel_rfl) (fun c a w h => h) (Or.inl ⟨by rfl, ?_⟩) hHeld ?_
  rotate_left
  ·(intro w hSw; have c5 := hSw; go_simp; try with_reducible rfl)
  simp only [Act.put, List.getElem_toArray, List.getElem_cons_zero, List.getElem_cons_succ, List.setIfInBounds_toArray, List.set_cons_zero, List.set_cons_succ]
  refine D.wpD_ready (rs := [6]) (by kernel_rfl) (by simp) ?_
  refine D.AllD.cons rfl (fun K hK => ?_) D.AllD.nil
  go_simp
  refine (HW.out y0 hb20).mono ?_
  rintro e y1 ⟨x1, rfl, hx1, hb1⟩
  have hx1 := PV.up hb20 HV2.out.2.1.ol hx1
  obtain ⟨t1, u1, rfl⟩ := PV.isI _ _ _ hx1
  have hb1 := hb20.trans (hb1.mono hb20.size)
  refine hK.out _ _ (HV2.out.2.1.below hb1).c5 (fun hHeld => ?_)
  clear hK K
  try simp only [Act.put, List.getElem_toArray, List.getElem_cons_zero, List.getElem_cons_succ, List.setIfInBounds_toArray, List.set_cons_zero, List.set_cons_succ]
  have hb3 : Below w2.heap.size w2 (y1.alloc (.cells #[.iface t1 u1] 86)) := hb1.alloc hb1.size _
  have hcs : S.Cs (y1.alloc (.cells #[.iface t1 u1] 86)) (.slice (some ⟨y1.heap.size, 0, none⟩) 1 1) 1 1 [.iface t1 u1] := .inr ⟨_, _, rfl, rfl, fun j u hj => by rw [Addr.add_lit, Nat.zero_add]; exact S.cell_of _ _ j [.iface t1 u1] _ u (heap_alloc_new y1 _) hj, fun u hu => by simp at hu; subst hu; rfl⟩
  refine D.wpD_ready (rs := [7]) (by kernel_rfl) (by simp) ?_
  refine D.AllD.cons rfl (fun K hK => ?_) D.AllD.nil
  go_simp
  refine hK.out _ _ (HV2.out.2.1.below hb3).c5 (fun hHeld => ?_)
  clear hK K
  try simp only [Act.put, List.getElem_toArray, List.getElem_cons_zero, List.getElem_cons_succ, List.setIfInBounds_toArray, List.set_cons_zero, List.set_cons_succ]
  generalize y1.alloc (.cells #[.iface t1 u1] 86) = y3 at *
  have hM3 := HV2.out.2.1.below hb3
  obtain ⟨xs, hrow, hps⟩ := hM3.row
  have hl3 : v.o.length <= 128 := HH.out.2.2.2.2.2
  have hrow' : y3.ownsRow 0 86 1 (.slice (some ⟨bs2, 0, none⟩) (v.o.length + 1) c2) (v.o.length + 1) xs := hrow
  refine D.wpD_ready (rs := [8]) (by kernel_rfl) (by simp) ?_
  refine D.AllD.cons rfl (fun K hK => ?_) D.AllD.nil
  rw [if_pos (by rfl)]
  refine S.wp_append_row _ _ _ 74 86 .nilIface 1 16 Tryz.underlying74 infoPC rfl (by decide) rfl 0 _ (v.o.length + 1) xs rfl hrow' _ 1 _ rfl hcs (by unfold S.room; omega) (by unfold maxLen; omega) (by omega) (fun v5 w5 hr5 hg5 => ?_)
  obtain ⟨bs5, c5', rfl, hbs5, hM5, hT5⟩ := hM3.push ⟨bgn l 0 [], wp⟩ (.iface t1 u1) v5 w5 xs hps (hx1.below hb3 HV2.out.2.1.ol) (bgn_okP l 0 [] HH.out.2.2.2.2.1 fun f hf => by cases hf) hr5 hg5
  have hc5 : w5.cell? ⟨g, 5, none⟩ = some (.slice (some ⟨bs2, 0, none⟩) (v.o.length + 1) c2) := (World.cell?_of_block (w := y3) (hg5.block g hM3.lt (by intro e; exact hM3.ne.2.2.1 (by cases e; rfl)))).trans hM3.c5
  have hz5 : w5.frozen? ⟨g, 5, none⟩ = false := (World.frozen?_of_block (w := y3) (hg5.block g hM3.lt (by intro e; exact hM3.ne.2.2.1 (by cases e; rfl)))).trans (fz hM3 5)
  refine hK.out _ _ hc5 (fun hHeld => ?_)
  clear hK K
  try simp only [Act.put, List.getElem_toArray, List.getElem_cons_zero, List.getElem_cons_succ, List.setIfInBounds_toArray, List.set_cons_zero, List.set_cons_succ]
  refine D.wpD_takeP (i := 9) (v := ?_) rfl (by kernel_rfl) (by kernel_rfl) (by kernel_rfl) (by kernel_rfl) (fun c a w h => h) (Or.inl ⟨by rfl, ?_⟩) (fun _ => hHeld) ?_
  rotate_left
  ·(intro w hSw; clear hSw; go_simp; try with_reducible rfl)
  simp only [Act.put, List.getElem_toArray, List.getElem_cons_zero, List.getElem_cons_succ, List.setIfInBounds_toArray, List.set_cons_zero, List.set_cons_succ]
  refine D.wpD_takeP (i := 10) (v := ?_) rfl (by kernel_rfl) (by kernel_rfl) (by kernel_rfl) (by kernel_rfl) (fun c a w h => h) (Or.inl ⟨by rfl, ?_⟩) (fun _ => hHeld) ?_
  rotate_left
  ·(intro w hSw; clear hSw; go_simp; try with_reducible rfl)
  simp only [Act.put, List.getElem_toArray, List.getElem_cons_zero, List.getElem_cons_succ, List.setIfInBounds_toArray, List.set_cons_zero, List.set_cons_succ]
  refine D.wpD_ready (rs := [11]) (by kernel_rfl) (by simp) ?_
  refine D.AllD.late rfl (by kernel_rfl) (fun K hK => ?_)
  go_simp
  refine hK.out _ _ ?_
  clear hK K
  try simp only [Act.put, List.getElem_toArray, List.getElem_cons_zero, List.getElem_cons_succ, List.setIfInBounds_toArray, List.set_cons_zero, List.set_cons_succ]
  refine D.wpD_done (by kernel_rfl) ?_ _
  have hfin : VD W (w5.setCell ⟨g, 5, none⟩ (.slice (some ⟨bs5, 0, none⟩) (v.o.length + 1 + 1) c5')) g bd br bm bs F O { v with R := v.R ++ [(1, 0)], o := v.o ++ [onc v.c false], c := ⟨bgn l 0 [], wp⟩ } := by
   refine VD.step HV1.out.1.t HV1.out.2.1 HV1.out.2.2 (VD.step HV2.out.1.t HV2.out.2.2.1 HV2.out.2.2.2 (VD.pre hb3 ⟨⟨bs5, c5', F2, hM5, fun i hi => .inl hi, hbs5⟩, hT5⟩))
  have HF := hid hfin
  clear hHeld hc5 hz5 hfin hM5 hT5 hr5 hg5 hrow hrow' hps hcs hb3 hb1 hx1 hM3 hb20
  go_wp2
  go_ret
  exact ⟨rfl, HF.out⟩
theorem exit_any (h : MV W g bd br bm bs c F O v) (hk : calls v.R = v.o.length) :
  Calls Tryz.prog 55 #[.pointer (some ⟨g, 0, none⟩)] W fun e w' => e = .returned (.int .i64 (leave v).1) /\ VD W w' g bd br bm bs F O (leave v).2 := by
 have c3 := h.c3
 have kl := S.rlen br v.R W h.ps.r
 rcases List.eq_nil_or_concat v.R with hr | ⟨l, ⟨k, a⟩, hr⟩
 ·have ht : leave v = (0, { v with st := 2 }) := by unfold leave; rw [hr]; rfl
  rw [ht]
  have hv := h.halts 2
  have c0 := h.c0
  have z0 := fz h 0
  rw [hr] at kl
  simp only [List.length_nil] at kl
  clear h ht hr
  go_enter Tryz.func55, Tryz.ntmps55
  go_wp2_with fail
  refine kl.mono ?_
  rintro e w1 ⟨rfl, rfl⟩
  go_wp2
  go_ret
  exact ⟨rfl, hv⟩
 ·have hR := h.ps.r
  rw [hr] at hR kl
  simp only [List.concat_eq_append] at hR kl
  have hpos : ((((l ++ [(k, a)]).length : Nat) : Int) == 0) = false := by rw [beq_eq_false_iff_ne, List.length_append]; simp only [List.length_cons, List.length_nil]; omega
  generalize (((l ++ [(k, a)]).length : Nat) : Int) = K at *
  by_cases q1 : k = 1
  ·subst q1
   have hlen : v.o ≠ [] := by
    intro e
    rw [e, hr] at hk
    simp [calls] at hk
   obtain ⟨l2, pc, hpc⟩ : ∃ l2 pc, v.o = l2 ++ [pc] := by
    rcases List.eq_nil_or_concat v.o with e | ⟨l2, pc, e⟩
    ·exact absurd e hlen
    ·exact ⟨l2, pc, by simpa using e⟩
   have ht : leave v = (0, { v with R := l, o := l2, c := pc }) := by
    unfold leave; rw [hr]; simp [hpc]
   rw [ht]
   have hol : v.o.length = l2.length + 1 := by rw [hpc]; simp
   have hl128 : v.o.length <= 128 := by
    have h1 : calls v.R <= v.R.length := List.length_filter_le _ _
    have := h.wf.l; omega
   have hp := S.rpop_ok br l 1 a W hR
   have hv : ∀ w', S.HasR w' br l -> S.At br W w' -> VD W w' g bd br bm bs F O { v with R := l } := fun w' a1 a2 =>
    h.kv a2 a1 fun q hq => h.wf.r q (by rw [hr]; simp [hq])
   have HPC := hid hpc
   clear h ht hr hR hk hpc hlen
   go_enter Tryz.func55, Tryz.ntmps55
   go_wp2_with fail
   refine kl.mono ?_
   rintro e w1 ⟨rfl, hw1⟩
   obtain rfl := hw1.symm
   go_wp2_with fail
   refine hp.mono ?_
   rintro e w2 ⟨rfl, a1, a2⟩
   have hV := hv _ a1 a2
   obtain ⟨bs1, c1, F1, hM1, hF1, hbs1⟩ := hV.s
   have c5 := hM1.c5
   have z5 := fz hM1 5
   have hpop := hM1.pop pc l2 HPC.out
   have hfin : VD W (w2.setCell ⟨g, 5, none⟩ (.slice (some ⟨bs1, 0, none⟩) (l2.length + 1) c1)) g bd br bm bs F O { v with R := l, o := l2, c := pc } := VD.step hV.t hF1 hbs1 (hpop.vd (tc_set g 5 _ (.inl rfl)))
   have hcap : l2.length + 1 <= c1 := by
    obtain ⟨xs, hr, _⟩ := hM1.row
    rcases hr.2 with ⟨h', _⟩ | ⟨g', cap', cur, h', _, _, hnc, _⟩
    ·simp at h'
    ·cases h'; have hnc' : v.o.length + 1 <= c1 := hnc; have := hol; omega
   have HF := hid hfin
   simp only [hol] at c5 hl128
   clear a1 a2 hv hp kl hfin hpop hM1 hF1 hbs1 hV c3 hpos
   have w1' : wrap64 (((l2.length + 1 + 1 : Nat) : Int) - 1) = ((l2.length + 1 : Nat) : Int) := by unfold wrap64; omega
   have hc0 : w2.drew.cell? ⟨g, 5, none⟩ = some (.slice (some ⟨bs1, 0, none⟩) (l2.length + 1 + 1) c1) := c5
   have hz0 : w2.drew.frozen? ⟨g, 5, none⟩ = false := z5
   have hset : VD W (w2.drew.setCell ⟨g, 5, none⟩ (.slice (some ⟨bs1, 0, none⟩) (l2.length + 1) c1)) g bd br bm bs F O { v with R := l, o := l2, c := pc } := VD.post HF.out (drewB _)
   have HS := hid hset
   clear hset HF
   go_upto_region 7 with fail
   clear c5 z5
   refine D.wp_region_drop [14] (S := fun w' : World => w'.cell? ⟨g, 5, none⟩ = some (.slice (some ⟨bs1, 0, none⟩) (l2.length + 1 + 1) c1)) (by kernel_rfl) hc0 (fun hHeld => ?_)
   generalize w2.drew = y0 at *
   generalize l2.length = N2 at *
   have hwN : IntKind.i64.wrap ((N2 : Int) + 1) = (N2 : Int) + 1 := S.i64_id _ (by omega) (by omega)
   have hNc : (0 : Int) <= (N2 : Int) + 1 /\ (N2 : Int) + 1 <= (c1 : Int) := ⟨by omega, by omega⟩
   have hto : ((N2 : Int) + 1).toNat = N2 + 1 := by omega
   refine D.wpD_take (i := 0) (v := ?_) rfl (by kernel_rfl) (by kernel_rfl) (by kernel_rfl) (by kernel_rfl) (by kernel_rfl) (fun c a w h => h) (Or.inl ⟨by rfl, ?_⟩) hHeld ?_
   rotate_left
   ·(intro w hSw; have c5 := hSw; go_simp; try with_reducible rfl)
   simp only [Act.put, List.getElem_toArray, List.getElem_cons_zero, List.getElem_cons_succ, List.setIfInBounds_toArray, List.set_cons_zero, List.set_cons_succ]
   refine D.wpD_take (i := 1) (v := ?_) rfl (by kernel_rfl) (by kernel_rfl) (by kernel_rfl) (by kernel_rfl) (by kernel_rfl) (fun c a w h => h) (Or.inl ⟨by rfl, ?_⟩) hHeld ?_
   rotate_left
   ·(intro w hSw; have c5 := hSw; go_simp; try with_reducible rfl)
   simp only [Act.put, List.getElem_toArray, List.getElem_cons_zero, List.getElem_cons_succ, List.setIfInBounds_toArray, List.set_cons_zero, List.set_cons_succ]
   refine D.wpD_take (i := 2) (v := ?_) rfl (by kernel_rfl) (by kernel_rfl) (by kernel_rfl) (by kernel_rfl) (by kernel_rfl) (fun c a w h => h) (Or.inl ⟨by rfl, ?_⟩) hHeld ?_
   rotate_left
   ·(intro w hSw; have c5 := hSw; go_simp; try with_reducible rfl)
   simp only [Act.put, List.getElem_toArray, List.getElem_cons_zero, List.getElem_cons_succ, List.setIfInBounds_toArray, List.set_cons_zero, List.set_cons_succ]
   refine D.wpD_take (i := 3) (v := ?_) rfl (by kernel_rfl) (by kernel_rfl) (by kernel_rfl) (by kernel_rfl) (by kernel_rfl) (fun c a w h => h) (Or.inl ⟨by rfl, ?_⟩) hHeld ?_
   rotate_left
   ·(intro w hSw; have c5 := hSw; go_simp; try with_reducible rfl)
   simp only [Act.put, List.getElem_toArray, List.getElem_cons_zero, List.getElem_cons_succ, List.setIfInBounds_toArray, List.set_cons_zero, List.set_cons_succ]
   refine D.wpD_take (i := 4) (v := ?_) rfl (by kernel_rfl) (by kernel_rfl) (by kernel_rfl) (by kernel_rfl) (by kernel_rfl) (fun c a w h => h) (Or.inl ⟨by rfl, ?_⟩) hHeld ?_
   rotate_left
   ·(intro w hSw; have c5 := hSw; go_simp; try with_reducible rfl)
   simp only [Act.put, List.getElem_toArray, List.getElem_cons_zero, List.getElem_cons_succ, List.setIfInBounds_toArray, List.set_cons_zero, List.set_cons_succ]
   refine D.wpD_take (i := 5) (v := ?_) rfl (by kernel_rfl) (by kernel_rfl) (by kernel_rfl) (by kernel_rfl) (by kernel_rfl) (fun c a w h => h) (Or.inl ⟨by rfl, ?_⟩) hHeld ?_
   rotate_left
   ·(intro w hSw; have c5 := hSw; go_simp; try with_reducible rfl)
   simp only [Act.put, List.getElem_toArray, List.getElem_cons_zero, List.getElem_cons_succ, List.setIfInBounds_toArray, List.set_cons_zero, List.set_cons_succ]
   refine D.wpD_take (i := 6) (v := ?_) rfl (by kernel_rfl) (by kernel_rfl) (by kernel_rfl) (by kernel_rfl) (by kernel_rfl) (fun c a w h => h) (Or.inl ⟨by rfl, ?_⟩) hHeld ?_
   rotate_left
   ·(intro w hSw; have c5 := hSw; go_simp; try with_reducible rfl)
   simp only [Act.put, List.getElem_toArray, List.getElem_cons_zero, List.getElem_cons_succ, List.setIfInBounds_toArray, List.set_cons_zero, List.set_cons_succ]
   refine D.wpD_take (i := 7) (v := ?_) rfl (by kernel_rfl) (by kernel_rfl) (by kernel_rfl) (by kernel_rfl) (by kernel_rfl) (fun c a w h => h) (Or.inl ⟨by rfl, ?_⟩) hHeld ?_
   rotate_left
   ·(intro w hSw; have c5 := hSw; go_simp; try with_reducible rfl)
   simp only [Act.put, List.getElem_toArray, List.getElem_cons_zero, List.getElem_cons_succ, List.setIfInBounds_toArray, List.set_cons_zero, List.set_cons_succ]
   refine D.wpD_take (i := 8) (v := ?_) rfl (by kernel_rfl) (by kernel_rfl) (by kernel_rfl) (by kernel_rfl) (by kernel_rfl) (fun c a w h => h) (Or.inl ⟨by rfl, ?_⟩) hHeld ?_
   rotate_left
   ·(intro w hSw; have c5 := hSw; go_simp; try with_reducible rfl)
   simp only [Act.put, List.getElem_toArray, List.getElem_cons_zero, List.getElem_cons_succ, List.setIfInBounds_toArray, List.set_cons_zero, List.set_cons_succ]
   refine D.wpD_take (i := 9) (v := ?_) rfl (by kernel_rfl) (by kernel_rfl) (by kernel_rfl) (by kernel_rfl) (by kernel_rfl) (fun c a w h => h) (Or.inl ⟨by rfl, ?_⟩) hHeld ?_
   rotate_left
   ·(intro w hSw; have c5 := hSw; go_simp; try with_reducible rfl)
   simp only [Act.put, List.getElem_toArray, List.getElem_cons_zero, List.getElem_cons_succ, List.setIfInBounds_toArray, List.set_cons_zero, List.set_cons_succ]
   refine D.wpD_take (i := 10) (v := ?_) rfl (by kernel_rfl) (by kernel_rfl) (by kernel_rfl) (by kernel_rfl) (by kernel_rfl) (fun c a w h => h) (Or.inl ⟨by rfl, ?_⟩) hHeld ?_
   rotate_left
   ·(intro w hSw; have c5 := hSw; go_simp; try with_reducible rfl)
   simp only [Act.put, List.getElem_toArray, List.getElem_cons_zero, List.getElem_cons_succ, List.setIfInBounds_toArray, List.set_cons_zero, List.set_cons_succ]
   refine D.wpD_take (i := 11) (v := ?_) rfl (by kernel_rfl) (by kernel_rfl) (by kernel_rfl) (by kernel_rfl) (by kernel_rfl) (fun c a w h => h) (Or.inl ⟨by rfl, ?_⟩) hHeld ?_
   rotate_left
   ·(intro w hSw; have c5 := hSw; go_simp; try with_reducible rfl)
   simp only [Act.put, List.getElem_toArray, List.getElem_cons_zero, List.getElem_cons_succ, List.setIfInBounds_toArray, List.set_cons_zero, List.set_cons_succ]
   refine D.wpD_takeP (i := 12) (v := ?_) rfl (by kernel_rfl) (by kernel_rfl) (by kernel_rfl) (by kernel_rfl) (fun c a w h => h) (Or.inl ⟨by rfl, ?_⟩) (fun _ => hHeld) ?_
   rotate_left
   ·(intro w hSw; clear hSw; go_simp; try with_reducible rfl)
   simp only [Act.put, List.getElem_toArray, List.getElem_cons_zero, List.getElem_cons_succ, List.setIfInBounds_toArray, List.set_cons_zero, List.set_cons_succ]
   refine D.wpD_takeP (i := 13) (v := ?_) rfl (by kernel_rfl) (by kernel_rfl) (by kernel_rfl) (by kernel_rfl) (fun c a w h => h) (Or.inl ⟨by rfl, ?_⟩) (fun _ => hHeld) ?_
   rotate_left
   ·(intro w hSw; clear hSw; go_simp; try with_reducible rfl)
   simp only [Act.put, List.getElem_toArray, List.getElem_cons_zero, List.getElem_cons_succ, List.setIfInBounds_toArray, List.set_cons_zero, List.set_cons_succ]
   refine D.wpD_ready (rs := [14]) (by kernel_rfl) (by simp) ?_
   refine D.AllD.late rfl (by kernel_rfl) (fun K hK => ?_)
   have c5 := hHeld
   go_simp
   refine hK.out _ _ ?_
   clear hK K
   try simp only [Act.put, List.getElem_toArray, List.getElem_cons_zero, List.getElem_cons_succ, List.setIfInBounds_toArray, List.set_cons_zero, List.set_cons_succ]
   refine D.wpD_done (by kernel_rfl) ?_ _
   have HF := hid HS.out
   clear hHeld hc0 hz0 HS
   go_wp2
   go_ret
   exact ⟨rfl, HF.out⟩
  ·have ht : leave v = (5, v) := by unfold leave; rw [hr]; simp [q1]
   rw [ht]
   have hp := S.rpop_kind br l k a 1 q1 W hR
   have hv : ∀ q, VD W (W.drewN q) g bd br bm bs F O v := fun q => h.same (drewNB W q)
   clear h ht hr hR q1 hk
   go_enter Tryz.func55, Tryz.ntmps55
   go_wp2_with fail
   refine kl.mono ?_
   rintro e w1 ⟨rfl, rfl⟩
   go_wp2_with fail
   refine hp.mono ?_
   rintro e w2 ⟨rfl, q, rfl⟩
   clear hp kl
   go_wp2
   go_ret
   exact ⟨rfl, hv q⟩
end
set_option maxHeartbeats 4000000
set_option maxRecDepth 100000
theorem turn_oc (v : VS) : (turn v).v.o = v.o /\ (turn v).v.c = v.c /\ (turn v).v.m = v.m /\ (turn v).v.fa = v.fa /\ (turn v).v.st = v.st := by
  unfold turn
  repeat' split
  all_goals exact ⟨rfl, rfl, rfl, rfl, rfl⟩
theorem dn_oc (op x : Int) (v : VS) : (dn op x v).v.o = v.o /\ (dn op x v).v.c = v.c /\ (dn op x v).v.fa = v.fa := by
  unfold dn
  split
  · split <;> exact ⟨rfl, rfl, rfl⟩
  · split <;> exact ⟨rfl, rfl, rfl⟩
  · exact ⟨rfl, rfl, rfl⟩
  · split <;> exact ⟨rfl, rfl, rfl⟩
  · have := turn_oc v; exact ⟨this.1, this.2.1, this.2.2.2.1⟩
  · exact ⟨rfl, rfl, rfl⟩
  · exact ⟨rfl, rfl, rfl⟩
  · unfold pl; simp only; split <;> exact ⟨rfl, rfl, rfl⟩
theorem turn_same (v : VS) : (turn v).f ≠ 0 -> (turn v).v = v := by
  unfold turn
  repeat' split
  all_goals first | (intro _; rfl) | (intro h; exact absurd rfl h)
theorem dn_same (op x : Int) (v : VS) : (dn op x v).f ≠ 0 -> (dn op x v).v = v := by
  unfold dn
  split
  · split
    · intro _; rfl
    · intro h; exact absurd rfl h
  · split
    · intro _; rfl
    · intro h; exact absurd rfl h
  · intro h; exact absurd rfl h
  · split
    · intro _; rfl
    · intro h; exact absurd rfl h
  · exact turn_same v
  · intro h; exact absurd rfl h
  · intro h; exact absurd rfl h
  · intro h
    unfold pl at h ⊢
    simp only at h ⊢
    rw [if_neg h]
theorem okI_parts {op : Int} {w : List (List Mn)} (h : okI op w = true) : 1 <= op /\ op <= 63 /\ (op = 1 -> ∃ l, w = [l]) := by
  unfold okI at h
  simp only [Bool.and_eq_true, decide_eq_true_eq, Bool.or_eq_true, bne_iff_ne, ne_eq, beq_iff_eq] at h
  refine ⟨h.1.1, h.1.2, fun e => ?_⟩
  rcases h.2 with h | h
  · exact absurd e h
  · obtain ⟨l, hl⟩ : ∃ l, w = [l] := by
      match w, h with
      | [l], _ => exact ⟨l, rfl⟩
    exact ⟨l, hl⟩
section
variable (v : VS) (g bd br bm bs c : Nat) (F O : Nat -> Prop) (W : World)
theorem calls_le (v : VS) (hk : calls v.R = v.o.length) (hw : Wf v) : v.o.length <= 128 := by
  have h1 : calls v.R <= v.R.length := List.length_filter_le _ _
  have := hw.l; omega
theorem do_any (i : In) (hok : okI i.op i.w = true) (hlb : ∀ b ∈ i.w, okL b) (hx : C.C i.v) (wq : Option Addr) (hw : WP W O (.pointer wq) i.w i.wp) (ht : v.m.tones.length <= 999000) (hk : calls v.R = v.o.length) (h : MV W g bd br bm bs c F O v) :
    Calls Tryz.prog 39 #[.pointer (some ⟨g, 0, none⟩), .agg #[.int .i64 i.op, .int .u16 i.v, .pointer wq, .int .i64 i.p.1, .int .i64 i.p.2]] W fun e w' => e = .returned (.int .i64 (doo i v).1) /\ VD W w' g bd br bm bs F O (doo i v).2 := by
  obtain ⟨o1, o2, o3⟩ := okI_parts hok
  have hl := calls_le v hk h.wf
  obtain ⟨W1, hW1, hb1, u1, hs1⟩ := boxn W i.op i.v wq i.p
  have hM := h.below hb1
  have x0 := S.cell_of W1 _ 0 _ _ _ u1 rfl
  have x1 := S.cell_of W1 _ 1 _ _ _ u1 rfl
  have x2 := S.cell_of W1 _ 2 _ _ _ u1 rfl
  have x3 := S.cell_of W1 _ 3 _ _ _ u1 rfl
  have x4 := S.cell_of W1 _ 4 _ _ _ u1 rfl
  have HW1 := hid hW1
  have HB1 := hid hb1
  by_cases q1 : i.op = 1
  · obtain ⟨l, hl1⟩ := o3 q1
    have ht : doo i v = enter [l] i.wp v := by unfold doo; rw [if_pos q1, hl1]
    rw [ht]
    rcases hw with ⟨e, _⟩ | ⟨wb, l', bv, e, ew, hOb, hblk, hN⟩
    · rw [hl1] at e; cases e
    rw [hl1] at e
    obtain rfl : l = l' := by injection e
    cases ew
    have ke := enter_any v g bd br bm bs c F O W1 hM hl wb l bv i.wp ((hb1.block _ (h.ol _ hOb)).trans hblk) (hN.below hb1 h.ol) hOb (hlb l (by rw [hl1]; simp))
    have e1 : (i.op == 1) = true := by simpa using q1
    have HP := hid ht
    clear h hM u1 hW1 hs1 hb1 ht hblk hN hOb hok hlb hx hk o1 o2 o3 q1 hl1 e
    go_enter Tryz.func39, Tryz.ntmps39
    go_upto_region 1 with fail
    rw [HW1.out]
    go_wp2_with fail
    refine ke.mono ?_
    rintro e w2 ⟨rfl, hV⟩
    have HV := hid (VD.pre HB1.out hV)
    clear ke hV x0 x1 x2 x3 x4
    go_wp2
    go_ret
    exact ⟨rfl, HV.out⟩
  have e1 : (i.op == 1) = false := by simpa using q1
  by_cases q8 : i.op = 8
  · have ht : doo i v = leave v := by unfold doo; rw [if_neg q1, if_pos q8]
    rw [ht]
    have ke := exit_any v g bd br bm bs c F O W1 hM hk
    have e8 : (i.op == 8) = true := by simpa using q8
    clear h hM u1 hW1 hs1 hb1 ht hok hlb hx hk o1 o2 o3 q1 q8 hw
    go_enter Tryz.func39, Tryz.ntmps39
    go_upto_region 1 with fail
    rw [HW1.out]
    go_wp2_with fail
    refine ke.mono ?_
    rintro e w2 ⟨rfl, hV⟩
    have HV := hid (VD.pre HB1.out hV)
    clear ke hV x0 x1 x2 x3 x4
    go_wp2
    go_ret
    exact ⟨rfl, HV.out⟩
  have e8 : (i.op == 8) = false := by simpa using q8
  have hdo : doo i v = ((dn i.op i.v v).f, if (dn i.op i.v v).f = 0 then { (dn i.op i.v v).v with c := onc (dn i.op i.v v).v.c (dn i.op i.v v).b } else v) := by unfold doo; rw [if_neg q1, if_neg q8]
  rw [hdo]
  obtain ⟨n, hn⟩ : ∃ n : Nat, i.op = (n : Int) := ⟨i.op.toNat, by omega⟩
  have kd := done_any n (by omega) (by omega) (by omega) (by omega) i.v hx wq i.p v ht g bd br bm bs c F O W1 hM
  rw [<- hn] at kd
  unfold DnO at kd
  have hoc := (dn_oc i.op i.v v).1
  have hsm := dn_same i.op i.v v
  generalize dn i.op i.v v = d at *
  obtain ⟨vv, hvv⟩ : ∃ vv, vv = (if d.f = 0 then { d.v with c := onc d.v.c d.b } else v) := ⟨_, rfl⟩
  rw [<- hvv]
  have HVV := hid hvv
  clear hvv
  have HD := hid (And.intro hoc (And.intro hsm hl))
  clear h hM u1 hW1 hs1 hb1 ht hok hlb hx hk o1 o2 o3 q1 q8 hw hoc hsm hdo hn hl
  go_enter Tryz.func39, Tryz.ntmps39
  go_upto_region 1 with fail
  rw [HW1.out]
  go_wp2_with fail
  refine kd.mono ?_
  rintro e w2 ⟨rfl, hV⟩
  have hV := VD.pre HB1.out hV
  by_cases q : d.f = 0
  · obtain ⟨bs1, c1, F1, hM1, hF1, hbs1⟩ := hV.s
    have kg := goon_any hM1 (by rw [HD.out.1]; exact HD.out.2.2) d.b
    have e0 : (d.f == 0) = true := by simpa using q
    have hvv : vv = { d.v with c := onc d.v.c d.b } := by rw [HVV.out, if_pos q]
    subst hvv
    have HV := hid (And.intro hV (And.intro hF1 hbs1))
    clear kd hV hM1 hF1 hbs1 x0 x1 x2 x3 x4
    go_wp2_with fail
    refine kg.mono ?_
    rintro e w3 ⟨rfl, hV3⟩
    have HV3 := hid (VD.step HV.out.1.t HV.out.2.1 HV.out.2.2 hV3)
    clear kg hV3
    go_wp2
    go_ret
    exact ⟨by first | rfl | rw [q], HV3.out⟩
  · have e0 : (d.f == 0) = false := by simpa using q
    rw [HD.out.2.1 q] at hV
    have hvv : vv = v := by rw [HVV.out, if_neg q]
    subst hvv
    have HV := hid hV
    clear kd hV x0 x1 x2 x3 x4
    go_wp2
    go_ret
    exact ⟨rfl, HV.out⟩
end
set_option maxHeartbeats 4000000
set_option maxRecDepth 100000
theorem st_tones (m : M.MS) (z : Int) (x : UInt8) : (M.st m z x).tones.length <= m.tones.length + 1 := by
 unfold M.st
 split
 ·omega
 ·split
  ·split <;> simp
  ·split
   ·simp
   ·split
    ·simp
    ·unfold M.stp
     split
     ·simp
     ·split
      ·simp
      ·split
       ·simp
       ·split <;> simp
theorem mem_tones (op x y z : Int) (m : M.MS) : (P.memN op x y z m).tones.length <= m.tones.length + 3 := by
 have sc : ∀ (m : M.MS) (a b : Int), (M.sc m a b).tones.length <= m.tones.length + 2 := fun m a b => by
  have h1 := st_tones (M.st m a (M.b8 b)) ((a + 1) % 65536) (M.b8 (b / 256))
  have h2 := st_tones m a (M.b8 b)
  unfold M.sc; omega
 unfold P.memN
 split
 ·have := sc m y x; omega
 ·have := st_tones m y (M.b8 x); omega
 ·have := sc m y ((M.cl m y + x) % 65536); omega
 ·unfold M.plt
  split
  ·have := st_tones m (49152 + 64 * y + x) (M.b8 z); omega
  ·omega
 ·have h1 := st_tones (M.sc m 65284 x) 65286 (M.b8 y)
  have h2 := sc m 65284 x
  omega
 ·have := st_tones m 65280 (M.b8 x); omega
 ·omega
theorem dn_tones (op x : Int) (v : VS) : (dn op x v).v.m.tones.length <= v.m.tones.length + 3 := by
 unfold dn
 split
 ·split <;> simp
 ·split <;> simp
 ·simp
 ·split <;> simp
 ·rw [(turn_oc v).2.2.1]; omega
 ·simp
 ·simp
 ·unfold pl; simp only
  split
  ·exact mem_tones _ _ _ _ _
  ·omega
theorem doo_tones (i : In) (v : VS) : (doo i v).2.m.tones.length <= v.m.tones.length + 3 := by
 unfold doo
 split
 ·unfold enter; split <;> simp
 ·split
  ·unfold leave; split
   ·simp
   ·split <;> simp
  ·simp only
   split
   ·exact dn_tones _ _ _
   ·omega
theorem calls_rev (t : List (Int × Int)) : calls t.reverse = calls t := by unfold calls; rw [List.filter_reverse, List.length_reverse]
theorem calls_cons (q : Int × Int) (t : List (Int × Int)) : calls (q :: t) = (if q.1 = 1 then 1 else 0) + calls t := by
 unfold calls
 by_cases h : q.1 = 1
 ·rw [List.filter_cons_of_pos (by simpa using h), if_pos h, List.length_cons]; omega
 ·rw [List.filter_cons_of_neg (by simpa using h), if_neg h]; omega
theorem turn_calls (v : VS) : calls (turn v).v.R = calls v.R := by
 unfold turn
 cases e : v.R.reverse with
 | nil => rfl
 | cons q t =>
  obtain ⟨k, i⟩ := q
  by_cases hk : k = 3
  ·subst hk
   simp only [ne_eq, not_true_eq_false, if_false]
   cases t with
   | nil => rfl
   | cons q2 t2 =>
    obtain ⟨k2, l⟩ := q2
    have hv : calls v.R = calls ((3, i) :: (k2, l) :: t2) := by rw [<- e, calls_rev]
    by_cases hk2 : k2 = 2
    ·subst hk2
     simp only [not_true_eq_false, if_false]
     rw [hv, calls_cons, calls_cons]
     by_cases h3 : (i + 1) % 65536 = l
     ·rw [if_neg (by simpa using h3)]
      simp only [calls_rev]; simp
     ·rw [if_pos (by simpa using h3)]
      simp only [calls_app, calls_rev, calls_cons]; simp [calls]
    ·simp only [hk2, not_false_eq_true, if_true]
  ·simp only [ne_eq, hk, not_false_eq_true, if_true]
theorem ret_calls (op : Int) (D : List Int) (R : List (Int × Int)) (h : P.fl op D R = 0) : calls (P.nR op D R) = calls R := by
 unfold P.nR P.retN
 split
 ·rw [calls_app, calls_cons, calls_cons]; simp [calls]
 ·rw [calls_app, calls_cons]; simp [calls]
 ·have hl := (P.flt0 h).2.2.1
  have hl : (P.lk 4 0 R).2 = 0 := hl
  unfold P.lk at hl
  rw [if_neg (by decide)] at hl
  split at hl
  ·simp at hl
  ·rename_i hne
   split at hl
   ·rename_i hk
    rcases List.eq_nil_or_concat R with rfl | ⟨t, q, rfl⟩
    ·simp at hne
    ·simp at hk
     simp only [List.concat_eq_append, List.length_append, List.length_cons, List.length_nil, Nat.zero_add, Nat.add_sub_cancel, List.take_left', calls_app, calls_cons, hk]
     simp [calls]
   ·simp at hl
 ·rfl
theorem dn_calls (op x : Int) (v : VS) : calls (dn op x v).v.R = calls v.R := by
 unfold dn
 split
 ·split <;> rfl
 ·split <;> rfl
 ·rfl
 ·split <;> rfl
 ·exact turn_calls v
 ·rfl
 ·rfl
 ·unfold pl; simp only
  split
  ·rename_i h; exact ret_calls _ _ _ h
  ·rfl
theorem doo_calls (i : In) (v : VS) (h : calls v.R = v.o.length) : calls (doo i v).2.R = (doo i v).2.o.length := by
 unfold doo
 split
 ·unfold enter
  split
  ·exact h
  ·simp only [calls_app, calls_cons, List.length_append, h]; simp [calls]
 ·split
  ·unfold leave
   split
   ·exact h
   ·rename_i k a t e
    split
    ·rename_i hk
     have hv : calls v.R = calls ((k, a) :: t) := by rw [<- e, calls_rev]
     rw [calls_cons, if_pos hk] at hv
     simp only [calls_rev, List.length_take]
     omega
    ·exact h
  ·simp only
   split
   ·simp only [dn_calls, (dn_oc i.op i.v v).1, h]
   ·exact h
theorem rc_r (op : Nat) : 1 <= P.rc op /\ P.rc op <= 4 := by
 unfold P.rc
 split <;> decide
theorem cost_r (op : Int) : 1 <= cost op /\ cost op <= 4 := rc_r _
theorem wk_end (k : Nat) (B : Int) (v : VS) (n s : Int) (h : ¬ (v.st = 1 /\ s < B)) : wk k B v n s = ⟨v, n, s⟩ := by
 cases k with
 | zero => rfl
 | succ k => unfold wk; rw [if_neg h]
theorem wpList_look {ops : Array Oper} {rest : List Oper} {o : Oper} {a : Act} {W W' : World} {O : Nat -> Prop} {Q : Exit -> Act -> World -> Prop} {rq : Operand} {s : String} (hgd : o.guard = none) (ho : o.op = .call { callee := .invoke rq s, args := #[], argTypes := #[] }) (hs : LkI s) (l : List Fr) (e : Ps) (i : In) (hi : lk l e = i) (x : Value) (hx : a.eval rq = x) (hP : PV W O l e x) (hO : ∀ i, O i -> i < W.heap.size) (k : Below W.heap.size W W')
  (h : ∀ wq w', WP W O (.pointer wq) i.w i.wp -> Below W'.heap.size W' w' -> wpList Tryz.prog ops Q rest (a.put o.dst (.agg #[.int .i64 i.op, .int .u16 i.v, .pointer wq, .int .i64 i.p.1, .int .i64 i.p.2])) w') : wpList Tryz.prog ops Q (o :: rest) a W' :=
 wpList_plain hgd fun _ hK => wp_look ho hs l e x hx hP hO k fun v w' hv => by
  obtain ⟨⟨wq, rfl, hwq⟩, hb⟩ := hv
  rw [hi] at hwq ⊢
  exact hK _ _ (h wq w' hwq hb)
set_option maxHeartbeats 4000000
set_option maxRecDepth 100000
structure WI (W wr : World) (g bd br bm bs : Nat) (F O : Nat -> Prop) (B : Int) (v : VS) (k : Nat) (u : VS) (n s : Int) : Prop where
 n0 : 0 <= n
 ns : n <= s
 sB : s <= B
 kk : B - s <= (k : Int)
 eq : wk B.toNat B v 0 0 = wk k B u n s
 d : VD W wr g bd br bm bs F O u
 t : (u.m.tones.length : Int) <= 100000 + 3 * n
 c : calls u.R = u.o.length
theorem VD.ok {W W' : World} {g bd br bm bs c : Nat} {F O : Nat -> Prop} {v v' : VS} (h : VD W W' g bd br bm bs F O v') (k : MV W g bd br bm bs c F O v) (j : Nat) (hj : O j) : W'.heap[j]? = W.heap[j]? :=
 h.t.block j (k.ol j hj) (by
  have := k.ob j hj
  rintro (e | e | e | e | e)
  ·exact this.1 e
  ·exact this.2.1 e
  ·exact this.2.2.1 e
  ·exact this.2.2.2.1 e
  ·exact this.2.2.2.2 e)
theorem doo_same (i : In) (v : VS) (h : (doo i v).1 ≠ 0) : (doo i v).2 = v := by
 unfold doo at h ⊢
 split
 ·rename_i q
  rw [if_pos q] at h
  unfold enter at h ⊢
  split
  ·rfl
  ·rename_i q2; rw [if_neg q2] at h; exact absurd rfl h
 ·rename_i q
  rw [if_neg q] at h
  split
  ·rename_i q
   rw [if_pos q] at h
   unfold leave at h ⊢
   split
   ·rename_i e; rw [e] at h; exact absurd rfl h
   ·rename_i e
    rw [e] at h
    simp only at h
    split
    ·rename_i q2; rw [if_pos q2] at h; exact absurd rfl h
    ·rfl
  ·rename_i q
   rw [if_neg q] at h
   simp only at h ⊢
   rw [if_neg h]
theorem work_any (v : VS) (B : Int) (hB0 : 4 <= B) (hB1 : B <= 16384) (ht : v.m.tones.length <= 100000) (hk : calls v.R = v.o.length) (g bd br bm bs c : Nat) (F O : Nat -> Prop) (W : World) (h : MV W g bd br bm bs c F O v) :
  Calls Tryz.prog 24 #[.pointer (some ⟨g, 0, none⟩), .int .i64 B] W fun e W' => e = .returned (.tuple #[.int .i64 (wk B.toNat B v 0 0).steps, .int .i64 (wk B.toNat B v 0 0).spent]) /\ VD W W' g bd br bm bs F O (wk B.toNat B v 0 0).v := by
 have I0 : WI W W g bd br bm bs F O B v B.toNat v 0 0 := ⟨by omega, by omega, by omega, by omega, rfl, h.same (Below.refl _ W), by omega, hk⟩
 obtain ⟨R, hR⟩ : ∃ R, R = wk B.toNat B v 0 0 := ⟨_, rfl⟩
 rw [<- hR]
 have HI := hid I0
 have HR := hid hR
 have H0 := hid h
 clear h I0 hR ht hk
 go_enter Tryz.func24, Tryz.ntmps24
 go_wp2_with fail
 go_loopw [4, 5] (fun a b wr => ∃ (k : Nat) (u : VS) (n s : Int), a = .int .i64 n /\ b = .int .i64 s /\ WI W wr g bd br bm bs F O B v k u n s) (fun _ b _ => (B - intOf b).toNat)
 case atStart => exact ⟨B.toNat, v, 0, 0, rfl, rfl, HI.out⟩
 case round =>
  obtain ⟨k, u, n, s, rfl, rfl, I⟩ := hrel
  clear HI
  obtain ⟨bs1, c1, F1, hM, hF1, hbs1⟩ := I.d.s
  have c0 := hM.c0
  have HI := hid I
  by_cases q : u.st = 1 /\ s < B
  case neg =>
   have e : R = ⟨u, n, s⟩ := by rw [HR.out, HI.out.eq, wk_end k B u n s q]
   subst e
   clear I hM hF1
   by_cases q1 : u.st = 1
   ·have e1 : (u.st == 1) = true := by simpa using q1
    have e2 : decide (s < B) = false := decide_eq_false (fun c => q ⟨q1, c⟩)
    go_wp2
    go_ret2
    exact ⟨rfl, HI.out.d⟩
   ·have e1 : (u.st == 1) = false := by simpa using q1
    go_wp2
    go_ret2
    exact ⟨rfl, HI.out.d⟩
  obtain ⟨q1, q2⟩ := q
  have e1 : (u.st == 1) = true := by simpa using q1
  have e2 : decide (s < B) = true := decide_eq_true q2
  have kh := here_any hM (calls_le u I.c hM.wf)
  have hkk : ∃ k', k = k' + 1 := ⟨k - 1, by have := I.kk; omega⟩
  obtain ⟨k', rfl⟩ := hkk
  have hwk : R = wk (k' + 1) B u n s := by rw [HR.out, I.eq]
  unfold wk at hwk
  rw [if_pos ⟨q1, q2⟩] at hwk
  have hlo := lk_ok u.c.fr u.c.e hM.wf.c
  have hlook : lk u.c.fr u.c.e = look u := rfl
  rw [hlook] at hlo
  generalize look u = i at *
  obtain ⟨o1, o2, o3⟩ := okI_parts hlo.1.1
  obtain ⟨m, hm⟩ : ∃ m : Nat, i.op = (m : Int) := ⟨i.op.toNat, by omega⟩
  have hco : cost i.op = P.rc m := by unfold cost; rw [hm]; rfl
  have kc := fun wq W' => cost_any m (by omega) (by omega) i.v wq i.p W'
  rw [<- hm] at kc
  rw [hco] at hwk
  have hrc := rc_r m
  generalize P.rc m = co at *
  have HW := hid hwk
  have HL := hid (And.intro hlo (And.intro hlook (And.intro hF1 hbs1)))
  have w1' : wrap64 (B - s) = B - s := by have := I.n0; have := I.ns; simp [wrap64]; omega
  have HM := hid hM
  have HKC := hid kc
  clear I hwk hlo hlook hF1 hM hm o1 o2 o3 hco kc
  go_wp2_with fail
  refine kh.mono ?_
  rintro e w1 ⟨x, rfl, hP, hb1⟩
  have HP := hid (And.intro hP hb1)
  clear kh hP hb1 c0
  go_wp2_with (refine wpList_look (W := wr) (O := O) rfl rfl (by refine ⟨?_, ?_, ?_, ?_, ?_, ?_, ?_, ?_, ?_⟩ <;> intros <;> kernel_rfl) u.c.fr u.c.e i HL.out.2.1 x (by rfl) HP.out.1 HM.out.ol HP.out.2 (fun wq w2 hwq hb2 => ?_); have HQ := hid (And.intro hwq (trB HP.out.2 hb2 HP.out.2.size)); clear hwq hb2)
  obtain ⟨W4, hW4, hb4, u4, hs4⟩ := boxn w2 i.op i.v wq i.p
  rw [hW4]
  have hB4 := trB HQ.out.2 hb4 HQ.out.2.size
  refine (HKC.out wq W4).mono ?_
  rintro e w5 ⟨rfl, hb5⟩
  have hB5 := trB hB4 hb5 hB4.size
  have u5 := (hb5.block _ (S.lt_of u4)).trans u4
  have hbx := HQ.out.2.size
  have hM5 := HM.out.below hB5
  have hV5 := HI.out.d.post hB5
  have HBX := hid (And.intro hbx u5)
  have HV5 := hid hV5
  have HB5 := hid hB5
  have HM5 := hid hM5
  clear hW4 hb4 u4 hs4 hB4 hb5 hB5 u5 hbx hV5
  by_cases q4 : B - s < co
  ·have e : R = ⟨u, n, s⟩ := by rw [HW.out, if_pos q4]
   subst e
   have e3 : decide (B - s < co) = true := decide_eq_true q4
   clear hM5 HW HR
   go_wp2
   go_ret2
   exact ⟨rfl, HV5.out⟩
  have e3 : decide (B - s < co) = false := decide_eq_false q4
  have hwk := HW.out
  rw [if_neg q4] at hwk
  clear HW
  have HW := hid hwk
  have c4 := hM5.c4
  have ka := M.at_any bm s _ hM5.ps.m
  clear hwk hM5
  go_wp2_with fail
  refine ka.mono ?_
  rintro e w6 ⟨rfl, ha⟩
  have hV6 : VD w5 w6 g bd br bm bs1 F1 O (cyc s u) := HM5.out.goes (HM5.out.ps.mem ha) ⟨HM5.out.wf.d, HM5.out.wf.r, HM5.out.wf.c, HM5.out.wf.o, HM5.out.wf.l⟩
  have u6 := (hV6.other HM.out HB5.out.size _ HBX.out.1 (S.lt_of HBX.out.2)).trans HBX.out.2
  have hok : ∀ j, O j -> w6.heap[j]? = wr.heap[j]? := fun j hj => (hV6.ok HM5.out j hj).trans (HB5.out.block j (HM.out.ol j hj))
  obtain ⟨bs2, c2, F2, hM6, hF2, hbs2⟩ := hV6.s
  have kd := do_any (cyc s u) g bd br bm bs2 c2 F2 O w6 i HL.out.1.1.1 HL.out.1.2 HL.out.1.1.2 wq (HQ.out.1.keep hok fun _ h => h) (by have := HI.out.t; have := HI.out.ns; have := HI.out.sB; show u.m.tones.length <= 999000; omega) HI.out.c hM6
  have HV6 := hid (And.intro hV6 (And.intro hF2 (And.intro hbs2 u6)))
  have HM6 := hid hM6
  have hd1 := doo_tones i (cyc s u)
  have hd2 := doo_calls i (cyc s u) HI.out.c
  have hd3 := doo_same i (cyc s u)
  have HD := hid (And.intro hd1 (And.intro hd2 hd3))
  clear ka ha hV6 hok hM6 hF2 hbs2 c4 hd1 hd2 hd3
  go_wp2_with (refine wpList_load_row rfl 84 _ rfl _ rfl 84 _ (0, 0) _ u6 Tryz.underlying84 rfl (by exact sizeIN) ?_)
  refine kd.mono ?_
  rintro e w7 ⟨rfl, hd⟩
  have hV7 := VD.step HV6.out.1.t HV6.out.2.1 HV6.out.2.2.1 hd
  have u7 := (hV7.other HM.out HB5.out.size _ HBX.out.1 (S.lt_of HBX.out.2)).trans HBX.out.2
  have hF : VD W w7 g bd br bm bs F O (doo i (cyc s u)).2 := VD.step HI.out.d.t HL.out.2.2.1 HL.out.2.2.2 (VD.pre HB5.out hV7)
  have HF := hid hF
  have HU := hid u7
  clear kd u6 hF u7
  by_cases q5 : (doo i (cyc s u)).1 = 0
  case neg =>
   have e : R = ⟨fail (doo i (cyc s u)).1 (cyc s u), n, s⟩ := by rw [HW.out, if_neg q5]
   have es := HD.out.2.2 q5
   rw [es] at hd hV7
   obtain ⟨bs3, c3, F3, hM7, hF3, hbs3⟩ := hV7.s
   have f2 : ((doo i (cyc s u)).1 != 0) = true := by simpa using q5
   have c0 := hM7.c0
   have c1' := hM7.c1
   have z0 := fz hM7 0
   have z1 := fz hM7 1
   have kf : VD w7 ((w7.setCell ⟨g, 0, none⟩ (.int .i64 3)).setCell ⟨g, 1, none⟩ (.int .i64 (doo i (cyc s u)).1)) g bd br bm bs3 F3 O (fail (doo i (cyc s u)).1 (cyc s u)) := ((hM7.st 3).fa _).vd (((S.Tc.refl _ _).setCell g 0 (.inl rfl) _).setCell g 1 (.inl rfl) _)
   have hG : VD W _ g bd br bm bs F O (fail (doo i (cyc s u)).1 (cyc s u)) := VD.step HI.out.d.t HL.out.2.2.1 HL.out.2.2.2 (VD.pre HB5.out (VD.step hV7.t hF3 hbs3 kf))
   have HG := hid hG
   generalize (doo i (cyc s u)).1 = ff at *
   subst e
   clear hd hV7 hM7 hF3 hbs3 kf hG es HW HR HD HF
   go_wp2
   go_ret2
   exact ⟨rfl, HG.out⟩
  have hwk := HW.out
  rw [if_pos q5] at hwk
  have n1 := HI.out.n0
  have n2 := HI.out.ns
  have w2' : wrap64 (n + 1) = n + 1 := by simp [wrap64]; omega
  have w3' : wrap64 (s + co) = s + co := by simp [wrap64]; omega
  have u7 := HU.out
  rw [q5]
  clear HW hd hV7
  have HW := hid hwk
  clear hwk
  go_wp2_with (refine wpList_load_row rfl 84 _ rfl _ rfl 84 _ (0, 0) _ u7 Tryz.underlying84 rfl (by exact sizeIN) ?_)
  refine (HKC.out wq w7).mono ?_
  rintro e w8 ⟨rfl, hb8⟩
  have x0 := S.cell_of w8 _ 0 _ _ _ ((hb8.block _ (S.lt_of u7)).trans u7) rfl
  have hV8 := HF.out.post hb8
  have HV8 := hid hV8
  clear hb8 u7 hV8
  by_cases q6 : i.op = 10
  ·have e : R = ⟨(doo i (cyc s u)).2, n + 1, s + co⟩ := by rw [HW.out, if_pos q6]
   subst e
   have e5 : (i.op == 10) = true := by simpa using q6
   clear HW n1 n2 hrc q6 HR HD
   go_wp2
   go_ret2
   exact ⟨rfl, HV8.out⟩
  ·have e5 : (i.op == 10) = false := by simpa using q6
   have HN : Y.Hd (WI W w8 g bd br bm bs F O B v k' (doo i (cyc s u)).2 (n + 1) (s + co)) := hid ⟨by omega, by omega, by omega, by have := HI.out.kk; omega, by rw [<- HR.out, HW.out, if_neg q6], HV8.out, by have h1 := HI.out.t; have h2 : (cyc s u).m.tones = u.m.tones := rfl; have h3 := HD.out.1; rw [h2] at h3; omega, HD.out.2.1⟩
   have hm : (B - (s + co)).toNat < (B - s).toNat := by omega
   clear HW n1 n2 HI HV8 HR HD HF
   go_wp2
   go_roundw
   case rel =>
    exact ⟨k', _, n + 1, s + co, rfl, by rw [w3'], HN.out⟩
   case measure => simp only [intOf, w3']; exact hm
end Go.Proofs.YtoemoiehjdmheaaGreat.Z
