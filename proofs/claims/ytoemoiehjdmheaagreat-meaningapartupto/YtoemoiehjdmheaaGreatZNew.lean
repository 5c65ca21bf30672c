import Derived.Test.YtoemoiehjdmheaaGreatZPur
import Derived.Test.YtoemoiehjdmheaaGreatZDon
import Derived.Test.YtoemoiehjdmheaaGreatRChk
import Derived.Test.YtoemoiehjdmheaaGreatSSame
namespace Go.Proofs.YtoemoiehjdmheaaGreat.Z
open Go.RowKit
open Go.Proofs
open Go.Proofs.YtoemoiehjdmheaaGreat.Y (Nd Df Ps Pl hid ZV DV BV plc rgN rgN_is rgD)
open Go.Proofs.YtoemoiehjdmheaaGreat.R (chk Bk)
set_option linter.unusedVariables false
set_option linter.unusedSimpArgs false
set_option maxHeartbeats 4000000
set_option maxRecDepth 100000
theorem plc_at (l : List Pl) (i : Nat) (q : Pl) (h : l[i]? = some q) : (S.en plc l)[i * 4 + 3]? = some (.int .u16 q.ram) := by
 have e : S.en plc l = S.en plc (l.take i) ++ (plc q ++ S.en plc (l.drop (i + 1))) := by
  conv => lhs; rw [<- List.take_append_drop i l]
  have hi : i < l.length := (List.getElem?_eq_some_iff.1 h).1
  have hd : l.drop i = q :: l.drop (i + 1) := by
   rw [List.drop_eq_getElem_cons hi]
   congr 1
   exact (List.getElem?_eq_some_iff.1 h).2
  rw [hd, S.en_append, S.en_cons]
 have hl : (S.en plc (l.take i)).length = i * 4 := by
  rw [S.en_len (e := plc) (s := 4) (fun _ => rfl), List.length_take, Nat.min_eq_left (Nat.le_of_lt (List.getElem?_eq_some_iff.1 h).1)]
 rw [e, List.getElem?_append_right (by omega), hl, Nat.add_sub_cancel_left]
 rfl
theorem plv_of {W : World} {B n : Nat} {v : Value} {l : List Pl} (h : W.ownsRow B 142 4 v n (S.en plc l)) (hl : l.length = n) : PLV W (fun i => i < W.heap.size) v l := by
 subst hl
 obtain ⟨p, c, rfl⟩ := own_form h
 refine ⟨p, c, rfl, fun i q hq => ?_⟩
 have hi : i < l.length := (List.getElem?_eq_some_iff.1 hq).1
 rcases h.2 with ⟨e, e2⟩ | ⟨g, cap, cur, e, h2, h3, _⟩
 ·omega
 ·injection e with e _ e3
  subst e
  refine ⟨g, 0, rfl, S.lt_of h3, ?_⟩
  subst e3
  rw [Nat.zero_add, World.ownsRow.cellAt h (i * 4 + 3) (by omega)]
  exact plc_at l i q hq
theorem fieldI (W : World) (q : Option Addr) : (Instr.field 84 (.agg #[.int .i64 1, .int .u16 0, .pointer q, .int .i64 0, .int .i64 0]) 2).run Tryz.prog W = .ok (.pointer q) W := by kernel_rfl
structure Fresh (n g bd br bs : Nat) (F O : Nat -> Prop) : Prop where
 g : n <= g
 d : n <= bd
 r : n <= br
 s : n <= bs
 f : ∀ i, F i -> n <= i
 o : ∀ i, O i -> n <= i
theorem new_mv (n lo : Nat) (w4 w5 W6 w7 : World) (bm : Nat) (m : M.MS) (U : Nat -> Prop) (l : List Mn) (wp : Ps) (x : Value) (hn : n <= lo) (hlo : lo <= w4.heap.size)
  (hM : M.HasM w4 (fun k => lo <= k /\ k < w4.heap.size) bm m) (hb5 : Below w4.heap.size w4 w5) (hW6 : (w5.alloc (.cells S.z60.toArray 104)).alloc (.cells S.z50.toArray 111) = W6)
  (hU : ∀ i, U i -> w4.heap.size < i /\ i < w5.heap.size) (hx : PV W6 U (bgn l 0 []) wp x) (hl : okL l) (hb7 : Below W6.heap.size W6 w7) :
  MV ((w7.alloc (.cells #[x] 86)).alloc (.cells #[.int .i64 1, .int .i64 0, .pointer (some ⟨w5.heap.size, 0, none⟩), .pointer (some ⟨w5.heap.size + 1, 0, none⟩), .pointer (some ⟨bm, 0, none⟩), .slice (some ⟨w7.heap.size, 0, none⟩) 1 1] 76)) (w7.heap.size + 1) w5.heap.size (w5.heap.size + 1) bm w7.heap.size 1 (fun k => lo <= k /\ k < w4.heap.size) U ⟨1, 0, [], [], m, [], ⟨bgn l 0 [], wp⟩⟩ /\
  Fresh n (w7.heap.size + 1) w5.heap.size (w5.heap.size + 1) w7.heap.size (fun k => lo <= k /\ k < w4.heap.size) U /\
  Below w4.heap.size w4 ((w7.alloc (.cells #[x] 86)).alloc (.cells #[.int .i64 1, .int .i64 0, .pointer (some ⟨w5.heap.size, 0, none⟩), .pointer (some ⟨w5.heap.size + 1, 0, none⟩), .pointer (some ⟨bm, 0, none⟩), .slice (some ⟨w7.heap.size, 0, none⟩) 1 1] 76)) := by
 have b1 := P.bel_alloc w5 (.cells S.z60.toArray 104)
 have b2 := P.bel_alloc (w5.alloc (.cells S.z60.toArray 104)) (.cells S.z50.toArray 111)
 have e1 : (w5.alloc (.cells S.z60.toArray 104)).heap.size = w5.heap.size + 1 := by simp
 have h1 := (S.hasD0 w5).below b2
 have h2 := S.hasR0 (w5.alloc (.cells S.z60.toArray 104))
 rw [e1] at h2
 have b6 : Below w5.heap.size w5 W6 := by rw [<- hW6]; exact trB b1 b2 b1.size
 have e6 : W6.heap.size = w5.heap.size + 2 := by rw [<- hW6]; simp
 rw [hW6] at h1 h2
 have s7 := hb7.size
 have b8 := P.bel_alloc w7 (.cells #[x] 86)
 have z8 := heap_alloc_new w7 (.cells #[x] 86)
 have e8 : (w7.alloc (.cells #[x] 86)).heap.size = w7.heap.size + 1 := by simp
 generalize w7.alloc (.cells #[x] 86) = W8 at *
 have b9 := P.bel_alloc W8 (.cells #[.int .i64 1, .int .i64 0, .pointer (some ⟨w5.heap.size, 0, none⟩), .pointer (some ⟨w5.heap.size + 1, 0, none⟩), .pointer (some ⟨bm, 0, none⟩), .slice (some ⟨w7.heap.size, 0, none⟩) 1 1] 76)
 have z9 := heap_alloc_new W8 (.cells #[.int .i64 1, .int .i64 0, .pointer (some ⟨w5.heap.size, 0, none⟩), .pointer (some ⟨w5.heap.size + 1, 0, none⟩), .pointer (some ⟨bm, 0, none⟩), .slice (some ⟨w7.heap.size, 0, none⟩) 1 1] 76)
 have e9 : (W8.alloc (.cells #[.int .i64 1, .int .i64 0, .pointer (some ⟨w5.heap.size, 0, none⟩), .pointer (some ⟨w5.heap.size + 1, 0, none⟩), .pointer (some ⟨bm, 0, none⟩), .slice (some ⟨w7.heap.size, 0, none⟩) 1 1] 76)).heap.size = W8.heap.size + 1 := by simp
 generalize W8.alloc (.cells #[.int .i64 1, .int .i64 0, .pointer (some ⟨w5.heap.size, 0, none⟩), .pointer (some ⟨w5.heap.size + 1, 0, none⟩), .pointer (some ⟨bm, 0, none⟩), .slice (some ⟨w7.heap.size, 0, none⟩) 1 1] 76) = W9 at *
 rw [e8] at z9
 have b69 : Below W6.heap.size W6 W9 := trB (trB hb7 b8 s7) b9 (by omega)
 have b49 : Below w4.heap.size w4 W9 := trB (trB hb5 b6 hb5.size) b69 (by have := hb5.size; omega)
 have s45 := hb5.size
 refine ⟨⟨z9, ⟨h1.below b69, h2.below b69, hM.kept fun i hi _ => b49.block i hi, by omega, by rintro ⟨_, e⟩; omega, by rintro ⟨_, e⟩; omega⟩, ⟨[x], ⟨rfl, .inr ⟨w7.heap.size, 1, #[x], rfl, by omega, (b9.block _ (S.lt_of z8)).trans z8, Nat.le_refl _, by decide, rfl, rfl⟩⟩, PVs.mk (hx.below b69 fun i hi => by have := hU i hi; omega)⟩, fun k e => by have := hU k e; omega, fun k e => by have := e.2; omega, fun k e => ⟨by have := hU k e; omega, by have := hU k e; omega, by have := hU k e; omega, by have := hU k e; omega, by rintro ⟨_, f⟩; have := hU k e; omega⟩, ⟨by omega, by omega, by omega, by omega, by omega⟩, by rintro ⟨_, e⟩; omega, by rintro ⟨_, e⟩; omega, ⟨by simp, by simp, bgn_okP l 0 [] hl (fun f hf => by cases hf), by simp, by simp⟩⟩, ⟨by omega, by omega, by omega, by omega, fun i e => by have := e.1; omega, fun i e => by have := hU i e; omega⟩, b49⟩
theorem new_chk (ds : List Df) (bs : List Bk) (hnm : ∀ d ∈ ds, d.nm.size <= maxLen) (hlb : bs.length <= 1048576) (dv : Value) (bp : Option Addr) (bc : Nat) (O : Nat -> Prop) (w : World) (hO : ∀ j, O j -> j < w.heap.size) (hD : DV w O dv ds) (hK : BV w O (.slice bp bs.length bc) bs) (h : chk ds bs ≠ 0) :
  Calls Tryz.prog 14 #[.agg #[dv, .slice bp bs.length bc]] w fun e w' => e = .returned (.tuple #[.pointer none, .int .i64 (newE ds bs)]) /\ Below w.heap.size w w' := by
 obtain ⟨p1, c1, rfl, hl1, _⟩ := id hD
 obtain ⟨W, hW⟩ : ∃ W, w.alloc (.cells #[.slice p1 ds.length c1, .slice bp bs.length bc] 47) = W := ⟨_, rfl⟩
 have u1 : W.heap[w.heap.size]? = some (.cells [.slice p1 ds.length c1, .slice bp bs.length bc].toArray 47 (0, 0)) := by rw [<- hW]; exact heap_alloc_new w _
 have hB : Below w.heap.size w W := by rw [<- hW]; exact (Below.refl _ w).alloc (Nat.le_refl _) _
 have x0 := S.cell_of W _ 0 _ _ _ u1 rfl
 have x1 := S.cell_of W _ 1 _ _ _ u1 rfl
 have kc := R.check_any ds bs hnm (by omega) _ _ O W (fun j hj => Nat.lt_of_lt_of_le (hO j hj) hB.size) (hD.below hB hO) (hK.below hB hO)
 have e1 : newE ds bs = chk ds bs := by unfold newE; rw [if_neg h]
 rw [e1]
 have e2 : (chk ds bs != 0) = true := by simpa using h
 have HB := hid hB
 generalize chk ds bs = E at *
 clear hnm hlb hO hD hK hl1 hB e1 h u1
 go_enter Tryz.func14, Tryz.ntmps14
 go_wp2_with fail
 refine kc.mono ?_
 rintro e w1 ⟨rfl, hb1⟩
 have HB1 := hid (trB HB.out hb1 HB.out.size)
 clear kc hb1
 go_wp2
 go_ret2
 exact ⟨rfl, HB1.out⟩
theorem new_lay (ds : List Df) (bs : List Bk) (hnm : ∀ d ∈ ds, d.nm.size <= maxLen) (hlb : bs.length <= 1048576) (dv : Value) (bp : Option Addr) (bc : Nat) (O : Nat -> Prop) (w : World) (hO : ∀ j, O j -> j < w.heap.size) (hD : DV w O dv ds) (hK : BV w O (.slice bp bs.length bc) bs) (h : chk ds bs = 0) (h2 : lyE ds ds.length ≠ 0) :
  Calls Tryz.prog 14 #[.agg #[dv, .slice bp bs.length bc]] w fun e w' => e = .returned (.tuple #[.pointer none, .int .i64 (newE ds bs)]) /\ Below w.heap.size w w' := by
 obtain ⟨p1, c1, rfl, hl1, _⟩ := id hD
 obtain ⟨W, hW⟩ : ∃ W, w.alloc (.cells #[.slice p1 ds.length c1, .slice bp bs.length bc] 47) = W := ⟨_, rfl⟩
 have u1 : W.heap[w.heap.size]? = some (.cells [.slice p1 ds.length c1, .slice bp bs.length bc].toArray 47 (0, 0)) := by rw [<- hW]; exact heap_alloc_new w _
 have hB : Below w.heap.size w W := by rw [<- hW]; exact (Below.refl _ w).alloc (Nat.le_refl _) _
 have x0 := S.cell_of W _ 0 _ _ _ u1 rfl
 have x1 := S.cell_of W _ 1 _ _ _ u1 rfl
 have kc := R.check_any ds bs hnm (by omega) _ _ O W (fun j hj => Nat.lt_of_lt_of_le (hO j hj) hB.size) (hD.below hB hO) (hK.below hB hO)
 rw [h] at kc
 have e1 : newE ds bs = lyE ds ds.length := by unfold newE; rw [if_pos h]
 rw [e1]
 obtain ⟨E, hE⟩ : ∃ E, lyE ds ds.length = E := ⟨_, rfl⟩
 rw [hE]
 rw [hE] at h2
 have HEE := hid hE
 have HB := hid hB
 have kl := fun (w1 : World) (b1 : Below W.heap.size W w1) => Y.of_any ds _ (.slice bp bs.length bc) ⟨_, _, _, rfl⟩ O w1 (fun i hi => Nat.lt_of_lt_of_le (hO i hi) (Nat.le_trans hB.size b1.size)) ((hD.below hB hO).below b1 fun i hi => Nat.lt_of_lt_of_le (hO i hi) hB.size)
 have HE := hid h2
 have U1 := hid u1
 clear hnm hlb hO hD hK hl1 hB e1 h h2 u1 hE
 go_enter Tryz.func14, Tryz.ntmps14
 go_wp2_with fail
 refine kc.mono ?_
 rintro e w1 ⟨rfl, hb1⟩
 have u1 := (hb1.block _ (S.lt_of U1.out)).trans U1.out
 have x0 := S.cell_of w1 _ 0 _ _ _ u1 rfl
 have x1 := S.cell_of w1 _ 1 _ _ _ u1 rfl
 have HB1 := hid (trB HB.out hb1 HB.out.size)
 have kl1 := kl w1 hb1
 clear kc hb1 u1 kl
 go_wp2_with fail
 refine kl1.mono ?_
 rintro e w2 ⟨hr, hb2⟩
 have HB2 := hid (trB HB1.out hb2 HB1.out.size)
 rcases hr with ⟨v, hz, rfl, ho⟩ | ⟨k, d, hd, hz, hn, rfl⟩
 ·exact absurd (HEE.out.symm.trans (lyE_0 ds ds.length hz)) HE.out
 ·have e3 : lyE ds ds.length = Y.ps (Y.rms ds (k + 1)) := lyE_at ds k hz hn ds.length (List.getElem?_eq_some_iff.1 hd).1
  have e4 : Y.ps (Y.rms ds (k + 1)) = E := e3.symm.trans HEE.out
  rw [e4]
  have e2 : (E != 0) = true := by simpa using HE.out
  clear kl1 hb2 e3 e4 hz hn hd
  go_wp2
  go_ret2
  exact ⟨rfl, HB2.out.alloc HB2.out.size _⟩
theorem new_yes (ds : List Df) (bs : List Bk) (hnm : ∀ d ∈ ds, d.nm.size <= maxLen) (hlb : bs.length <= 1048576) (dv : Value) (bp : Option Addr) (bc : Nat) (O : Nat -> Prop) (w : World) (hO : ∀ j, O j -> j < w.heap.size) (hD : DV w O dv ds) (hK : BV w O (.slice bp bs.length bc) bs) (hn : newE ds bs = 0) (hr : ∀ d ∈ ds, rgD d) (hnl : ∀ d ∈ ds, Y.nl d.body <= 1048576) (hBn : M.BnS w bp bs) :
  Calls Tryz.prog 14 #[.agg #[dv, .slice bp bs.length bc]] w fun e w' => ∃ g bd br bm bq c F U, e = .returned (.tuple #[.pointer (some ⟨g, 0, none⟩), .int .i64 0]) /\ MV w' g bd br bm bq c F U (born ds bs) /\ Fresh w.heap.size g bd br bq F U /\ Below w.heap.size w w' := by
 obtain ⟨p1, c1, rfl, hl1, _⟩ := id hD
 obtain ⟨W, hW⟩ : ∃ W, w.alloc (.cells #[.slice p1 ds.length c1, .slice bp bs.length bc] 47) = W := ⟨_, rfl⟩
 have u1 : W.heap[w.heap.size]? = some (.cells [.slice p1 ds.length c1, .slice bp bs.length bc].toArray 47 (0, 0)) := by rw [<- hW]; exact heap_alloc_new w _
 have hB : Below w.heap.size w W := by rw [<- hW]; exact (Below.refl _ w).alloc (Nat.le_refl _) _
 have x0 := S.cell_of W _ 0 _ _ _ u1 rfl
 have x1 := S.cell_of W _ 1 _ _ _ u1 rfl
 have kc := R.check_any ds bs hnm (by omega) _ _ O W (fun j hj => Nat.lt_of_lt_of_le (hO j hj) hB.size) (hD.below hB hO) (hK.below hB hO)
 have h : chk ds bs = 0 := by
  unfold newE at hn
  by_cases q : chk ds bs = 0
  ·exact q
  ·rw [if_neg q] at hn; exact hn
 rw [h] at kc
 have h2 : lyE ds ds.length = 0 := by unfold newE at hn; rw [if_pos h] at hn; exact hn
 have hOW : ∀ (w1 : World) (b1 : Below W.heap.size W w1), ∀ i, O i -> i < w1.heap.size := fun w1 b1 i hi => Nat.lt_of_lt_of_le (hO i hi) (Nat.le_trans hB.size b1.size)
 have hDW : ∀ (w1 : World) (b1 : Below W.heap.size W w1), DV w1 O (.slice p1 ds.length c1) ds := fun w1 b1 => (hD.below hB hO).below b1 fun i hi => Nat.lt_of_lt_of_le (hO i hi) hB.size
 have HB := hid hB
 have kl := fun (w1 : World) (b1 : Below W.heap.size W w1) => Y.of_any ds _ (.slice bp bs.length bc) ⟨_, _, _, rfl⟩ O w1 (hOW w1 b1) (hDW w1 b1)
 have kn := fun (w1 : World) (b1 : Below W.heap.size W w1) => M.new_yes bp bc bs (by unfold M.room; omega) w1 ((hBn.below hB).below b1) (bk_may bs (-1) (chk_parts h).2.1)
 obtain ⟨l, mp, hmain, hl⟩ := main_ok ds bs (Y.pls ds ds.length) (Y.pls_len ds _ (Nat.le_refl _)) h hr (pls_rg ds ds.length)
 have HM := hid (And.intro hmain (And.intro hl (And.intro hnl (And.intro hOW hDW))))
 have HE := hid h2
 have U1 := hid u1
 clear hnm hlb hO hD hK hl1 hB h h2 u1 hr hn hBn hmain hl hnl hOW hDW
 go_enter Tryz.func14, Tryz.ntmps14
 go_wp2_with fail
 refine kc.mono ?_
 rintro e w1 ⟨rfl, hb1⟩
 have u1 := (hb1.block _ (S.lt_of U1.out)).trans U1.out
 have x0 := S.cell_of w1 _ 0 _ _ _ u1 rfl
 have x1 := S.cell_of w1 _ 1 _ _ _ u1 rfl
 have HB1 := hid hb1
 have kl1 := kl w1 hb1
 clear kc hb1 u1 kl
 go_wp2_with fail
 refine kl1.mono ?_
 rintro e w2 ⟨hr, hb2⟩
 rcases hr with ⟨v, hz, rfl, ho⟩ | ⟨k, d, hd, hz, hn, rfl⟩
 rotate_left
 ·exact absurd ((lyE_at ds k hz hn ds.length (List.getElem?_eq_some_iff.1 hd).1).symm.trans HE.out) hn
 clear hz kl1
 obtain ⟨W3, hW3, hb3⟩ : ∃ W3, w2.alloc (.cells #[.int .i64 0, .int .i64 0] 33) = W3 /\ Below w2.heap.size w2 W3 := ⟨_, rfl, (Below.refl _ _).alloc (Nat.le_refl _) _⟩
 have hB2 := trB HB1.out hb2 HB1.out.size
 have hB3 := trB hB2 hb3 hB2.size
 have HB3 := hid hB3
 have ho3 := S.own_kept (W' := W3) ho fun i e hi => hb3.block i hi
 have HO3 := hid (plv_of ho3 (Y.pls_len ds _ (Nat.le_refl _)))
 have u3 := (hB3.block _ (S.lt_of U1.out)).trans U1.out
 have x0 := S.cell_of W3 _ 0 _ _ _ u3 rfl
 have x1 := S.cell_of W3 _ 1 _ _ _ u3 rfl
 have kn3 := kn W3 hB3
 have HW3 := hid hW3
 clear hb2 hb3 hB2 hB3 ho ho3 u3 kn hW3
 go_upto_region 5 with fail
 rw [HW3.out]
 go_wp2_with fail
 refine kn3.mono ?_
 rintro e w4 ⟨bm, rfl, hM4, hb4⟩
 have hB4 := trB HB3.out hb4 HB3.out.size
 have HB4 := hid hB4
 have HM4 := hid (M.HasM.mono (G := fun k => W3.heap.size <= k /\ k < w4.heap.size) hM4 fun i hi e => ⟨e, hi⟩)
 have u4 := (hB4.block _ (S.lt_of U1.out)).trans U1.out
 have x0 := S.cell_of w4 _ 0 _ _ _ u4 rfl
 have x1 := S.cell_of w4 _ 1 _ _ _ u4 rfl
 have HP4 := hid (show PLV w4 (fun i => i < W3.heap.size) v _ from by
  obtain ⟨p, c, e, h⟩ := HO3.out
  refine ⟨p, c, e, fun i q hq => ?_⟩
  obtain ⟨b, o, e1, e2, e3⟩ := h i q hq
  exact ⟨b, o, e1, e2, by rw [hb4.cell e2]; exact e3⟩)
 have H34 := hid hb4.size
 have k5 := names_of ds (Y.pls ds ds.length) (.slice p1 ds.length c1) v O _ w4 (HM.out.2.2.2.1 w4 hB4) (fun i hi => Nat.lt_of_lt_of_le hi hb4.size) (HM.out.2.2.2.2 w4 hB4) HP4.out (Y.pls_len ds _ (Nat.le_refl _)) HM.out.2.2.1
 clear hM4 hb4 hB4 u4 kn3
 go_wp2_with fail
 refine k5.mono ?_
 rintro e w5 ⟨U, L, rfl, hMP, hEv, hU, hb5⟩
 have hB5 := trB HB4.out hb5 HB4.out.size
 have HB5 := hid (And.intro hB5 hb5)
 obtain ⟨wq, hlk, hw⟩ := hEv.look mn
 rw [HM.out.1] at hlk hw
 simp only [Option.getD_some] at hlk hw
 rcases hw with ⟨e, _⟩ | ⟨wb, l', bv, e, ew, hUb, hblk, hN⟩
 ·cases e
 obtain rfl : l = l' := by injection e
 cases ew
 have hlook := look_z w5 w4.heap.size mn L hMP
 rw [hlk] at hlook
 unfold vI mn at hlook
 have hfld := fieldI w5 (some ⟨wb, 0, none⟩)
 have HU := hid (And.intro hU (And.intro hUb (And.intro hblk hN)))
 clear hMP hEv hU hb5 hB5 hlk e hUb hblk hN k5 x0 x1
 go_wp2_with (first | (refine S.wpList_build60 rfl rfl ?_) | (refine S.wpList_build50 rfl rfl ?_))
 obtain ⟨W6, hW6⟩ : ∃ W6, (w5.alloc (.cells S.z60.toArray 104)).alloc (.cells S.z50.toArray 111) = W6 := ⟨_, rfl⟩
 have b6 : Below w5.heap.size w5 W6 := by
  rw [<- hW6]
  exact trB (P.bel_alloc w5 _) (P.bel_alloc _ _) (by simp)
 have kb := wbegin_any wb l bv mp U W6 ((b6.block _ (HU.out.1 _ HU.out.2.1).2).trans HU.out.2.2.1) (HU.out.2.2.2.below b6 fun i hi => (HU.out.1 i hi).2) (fun i hi => Nat.lt_of_lt_of_le (HU.out.1 i hi).2 b6.size) HU.out.2.1
 rw [hW6]
 have HW6 := hid hW6
 clear b6 hW6
 refine kb.mono ?_
 rintro e w7 ⟨x, rfl, hx, hb7⟩
 obtain ⟨tt, xx, rfl⟩ := PV.isI _ _ _ hx
 have hbn : born ds bs = ⟨1, 0, [], [], { M.m0 with banks := M.nbk bs }, [], ⟨bgn l 0 [], mp⟩⟩ := by
  unfold born
  rw [HM.out.1]; rfl
 have hfin := new_mv w.heap.size W3.heap.size w4 w5 W6 w7 bm _ U l mp _ (Nat.le_trans HB.out.size HB3.out.size) H34.out HM4.out HB5.out.2 HW6.out HU.out.1 hx HM.out.2.1 hb7
 rw [<- hbn] at hfin
 have HF := hid (And.intro hfin.1 (And.intro hfin.2.1 (trB (trB HB.out HB4.out HB.out.size) hfin.2.2 (Nat.le_trans HB.out.size HB4.out.size))))
 clear hfin hbn kb hx hb7
 go_wp2_with (first | (refine S.wpList_build60 rfl rfl ?_) | (refine S.wpList_build50 rfl rfl ?_))
 go_ret2
 trace_state
 exact ⟨_, _, _, _, _, _, _, _, rfl, HF.out⟩
open Go.Proofs.YtoemoiehjdmheaaGreat.Y (Nd Df Ps Pl hid ZV DV BV rgN rgN_is rgD)
open Go.Proofs.YtoemoiehjdmheaaGreat.R (chk Bk)
set_option linter.unusedVariables false
set_option linter.unusedSimpArgs false
set_option maxRecDepth 100000
set_option maxHeartbeats 1000000
def awB : List Nd := [⟨2, 0, 7, ⟨#[]⟩, [], [], false, (1, 8)⟩, ⟨2, 0, 0, ⟨#[]⟩, [], [], false, (0, 0)⟩, ⟨1, 24, 0, ⟨#[]⟩, [], [], false, (0, 0)⟩, ⟨1, 13, 0, ⟨#[]⟩, [], [], false, (0, 0)⟩]
def awD : List Df := [⟨1, mn, 0, awB, (1, 3)⟩]
def awM : List Mn := [⟨3, 7, [], z2, (1, 8), 2, [], [], false⟩, ⟨3, 0, [], z2, (0, 0), 2, [], [], false⟩, ⟨24, 0, [], z2, (0, 0), 1, [], [], false⟩, ⟨13, 0, [], z2, (0, 0), 1, [], [], false⟩]
theorem aw_map : awB.map (rs []) = awM := by
 unfold awB
 rw [List.map_cons, List.map_cons, List.map_cons, List.map_cons, List.map_nil, rs_is, rs_is, rs_is, rs_is]
 rfl
theorem aw_on (n : Nat) (h : n + 1 < 4) : on [⟨0, awM, n⟩] false = [⟨0, awM, n + 1⟩] := by
 show bgn awM (n + 1) [] = _
 have : n = 0 \/ n = 1 \/ n = 2 := by omega
 rcases this with rfl | rfl | rfl
 ·rw [bgn_at awM 1 [] _ rfl, en_is]; rfl
 ·rw [bgn_at awM 2 [] _ rfl, en_is]; rfl
 ·rw [bgn_at awM 3 [] _ rfl, en_is]; rfl
theorem aw_on3 : on [⟨0, awM, 3⟩] false = [] := by
 show bgn awM 4 [] = _
 exact bgn_end awM 4 [] (by decide)
def aw (st : Int) (m : M.MS) (D : List Int) (fr : List Fr) : VS := ⟨st, 0, D, [], m, [], ⟨fr, (1, 3)⟩⟩
def awm : M.MS := { M.m0 with banks := M.nbk [] }
theorem aw_pl : Y.pls awD 1 = [Y.bt ⟨1, mn, 0, awB, (1, 3)⟩ (Y.rms awD 0) (Y.rms awD 1)] := rfl
theorem aw_evk : evk awD (Y.pls awD 1) 1 = [(mn, ⟨1, 0, [awM], (1, 3)⟩)] := by
 rw [evk_succ awD (Y.pls awD 1) 0 ⟨1, mn, 0, awB, (1, 3)⟩ _ rfl (by rw [aw_pl]; rfl)]
 show upn [] mn ⟨1, 0, [awB.map (rs [])], (1, 3)⟩ = _
 rw [aw_map]
 rfl
theorem aw_born : born awD [] = aw 1 awm [] [⟨0, awM, 0⟩] := by
 unfold born
 show (⟨1, 0, [], [], awm, [], ⟨bgn ((((lkn (evk awD (Y.pls awD 1) 1) mn).getD ⟨0, 0, [], z2⟩).w).headD []) 0 [], ((lkn (evk awD (Y.pls awD 1) 1) mn).getD ⟨0, 0, [], z2⟩).wp⟩⟩ : VS) = _
 rw [aw_evk]
 have hl : lkn [(mn, (⟨1, 0, [awM], (1, 3)⟩ : Nm))] mn = some ⟨1, 0, [awM], (1, 3)⟩ := by rw [lkn, if_pos rfl]
 rw [hl]
 show (⟨1, 0, [], [], awm, [], ⟨bgn awM 0 [], (1, 3)⟩⟩ : VS) = _
 rw [bgn_at awM 0 [] _ rfl, en_is]
 rfl
theorem aw_look : look (born awD []) = ⟨3, 7, [], z2, (1, 8)⟩ := by rw [aw_born]; rfl
theorem aw_cost : cost 3 = 2 := by kernel_rfl
theorem doo_c (i : In) (v v' : VS) (fr' : List Fr) (h1 : i.op ≠ 1) (h8 : i.op ≠ 8) (hd : dn i.op i.v v = ⟨false, 0, v'⟩) (ho : on v'.c.fr false = fr') : doo i v = (0, { v' with c := ⟨fr', v'.c.e⟩ }) := by
 unfold doo
 rw [if_neg h1, if_neg h8, hd]
 subst ho
 rfl
theorem wk_go (i : In) (k : Nat) (B : Int) (v : VS) (n s : Int) (v' : VS) (co : Int) (hi : look v = i) (h1 : v.st = 1) (h2 : s < B) (hc : cost i.op = co) (h3 : ¬ B - s < co) (hd : doo i (cyc s v) = (0, v')) (h10 : i.op ≠ 10) : wk (k + 1) B v n s = wk k B v' (n + 1) (s + co) := by
 subst hi
 rw [wk, if_pos ⟨h1, h2⟩, hc, if_neg h3, hd, if_pos rfl, if_neg h10]
theorem aw_frame (m : M.MS) : ∃ m', wk 100 100 (aw 1 m [] [⟨0, awM, 0⟩]) 0 0 = ⟨aw 2 m' [] [], 5, 11⟩ := by
 refine ⟨{ m with cyc := 9 }, ?_⟩
 rw [wk_go ⟨3, 7, [], z2, (1, 8)⟩ 99 100 _ 0 0 (aw 1 { m with cyc := 0 } [7] [⟨0, awM, 1⟩]) 2 rfl rfl (by decide) rfl (by decide) (doo_c _ _ (aw 1 { m with cyc := 0 } [7] [⟨0, awM, 0⟩]) _ (by decide) (by decide) rfl (aw_on 0 (by decide))) (by decide)]
 rw [wk_go ⟨3, 0, [], z2, (0, 0)⟩ 98 100 _ _ _ (aw 1 { m with cyc := 2 } [7, 0] [⟨0, awM, 2⟩]) 2 rfl rfl (by decide) rfl (by decide) (doo_c _ _ (aw 1 { m with cyc := 2 } [7, 0] [⟨0, awM, 1⟩]) _ (by decide) (by decide) rfl (aw_on 1 (by decide))) (by decide)]
 rw [wk_go ⟨24, 0, [], z2, (0, 0)⟩ 97 100 _ _ _ (aw 1 { m with cyc := 4 } [0] [⟨0, awM, 3⟩]) 4 rfl rfl (by decide) rfl (by decide) (doo_c _ _ (aw 1 { m with cyc := 4 } [0] [⟨0, awM, 2⟩]) _ (by decide) (by decide) rfl (aw_on 2 (by decide))) (by decide)]
 rw [wk_go ⟨13, 0, [], z2, (0, 0)⟩ 96 100 _ _ _ (aw 1 { m with cyc := 8 } [] []) 1 rfl rfl (by decide) rfl (by decide) (doo_c _ _ (aw 1 { m with cyc := 8 } [] [⟨0, awM, 3⟩]) _ (by decide) (by decide) rfl aw_on3) (by decide)]
 rw [wk_go ⟨8, 0, [], z2, (1, 3)⟩ 95 100 _ _ _ (aw 2 { m with cyc := 9 } [] []) 2 rfl rfl (by decide) rfl (by decide) rfl (by decide)]
 rw [wk_end _ _ _ _ _ (fun e => absurd e.1 (show ¬ (2 : Int) = 1 by decide))]
 rfl
theorem aw_any : ∃ m', frame (born awD []) 0 100 = ⟨aw 2 m' [] [], 5, 11⟩ := by
 obtain ⟨m', h⟩ := aw_frame (M.bg awm 0)
 exact ⟨m', by rw [aw_born]; exact h⟩
theorem aw_rg : ∀ d ∈ awD, rgD d := by
 intro d hd
 simp [awD] at hd
 subst hd
 refine ⟨c0, fun n hn => ?_⟩
 simp only [awB, List.mem_cons, List.not_mem_nil, or_false] at hn
 rcases hn with rfl | rfl | rfl | rfl <;> exact (rgN_is _).2 ⟨⟨by decide, by decide⟩, by simp, by simp⟩
theorem aw_nl : ∀ d ∈ awD, Y.nl d.body <= 1048576 := by
 intro d hd
 simp [awD] at hd
 subst hd
 show Y.nl awB <= _
 unfold awB
 rw [Y.nl_cons, Y.nl_cons, Y.nl_cons, Y.nl_cons, Y.nn_is, Y.nn_is, Y.nn_is, Y.nn_is]
 decide
theorem aw_ck (ns : List ByteArray) (k op v : Int) (p : Ps) (i : Nat × Bool) (hu : R.uses ⟨k, op, v, ⟨#[]⟩, [], [], false, p⟩ = true) (hf : R.fits ns ⟨k, op, v, ⟨#[]⟩, [], [], false, p⟩ = true) (h9 : k = 1 \/ k = 2) : R.ck ns ⟨k, op, v, ⟨#[]⟩, [], [], false, p⟩ i = 0 := by
 rw [R.ck_is]
 have h : R.own1 ns ⟨k, op, v, ⟨#[]⟩, [], [], false, p⟩ i = 0 := by
  unfold R.own1
  rw [hu, hf, if_neg (by simp), if_neg (by simp), if_neg, if_neg]
  ·rcases h9 with rfl | rfl <;> rintro ⟨e, _⟩ <;> cases e
  ·rcases h9 with rfl | rfl <;> rintro ⟨e, _⟩ <;> cases e
 rw [if_pos h, R.cks_nil, if_pos rfl]
theorem emp_u (k op v : Int) (p : Ps) (h : (decide (1 <= k) && (decide (k <= 9) && ((k == 1 || op == 0) && ((k == 2 || v == 0) && (R.strc k || true))))) = true) : R.uses ⟨k, op, v, ⟨#[]⟩, [], [], false, p⟩ = true := by
 have e : (⟨#[]⟩ : ByteArray).toList.isEmpty = true := by rw [ByteArray.toList_eq]; rfl
 unfold R.uses R.usesF
 simp only [e]
 simp only [Bool.and_eq_true] at h ⊢
 simp [h.1, h.2.1, h.2.2.1, h.2.2.2.1]
theorem aw_chk : chk awD [] = 0 := by
 have hm : R.isNm mn = true := by
  unfold R.isNm R.isRes R.resW R.prN
  have e : mn.toList = [109, 97, 105, 110] := by rw [ByteArray.toList_eq]; rfl
  have e2 : (fun x => (P.nm x).toList == ([109, 97, 105, 110] : List UInt8)) = (fun x => (P.nm x).data.toList == ([109, 97, 105, 110] : List UInt8)) := by funext x; rw [ByteArray.toList_eq]
  rw [e, e2]
  decide +kernel
 have hb : R.cks [] awB (0, false) = 0 := by
  unfold awB
  rw [R.cks_cons, if_pos (aw_ck _ _ _ _ _ _ (emp_u _ _ _ _ rfl) rfl (.inr rfl)), R.cks_cons, if_pos (aw_ck _ _ _ _ _ _ (emp_u _ _ _ _ rfl) rfl (.inr rfl)), R.cks_cons, if_pos (aw_ck _ _ _ _ _ _ (emp_u _ _ _ _ rfl) rfl (.inl rfl)), R.cks_cons, if_pos (aw_ck _ _ _ _ _ _ (emp_u _ _ _ _ rfl) rfl (.inl rfl)), R.cks_nil]
 have hd : R.dfE [] ⟨1, mn, 0, awB, (1, 3)⟩ = 0 := by
  unfold R.dfE
  rw [hm, hb]
  rfl
 unfold R.chk awD R.dsE
 rw [hd]
 rfl
theorem aw_new : newE awD [] = 0 := by
 unfold newE
 rw [aw_chk, if_pos rfl]
 have hc : Y.cl awB = 6 := by
  unfold awB
  rw [Y.cl_cons, Y.cl_cons, Y.cl_cons, Y.cl_cons, Y.ce_is, Y.ce_is, Y.ce_is, Y.ce_is]
  rfl
 have hdb : Y.db ⟨1, mn, 0, awB, (1, 3)⟩ = 16 := by unfold Y.db; rw [if_pos rfl, hc]; rfl
 refine lyE_0 awD 1 fun j hj => ?_
 obtain rfl : j = 0 := by omega
 rw [Y.rms_succ awD 0 ⟨1, mn, 0, awB, (1, 3)⟩ rfl]
 unfold Y.wt
 rw [hdb]
 clear hdb hc
 kernel_rfl
open Go.Proofs.YtoemoiehjdmheaaGreat.Y (Nd Df Ps Pl hid ZV DV BV NV NA N1 D1 ndc dfc rgN rgN_is rgD)
open Go.Proofs.YtoemoiehjdmheaaGreat.R (chk Bk)
set_option linter.unusedVariables false
set_option linter.unusedSimpArgs false
set_option maxHeartbeats 4000000
set_option maxRecDepth 100000
theorem n1_of {W : World} {O : Nat -> Prop} {b o : Nat} {c : List Value} {t : TypeId} {n : Nd} {tv ev : Value} (hb : W.heap[b]? = some (.cells c.toArray t (0, 0))) (hc : (c.drop o).take 9 = ndc n tv ev) (ht : NV W O tv n.th) (he : NV W O ev n.el) : N1 W O b o n :=
  Y.N1.mk tv ev (fun j x hx => S.cell_of W b (o + j) c t x hb (by
    rw [<- hc, List.getElem?_take] at hx
    split at hx
    · rw [List.getElem?_drop] at hx; exact hx
    · cases hx)) ht he
theorem d1_of {W : World} {O : Nat -> Prop} {b o : Nat} {c : List Value} {t : TypeId} {d : Df} {bv : Value} (hb : W.heap[b]? = some (.cells c.toArray t (0, 0))) (hc : (c.drop o).take 6 = dfc d bv) (ht : NV W O bv d.body) : D1 W O b o d :=
  ⟨bv, fun j x hx => S.cell_of W b (o + j) c t x hb (by
    rw [<- hc, List.getElem?_take] at hx
    split at hx
    · rw [List.getElem?_drop] at hx; exact hx
    · cases hx), ht⟩
theorem nv_nil (W : World) (O : Nat -> Prop) : NV W O (.slice none 0 0) [] := Y.NV.nil (.inl rfl)
theorem posF : Tryz.prog.underlying 33 = some (.struct (Tryz.prog.fieldsOf 33)) /\ Tryz.prog.fieldsOf 33 = #[⟨ "Line", 3, 0, false, "", "", 0⟩, ⟨ "Col", 3, 1, false, "", "", 8⟩] /\ Tryz.prog.stoodInHeld 33 = false /\ Tryz.prog.cellsOf 3 = 1 :=
  ⟨by kernel_rfl, by kernel_rfl, by kernel_rfl, by kernel_rfl⟩
theorem eql_pos (W : World) (a b : Int) : (binOp .eql 33 (.agg #[.int .i64 a, .int .i64 b]) (.agg #[.int .i64 a, .int .i64 b])).run Tryz.prog W = .ok (.bool true) W := by
  obtain ⟨hs, hf, hp, k3⟩ := posF
  rw [run_eql_struct, run_equalIn_agg W 9999 _ _ _ hs hp, hf]
  simp [go_sem, Tryz.underlying3, k3, Result.andThen]
theorem num_any (n : Int) (w : World) : Calls Tryz.prog 9 #[.int .i64 n] w fun e w' => e = .returned (.int .i64 n) /\ w' = w := by
  go_enter Tryz.func9, Tryz.ntmps9
  go_wp2
  go_ret
  exact ⟨rfl, rfl⟩
theorem tcB {W W' : World} {n g bd br bm bs : Nat} {F O : Nat -> Prop} {v : VS} (h : VD W W' g bd br bm bs F O v) (f : Fresh n g bd br bs F O) (hn : n <= W.heap.size) : Below n W W' :=
  ⟨h.t.os, h.t.tape, h.t.output, h.t.size, fun k hk => h.t.block k (by omega) (by
    rintro (e | e | e | e | e)
    · have := f.g; omega
    · have := f.d; omega
    · have := f.r; omega
    · have := f.s; omega
    · have := f.f k e; omega)⟩
def awN : List Value := [.int .i64 2, .int .i64 0, .int .u16 7, .string ⟨#[]⟩, .slice none 0 0, .slice none 0 0, .bool false, .int .i64 1, .int .i64 8, .int .i64 2, .int .i64 0, .int .u16 0, .string ⟨#[]⟩, .slice none 0 0, .slice none 0 0, .bool false, .int .i64 0, .int .i64 0, .int .i64 1, .int .i64 24, .int .u16 0, .string ⟨#[]⟩, .slice none 0 0, .slice none 0 0, .bool false, .int .i64 0, .int .i64 0, .int .i64 1, .int .i64 13, .int .u16 0, .string ⟨#[]⟩, .slice none 0 0, .slice none 0 0, .bool false, .int .i64 0, .int .i64 0]
def awC (w : World) : List Value := [.int .i64 1, .string ⟨#[109, 97, 105, 110]⟩, .int .u16 0, .slice (some ⟨w.heap.size, 0, none⟩) 4 4, .int .i64 1, .int .i64 3]
def awW (w : World) : World := ((w.alloc (.cells awN.toArray 90)).alloc (.cells (awC w).toArray 60)).alloc (.cells #[.slice (some ⟨w.heap.size + 1, 0, none⟩) 1 1, .slice none 0 0] 47)
theorem aw_world (w : World) : DV (awW w) (fun i => i = w.heap.size \/ i = w.heap.size + 1) (.slice (some ⟨w.heap.size + 1, 0, none⟩) 1 1) awD /\ Below w.heap.size w (awW w) /\ (awW w).heap.size = w.heap.size + 3 := by
  have h0 : (awW w).heap[w.heap.size]? = some (.cells awN.toArray 90 (0, 0)) := by
    unfold awW
    rw [Below.heap_alloc _ _ _ (by simp; omega), Below.heap_alloc _ _ _ (by simp)]
    exact heap_alloc_new w _
  have h1 : (awW w).heap[w.heap.size + 1]? = some (.cells (awC w).toArray 60 (0, 0)) := by
    unfold awW
    rw [Below.heap_alloc _ _ _ (by simp)]
    exact heap_alloc2_new w _ _
  have z := fun W => nv_nil W (fun i => i = w.heap.size \/ i = w.heap.size + 1)
  have hA : NA (awW w) (fun i => i = w.heap.size \/ i = w.heap.size + 1) w.heap.size 0 awB :=
    Y.NA.cons (n1_of h0 rfl (z _) (z _)) (Y.NA.cons (n1_of h0 rfl (z _) (z _)) (Y.NA.cons (n1_of h0 rfl (z _) (z _)) (Y.NA.cons (n1_of h0 rfl (z _) (z _)) (Y.NA.nil _ _ _ _))))
  refine ⟨⟨_, 1, rfl, by decide, fun i d hi => ?_⟩, ?_, by simp [awW]⟩
  · have hi0 : i = 0 := by
      have := (List.getElem?_eq_some_iff.1 hi).1
      simp [awD] at this; exact this
    subst hi0
    cases hi
    exact ⟨_, 0, rfl, .inr rfl, d1_of h1 rfl (Y.NV.row (.inl rfl) (by decide) hA)⟩
  · unfold awW
    exact (((Below.refl _ w).alloc (Nat.le_refl _) _).alloc (by simp) _).alloc (by simp; omega) _
theorem awake_any (w : World) : Calls Tryz.prog 13 #[] w fun e w' => e = .returned (.bool true) /\ Below w.heap.size w w' := by
  obtain ⟨hD, hB, hsz⟩ := aw_world w
  have hO : ∀ j, (j = w.heap.size \/ j = w.heap.size + 1) -> j < (awW w).heap.size := by rintro j (rfl | rfl) <;> omega
  have kn := new_yes awD [] (by intro d hd; simp [awD] at hd; subst hd; decide) (by simp) (.slice (some ⟨w.heap.size + 1, 0, none⟩) 1 1) none 0 _ (awW w) hO hD ⟨none, 0, rfl, fun i d hi => by simp at hi⟩ aw_new aw_rg aw_nl (fun i t hi => by simp at hi)
  obtain ⟨W, hW⟩ : ∃ W, awW w = W := ⟨_, rfl⟩
  have HW := hid hW
  rw [hW] at kn hB
  have HB := hid hB
  clear hD hO hsz hW hB
  go_enter Tryz.func13, Tryz.ntmps13
  go_wp2_with fail
  rw [show (((w.alloc (.cells #[.int .i64 2, .int .i64 0, .int .u16 7, .string ⟨#[]⟩, .slice none 0 0, .slice none 0 0, .bool false, .int .i64 1, .int .i64 8, .int .i64 2, .int .i64 0, .int .u16 0, .string ⟨#[]⟩, .slice none 0 0, .slice none 0 0, .bool false, .int .i64 0, .int .i64 0, .int .i64 1, .int .i64 24, .int .u16 0, .string ⟨#[]⟩, .slice none 0 0, .slice none 0 0, .bool false, .int .i64 0, .int .i64 0, .int .i64 1, .int .i64 13, .int .u16 0, .string ⟨#[]⟩, .slice none 0 0, .slice none 0 0, .bool false, .int .i64 0, .int .i64 0] 90)).alloc (.cells #[.int .i64 1, .string ⟨#[109, 97, 105, 110]⟩, .int .u16 0, .slice (some ⟨w.heap.size, 0, none⟩) 4 4, .int .i64 1, .int .i64 3] 60)).alloc (.cells #[.slice (some ⟨w.heap.size + 1, 0, none⟩) 1 1, .slice none 0 0] 47)) = W from HW.out]
  refine kn.mono ?_
  rintro e w2 ⟨g, bd, br, bm, bq, c, F, U, rfl, hM, hF, hb2⟩
  have HB2 := hid (trB HB.out hb2 HB.out.size)
  have HM := hid hM
  have HF := hid hF
  have H2 := hid hb2.size
  have hq : (born awD []).st = 1 := rfl
  have hk : calls (born awD []).R = (born awD []).o.length := rfl
  have k3 := next_any w2 hM hq hk
  rw [aw_look, aw_cost] at k3
  clear kn hM hF hb2 hq
  go_wp2_with (refine (num_any _ _).mono ?_; rintro e wn ⟨rfl, hwn⟩; rw [hwn]; clear hwn wn)
  refine k3.mono ?_
  rintro e w3 ⟨rfl, hb3⟩
  have hB3 := trB HB2.out hb3 HB2.out.size
  have hs3 : w2.heap.size <= w3.heap.size := hb3.size
  have HS3 := hid hs3
  have hB4 : Below w.heap.size w (w3.alloc (.cells #[.int .i64 1, .int .i64 8] 33)) := hB3.alloc hB3.size _
  have hz4 := heap_alloc_new w3 (.cells #[.int .i64 1, .int .i64 8] 33)
  have hM4 := (HM.out.below hb3).below (P.bel_alloc w3 (.cells #[.int .i64 1, .int .i64 8] 33))
  have hs4 : w2.heap.size <= (w3.alloc (.cells #[.int .i64 1, .int .i64 8] 33)).heap.size := by simp; omega
  have k4 := frame_lo 0 100 (by decide) (by decide) g bd br bm bq c F U (born awD []) _ hk hM4
  have e0 : ((0 : UInt8).toNat : Int) = 0 := rfl
  rw [e0] at k4
  obtain ⟨m', hfr⟩ := aw_any
  rw [hfr] at k4
  simp only [OutV, aw] at k4
  clear k3 hb3 hM4 hfr e0 hB3 hs3
  obtain ⟨W4, hW4⟩ : ∃ W4, w3.alloc (.cells #[.int .i64 1, .int .i64 8] 33) = W4 := ⟨_, rfl⟩
  have HW4 := hid hW4
  rw [hW4] at hB4 hz4 hs4 k4
  have HB4 := hid hB4
  have HZ4 := hid hz4
  have HS4 := hid hs4
  clear hW4 hB4 hz4 hs4
  go_upto_region 6 with fail
  rw [HW4.out]
  go_wp2_with fail
  refine k4.mono ?_
  rintro e w5 ⟨p1, c1, p2, c2, rfl, lo, _, _, hV⟩
  have hB5 : Below w.heap.size w w5 := HB4.out.trans ((tcB hV.vd HF.out (Nat.le_trans H2.out HS4.out)).mono HB.out.size)
  obtain ⟨bs6, c6, F6, hM6, _, _⟩ := hV.s
  have hz5 := (hV.t.block w3.heap.size (S.lt_of HZ4.out) (by
    rintro (e | e | e | e | e)
    · have := HM.out.lt; have := HS3.out; omega
    · have := HM.out.lt_d; have := HS3.out; omega
    · have := HM.out.lt_r; have := HS3.out; omega
    · have := HM.out.lt_s; have := HS3.out; omega
    · have := HM.out.fl _ e; have := HS3.out; omega)).trans HZ4.out
  obtain ⟨z6, r6, b6⟩ := mkRow w5 #[.int .i64 0, .int .i64 0, .int .i64 0, .int .i64 0, .int .i64 0, .slice none 0 0, .slice none 0 0] #[.int .i64 2, .int .i64 0, .int .i64 5, .int .i64 11, .int .i64 89, .slice p1 m'.scr.length c1, .slice p2 m'.tones.length c2] 28
  have k5 := data_any _ (hM6.below b6)
  have hp6 := (b6.block _ (S.lt_of hz5)).trans hz5
  have HB6 := hid (trB hB5 b6 hB5.size)
  have HR6 := hid r6
  have HP6 := hid hp6
  clear hV hM6 hz5 b6 k4 hB5 hp6
  go_upto_region 7 with (refine wpList_store_row rfl 28 _ _ rfl w5.heap.size _ rfl rfl 28 z7 z6 (by exact sizeO) (by rfl) (by simp [Value.oneCell']) ?_)
  generalize (w5.alloc (.cells #[.int .i64 0, .int .i64 0, .int .i64 0, .int .i64 0, .int .i64 0, .slice none 0 0, .slice none 0 0] 28)).setRow w5.heap.size #[.int .i64 2, .int .i64 0, .int .i64 5, .int .i64 11, .int .i64 89, .slice p1 m'.scr.length c1, .slice p2 m'.tones.length c2] = W6 at *
  have x0 := S.cell_of W6 _ 0 [.int .i64 1, .int .i64 8] _ _ HP6.out rfl
  have x1 := S.cell_of W6 _ 1 [.int .i64 1, .int .i64 8] _ _ HP6.out rfl
  have a0 := S.cell_of _ _ 0 [.int .i64 2, .int .i64 0, .int .i64 5, .int .i64 11, .int .i64 89, .slice p1 m'.scr.length c1, .slice p2 m'.tones.length c2] _ _ HR6.out rfl
  have a2 := S.cell_of _ _ 2 [.int .i64 2, .int .i64 0, .int .i64 5, .int .i64 11, .int .i64 89, .slice p1 m'.scr.length c1, .slice p2 m'.tones.length c2] _ _ HR6.out rfl
  have a3 := S.cell_of _ _ 3 [.int .i64 2, .int .i64 0, .int .i64 5, .int .i64 11, .int .i64 89, .slice p1 m'.scr.length c1, .slice p2 m'.tones.length c2] _ _ HR6.out rfl
  have a4 := S.cell_of _ _ 4 [.int .i64 2, .int .i64 0, .int .i64 5, .int .i64 11, .int .i64 89, .slice p1 m'.scr.length c1, .slice p2 m'.tones.length c2] _ _ HR6.out rfl
  have ep := eql_pos W6 1 8
  clear z6 r6
  go_wp2_with (first | (refine (num_any _ _).mono ?_; rintro e wn ⟨rfl, hwn⟩; rw [hwn]; clear hwn wn) | (refine k5.mono ?_; rintro e w7 ⟨u, rfl, hu, hb7⟩; obtain ⟨q, cq, rfl⟩ := own_form hu; have HB7 := hid (trB HB6.out hb7 HB6.out.size); clear k5 hu hb7))
  go_ret
  exact ⟨rfl, HB7.out⟩
open Go.Proofs.YtoemoiehjdmheaaGreat.Y (Nd Df Ps Pl hid ZV)
set_option linter.unusedVariables false
set_option linter.unusedSimpArgs false
set_option maxHeartbeats 4000000
set_option maxRecDepth 100000
theorem below_cell {W W' : World} (b : Below W.heap.size W W') (a : Addr) (u : Value) (e : W.cell? a = some u) : W'.cell? a = some u := by rw [b.cell (World.block_lt_of_cell? W a e)]; exact e
theorem frame_calls (v : VS) (pad B : Int) (h : calls v.R = v.o.length) : calls (frame v pad B).v.R = (frame v pad B).v.o.length := wk_calls B _ _ _ _ h
theorem Sl_conv {W : World} {v : Value} {l : List UInt8} (h : M.Sl W v l) (hl : l.length <= maxLen) : (convert 25 9 v).run Tryz.prog W = .ok (.string ⟨l.toArray⟩) W := by
 rcases h with ⟨rfl, rfl⟩ | ⟨x, c, rfl, _, h⟩
 ·rw [run_convert_bytes_string W 25 9 5 none 0 0 Tryz.underlying25 Tryz.underlying5 Tryz.underlying9]; rfl
 ·exact run_convert_bytes_back (P := Tryz.prog) W 25 9 5 x c l Tryz.underlying25 Tryz.underlying5 Tryz.underlying9 (fun j hj => h j _ (by simp))
def Is (W : World) (p : Option Addr) (zs : List Int) : Prop := ∀ (i : Nat) (a : Int), zs[i]? = some a -> ∃ b o, p = some ⟨b, o, none⟩ /\ W.cell? ⟨b, o + i, none⟩ = some (.int .i64 a)
theorem Is.below {W W' : World} {p : Option Addr} {zs : List Int} (h : Is W p zs) {n : Nat} (hn : n = W.heap.size) (b : Below n W W') : Is W' p zs := by
 subst hn
 intro i a hi
 obtain ⟨x, o, e, k⟩ := h i a hi
 exact ⟨x, o, e, below_cell b _ _ k⟩
section
variable {w wr w1 w6 : World} {g bd br bm bs c : Nat} {F O : Nat -> Prop} {L0 : Nat} {u u' : VS} {over : Bool} {row : Array Value}
end
open Go.Proofs.YtoemoiehjdmheaaGreat.Y (Nd Df Ps Pl hid)
set_option linter.unusedVariables false
set_option linter.unusedSimpArgs false
set_option maxHeartbeats 1000000
set_option maxRecDepth 100000
structure MB where
 g : Nat
 bd : Nat
 br : Nat
 bm : Nat
 bs : Nat
 c : Nat
 F : Nat -> Prop
 O : Nat -> Prop
def MB.tv (b : MB) (i : Nat) : Prop := TV b.g b.bd b.br b.bs b.F i
def MB.bk (b : MB) (i : Nat) : Prop := b.tv i \/ b.O i
def MB.mv (b : MB) (W : World) (v : VS) : Prop := MV W b.g b.bd b.br b.bm b.bs b.c b.F b.O v
theorem MB.lt {b : MB} {W : World} {v : VS} (h : b.mv W v) (i : Nat) (hi : b.bk i) : i < W.heap.size := by
 rcases hi with (e | e | e | e | e) | e
 ·rw [e]; exact MV.lt h
 ·rw [e]; exact MV.lt_d h
 ·rw [e]; exact MV.lt_r h
 ·rw [e]; exact MV.lt_s h
 ·exact MV.fl h i e
 ·exact MV.ol h i e
theorem MB.kept {b : MB} {W W' : World} {v : VS} (h : b.mv W v) (o : ∀ i, b.bk i -> W'.heap[i]? = W.heap[i]?) (hs : W.heap.size <= W'.heap.size) : b.mv W' v := by
 obtain ⟨xs, hr, hp⟩ := MV.row h
 exact { (h : MV W b.g b.bd b.br b.bm b.bs b.c b.F b.O v) with
  blk := (o _ (.inl (.inl rfl))).trans (MV.blk h)
  ps := ⟨(MV.ps h).d.kept (o _ (.inl (.inr (.inl rfl)))), (MV.ps h).r.kept (o _ (.inl (.inr (.inr (.inl rfl))))), (MV.ps h).m.kept fun k _ f => o k (.inl (.inr (.inr (.inr (.inr f))))), (MV.ps h).dr, (MV.ps h).fd, (MV.ps h).fr⟩
  row := ⟨xs, S.own_kept hr fun k e _ => o k (by cases e; exact .inl (.inr (.inr (.inr (.inl rfl))))), hp.kept (fun k hk => o k (.inr hk)) fun _ h => h⟩
  ol := fun k e => Nat.lt_of_lt_of_le (MV.ol h k e) hs
  fl := fun k e => Nat.lt_of_lt_of_le (MV.fl h k e) hs }
theorem MB.below {b : MB} {W W' : World} {v : VS} (h : b.mv W v) (k : Below W.heap.size W W') : b.mv W' v := MB.kept h (fun i hi => k.block i (MB.lt h i hi)) k.size
theorem MB.beside {a b : MB} {W W' : World} {u : VS} (h : a.mv W u) (t : S.Tc b.tv W W') (ap : ∀ i, a.bk i -> ¬ b.tv i) : a.mv W' u :=
 MB.kept h (fun i hi => t.block i (MB.lt h i hi) (ap i hi)) t.size
structure FB (W w' : World) (lo : Nat) (b b' : MB) (v : VS) : Prop where
 gg : b'.g = b.g
 mv : b'.mv w' v
 l0 : W.heap.size <= lo
 l1 : lo <= w'.heap.size
 bk : ∀ i, b'.bk i -> b.bk i \/ (W.heap.size <= i /\ i < lo)
 tv : ∀ i, b'.tv i -> b.tv i \/ (W.heap.size <= i /\ i < lo)
 t : S.Tc b.tv W w'
theorem FB.of {W w' : World} {lo : Nat} {b : MB} {v : VS} (h : VL W w' lo b.g b.bd b.br b.bm b.bs b.F b.O v) : ∃ b', FB W w' lo b b' v := by
 obtain ⟨bs', c', F', hM, hF, hb⟩ := h.s
 have htv : ∀ i, MB.tv ⟨b.g, b.bd, b.br, b.bm, bs', c', F', b.O⟩ i -> b.tv i \/ (W.heap.size <= i /\ i < lo) := by
  rintro i (e | e | e | e | e)
  ·exact .inl (.inl e)
  ·exact .inl (.inr (.inl e))
  ·exact .inl (.inr (.inr (.inl e)))
  ·rcases hb with hb | hb
   ·exact .inl (.inr (.inr (.inr (.inl (e.trans hb)))))
   ·have e' : i = bs' := e
    rw [e']; exact .inr hb
  ·rcases hF i e with e | e
   ·exact .inl (.inr (.inr (.inr (.inr e))))
   ·exact .inr e
 refine ⟨⟨b.g, b.bd, b.br, b.bm, bs', c', F', b.O⟩, rfl, hM, h.l0, h.l1, fun i hi => ?_, htv, h.t⟩
 rcases hi with hi | hi
 ·rcases htv i hi with e | e
  ·exact .inl (.inl e)
  ·exact .inr e
 ·exact .inl (.inr hi)
theorem frame_b (x : UInt8) (B : Int) (hB0 : 4 <= B) (hB1 : B <= 16384) (b : MB) (v : VS) (w : World) (hk : calls v.R = v.o.length) (h : b.mv w v) :
  Calls Tryz.prog 7 #[.pointer (some ⟨b.g, 0, none⟩), .int .u8 (x.toNat : Int), .int .i64 B] w fun e w' => ∃ p1 c1 p2 c2 lo b', e = .returned (.tuple #[OutV (frame v (x.toNat : Int) B) B (.slice p1 (frame v (x.toNat : Int) B).v.m.scr.length c1) (.slice p2 (frame v (x.toNat : Int) B).v.m.tones.length c2), .int .i64 0]) /\ M.Row w' lo (.slice p1 (frame v (x.toNat : Int) B).v.m.scr.length c1) (frame v (x.toNat : Int) B).v.m.scr /\ M.TRow w' lo (.slice p2 (frame v (x.toNat : Int) B).v.m.tones.length c2) (frame v (x.toNat : Int) B).v.m.tones /\ FB w w' lo b b' (frame v (x.toNat : Int) B).v := by
 refine (frame_lo x B hB0 hB1 b.g b.bd b.br b.bm b.bs b.c b.F b.O v w hk h).mono ?_
 rintro e w' ⟨p1, c1, p2, c2, he, lo, h1, h2, h3⟩
 obtain ⟨b', hb'⟩ := FB.of (b := b) h3
 exact ⟨p1, c1, p2, c2, lo, b', he, h1, h2, hb'⟩
structure Two (W : World) (a b : MB) (u v : VS) : Prop where
 ma : a.mv W u
 mb : b.mv W v
 ab : ∀ i, a.bk i -> ¬ b.tv i
 ba : ∀ i, b.bk i -> ¬ a.tv i
theorem Two.below {W W' : World} {a b : MB} {u v : VS} (h : Two W a b u v) (k : Below W.heap.size W W') : Two W' a b u v := ⟨MB.below h.ma k, MB.below h.mb k, h.ab, h.ba⟩
theorem Two.left {W w' : World} {lo : Nat} {a b a' : MB} {u v u' : VS} (h : Two W a b u v) (k : FB W w' lo a a' u') : Two w' a' b u' v := by
 refine ⟨k.mv, MB.beside h.mb k.t h.ba, fun i hi hj => ?_, fun i hi hj => ?_⟩
 ·rcases k.bk i hi with e | e
  ·exact h.ab i e hj
  ·have := MB.lt h.mb i (.inl hj); omega
 ·rcases k.tv i hj with e | e
  ·exact h.ba i hi e
  ·have := MB.lt h.mb i hi; omega
theorem FB.other {W w' : World} {lo : Nat} {b b' : MB} {v : VS} (k : FB W w' lo b b' v) (i : Nat) (hi : i < W.heap.size) (h : ¬ b.tv i) : w'.heap[i]? = W.heap[i]? := k.t.block i hi h
open Go.Proofs.YtoemoiehjdmheaaGreat.Y (hid)
set_option linter.unusedVariables false
set_option linter.unusedSimpArgs false
set_option maxRecDepth 100000
theorem Fresh.tv {n : Nat} {b : MB} (h : Fresh n b.g b.bd b.br b.bs b.F b.O) (i : Nat) (hi : b.tv i) : n <= i := by
 rcases hi with e | e | e | e | e
 ·rw [e]; exact h.g
 ·rw [e]; exact h.d
 ·rw [e]; exact h.r
 ·rw [e]; exact h.s
 ·exact h.f i e
theorem Fresh.bk {n : Nat} {b : MB} (h : Fresh n b.g b.bd b.br b.bs b.F b.O) (i : Nat) (hi : b.bk i) : n <= i := by
 rcases hi with e | e
 ·exact Fresh.tv h i e
 ·exact h.o i e
structure TI (W0 w : World) (a b : MB) (u v : VS) : Prop where
 two : Two w a b u v
 ca : calls u.R = u.o.length
 cb : calls v.R = v.o.length
 bel : Below W0.heap.size W0 w
 la : ∀ i, a.tv i -> W0.heap.size <= i
 lb : ∀ i, b.tv i -> W0.heap.size <= i
theorem TI.idle {W0 w w' : World} {a b : MB} {u v : VS} (h : TI W0 w a b u v) (k : Below w.heap.size w w') : TI W0 w' a b u v := ⟨h.two.below k, h.ca, h.cb, trB h.bel k h.bel.size, h.la, h.lb⟩
theorem TI.left {W0 w w' : World} {lo : Nat} {a b a' : MB} {u v u' : VS} (h : TI W0 w a b u v) (k : FB w w' lo a a' u') (hc : calls u'.R = u'.o.length) : TI W0 w' a' b u' v :=
 ⟨h.two.left k, hc, h.cb, h.bel.trans (S.Tc.below k.t h.bel.size h.la), fun i hi => by
  rcases k.tv i hi with e | e
  ·exact h.la i e
  ·have := h.bel.size; omega, h.lb⟩
theorem TI.first {W0 w5 w6 w7 : World} {a b : MB} {u v : VS} (h5 : Below W0.heap.size W0 w5) (ha : a.mv w6 u) (fa : Fresh w5.heap.size a.g a.bd a.br a.bs a.F a.O) (h6 : Below w5.heap.size w5 w6) (hb : b.mv w7 v) (fb : Fresh w6.heap.size b.g b.bd b.br b.bs b.F b.O) (h7 : Below w6.heap.size w6 w7) (ca : calls u.R = u.o.length) (cb : calls v.R = v.o.length) : TI W0 w7 a b u v :=
 ⟨⟨MB.below ha h7, hb, fun i hi hj => by have := MB.lt ha i hi; have := Fresh.tv fb i hj; omega, fun i hi hj => by have := MB.lt ha i (.inl hj); have := Fresh.bk fb i hi; omega⟩, ca, cb, trB (trB h5 h6 h5.size) h7 (Nat.le_trans h5.size h6.size), fun i hi => Nat.le_trans h5.size (Fresh.tv fa i hi), fun i hi => Nat.le_trans (Nat.le_trans h5.size h6.size) (Fresh.tv fb i hi)⟩
set_option maxHeartbeats 4000000
set_option maxRecDepth 100000
theorem msr (n k : Nat) (h : k < n) : n - (k + 1) < n - k := by omega
theorem msr2 (n : Nat) (a b : Value) (k : Nat) (ha : a = .int .i64 ((k + 1 : Nat) : Int)) (hb : b = .int .i64 (k : Int)) (h : k < n) : n - (intOf a).toNat < n - (intOf b).toNat := by
 subst ha hb; simp only [intOf, Int.toNat_natCast]; exact msr n k h
def bz (zs : List Int) (i : Nat) : Int := zs.getD (i % zs.length) 0
def al (zs : List Int) : Nat -> Int
 | 0 => 0
 | i + 1 => if 0 < bz zs i /\ bz zs i <= 16384 then wrap64 (al zs i + bz zs i) else al zs i
theorem al_succ (zs : List Int) (j : Nat) : al zs (j + 1) = if 0 < bz zs j /\ bz zs j <= 16384 then wrap64 (al zs j + bz zs j) else al zs j := rfl
def bud (zs : List Int) (k : Nat) : Int × Bool := if 10 <= k \/ zs = [] then (1000, decide (k < 10)) else (bz zs k, decide (al zs (k + 1) <= 50000))
def b7 (zs : List Int) : Nat -> Int
 | 0 => 0
 | j + 1 => bz zs j
theorem budget_any (zs : List Int) (zp pp : Option Addr) (zc n pc : Nat) (k : Nat) (W : World) (h : Is W zp zs) :
  Calls Tryz.prog 16 #[.agg #[.slice zp zs.length zc, .slice pp n pc], .int .i64 (k : Int)] W fun e w' => e = .returned (.tuple #[.int .i64 (bud zs k).1, .bool (bud zs k).2]) /\ Below W.heap.size W w' := by
 obtain ⟨W1, hW1⟩ : ∃ W1, W.alloc (.cells #[.slice zp zs.length zc, .slice pp n pc] 50) = W1 := ⟨_, rfl⟩
 have hB : Below W.heap.size W W1 := by rw [<- hW1]; exact P.bel_alloc _ _
 have u1 : W1.heap[W.heap.size]? = some (.cells [.slice zp zs.length zc, .slice pp n pc].toArray 50 (0, 0)) := by rw [<- hW1]; exact heap_alloc_new W _
 have x0 := S.cell_of W1 _ 0 _ _ _ u1 rfl
 have HB := hid hB
 unfold bud
 by_cases q : 10 <= k \/ zs = []
 ·rw [if_pos q]
  by_cases q1 : 10 <= k
  ·have e1 : decide ((k : Int) ≥ 10) = true := decide_eq_true (by omega)
   have e2 : decide ((k : Int) < 10) = false := decide_eq_false (by omega)
   have e3 : decide (k < 10) = false := decide_eq_false (by omega)
   rw [e3]
   clear u1 hB q
   go_enter Tryz.func16, Tryz.ntmps16
   go_wp2
   go_ret2
   exact ⟨rfl, HB.out⟩
  ·obtain rfl : zs = [] := by rcases q with q | q; exact absurd q q1; exact q
   simp only [List.length_nil] at hW1 x0 ⊢
   have e1 : decide ((k : Int) ≥ 10) = false := decide_eq_false (by omega)
   have e2 : decide ((k : Int) < 10) = true := decide_eq_true (by omega)
   have e3 : decide (k < 10) = true := decide_eq_true (by omega)
   rw [e3]
   clear u1 hB q
   go_enter Tryz.func16, Tryz.ntmps16
   go_wp2
   go_ret2
   exact ⟨rfl, HB.out⟩
 rw [if_neg q]
 have q1 : ¬ 10 <= k := fun e => q (.inl e)
 have q2 : zs ≠ [] := fun e => q (.inr e)
 have hl : 0 < zs.length := List.length_pos_iff.2 q2
 have e1 : decide ((k : Int) ≥ 10) = false := decide_eq_false (by omega)
 have e4 : ((zs.length : Int) == 0) = false := by rw [beq_eq_false_iff_ne]; omega
 have HC := hid (fun (w : World) (b : Below W1.heap.size W1 w) => And.intro (show w.cell? ⟨W.heap.size, 0, none⟩ = some (.slice zp zs.length zc) from S.cell_of w _ 0 [.slice zp zs.length zc, .slice pp n pc] _ _ ((b.block _ (S.lt_of u1)).trans u1) rfl) ((h.below rfl hB).below rfl b))
 have HL := hid (And.intro q1 hl)
 clear u1 hB q q1 q2 h hl
 go_enter Tryz.func16, Tryz.ntmps16
 go_wp2_with fail
 clear x0 e1 e4
 go_loopw [6, 7, 8] (fun a b i wr => ∃ j : Nat, j <= k + 1 /\ a = .int .i64 (al zs j) /\ b = .int .i64 (b7 zs j) /\ i = .int .i64 (j : Int) /\ Below W1.heap.size W1 wr) (fun _ _ i _ => (k + 1) - (intOf i).toNat)
 case atStart => exact ⟨0, by omega, rfl, rfl, rfl, Below.refl _ _⟩
 case round =>
  obtain ⟨j, hj, rfl, rfl, rfl, hb⟩ := hrel
  by_cases hlt : j < k + 1
  case neg =>
   as_aux_lemma =>
    have hjk : j = k + 1 := by omega
    subst hjk
    have e1 : decide (((k + 1 : Nat) : Int) <= (k : Int)) = false := decide_eq_false (by omega)
    have HB2 := hid (HB.out.trans (hb.mono HB.out.size))
    clear hb
    show _
    go_wp2
    go_ret2
    exact ⟨rfl, HB2.out⟩
  have e1 : decide ((j : Int) <= (k : Int)) = true := decide_eq_true (by omega)
  have hlen := HL.out.2
  have e2 : ((zs.length : Int) == 0) = false := by rw [beq_eq_false_iff_ne]; omega
  have hq : (zs[j % zs.length]?) = some (bz zs j) := by
   have hm := Nat.mod_lt j hlen
   rw [List.getElem?_eq_getElem hm]
   unfold bz
   rw [List.getD_eq_getElem?_getD, List.getElem?_eq_getElem hm]; rfl
  obtain ⟨zb, zo, hzp, _⟩ := (HC.out _ (Below.refl _ _)).2 _ _ hq
  have HZ := hid (fun (w : World) (b : Below W1.heap.size W1 w) => show w.cell? ⟨zb, zo + j % zs.length, none⟩ = some (.int .i64 (bz zs j)) from by
   obtain ⟨b', o', e', h'⟩ := (HC.out w b).2 _ _ hq
   rw [hzp] at e'
   cases e'
   exact h')
  subst hzp
  have htm : Int.tmod (j : Int) (zs.length : Int) = ((j % zs.length : Nat) : Int) := by rw [Int.tmod_eq_emod_of_nonneg (by omega)]; rfl
  have hml : ((j % zs.length : Nat) : Int) < (zs.length : Int) := Int.ofNat_lt.2 (Nat.mod_lt j hlen)
  have hJ9 : j % zs.length <= 9 := by have h1 := Nat.mod_le j zs.length; have h2 := HL.out.1; omega
  clear hq
  generalize zs.length = N at *
  generalize j % N = J at *
  have eN : ¬ N = 0 := by omega
  have hwJ : IntKind.i64.wrap (J : Int) = (J : Int) := S.i64_id _ (by omega) (by omega)
  have hJN : (0 : Int) <= (J : Int) /\ (J : Int) < (N : Int) := ⟨by omega, hml⟩
  go_upto_region 8 with fail
  have hbd : Below W1.heap.size W1 wr.drew := dnB' hb
  refine wp_region_held_drew (S := fun w' : World => Below W1.heap.size W1 w') (by kernel_rfl) hbd (fun hHeld => ?_)
  generalize wr.drew = y0 at *
  refine D.zH (is := [0, 1, 2, 3, 4, 5, 6, 7, 8]) ?_
  iterate 9
   refine D.yH (v := ?_) rfl (by kernel_rfl) (fun c a w h => h) (by rfl) ?_ hHeld ?_
   rotate_left
   ·(intro w hSw; have x0 := (HC.out w hSw).1; have hz := HZ.out w hSw; go_simp; try with_reducible rfl)
   simp only [D.pts]
  refine D.eH ?_
  refine wpAnyH_ready (rs := [9]) (by kernel_rfl) (by simp) ?_
  refine AllReadyH.cons rfl (fun K hK => ?_) AllReadyH.nil
  go_simp
  refine hK.out _ _ hHeld (fun hHeld => ?_)
  clear hK K
  refine wpAnyH_done (by kernel_rfl) ?_ _
  try simp only [Act.put, List.setIfInBounds_toArray, List.set_cons_zero, List.set_cons_succ]
  have hsum := al_succ zs j
  have hb7 : Value.int .i64 (bz zs j) = .int .i64 (b7 zs (j + 1)) := rfl
  have w1 : wrap64 ((j : Int) + 1) = ((j + 1 : Nat) : Int) := by have := HL.out.1; unfold wrap64; omega
  as_aux_lemma =>
   by_cases c1 : 0 < bz zs j
   ·have d1 : decide (0 < bz zs j) = true := decide_eq_true c1
    by_cases c2 : bz zs j <= 16384
    ·have d2 : decide (bz zs j <= 16384) = true := decide_eq_true c2
     rw [if_pos ⟨c1, c2⟩] at hsum
     have hA : Value.int .i64 (wrap64 (al zs j + bz zs j)) = .int .i64 (al zs (j + 1)) := by rw [hsum]
     have hJ1 : Value.int .i64 (wrap64 ((j : Int) + 1)) = .int .i64 ((j + 1 : Nat) : Int) := by rw [w1]
     have HA := hid (And.intro hA (And.intro hb7 hJ1))
     have W1' := hid w1
     clear HZ hml htm hA hb7 hJ1 hsum w1 eN hwJ hJN hJ9 HC
     go_wp2
     go_roundw
     case rel => exact ⟨j + 1, hlt, HA.out.1, HA.out.2.1, HA.out.2.2, hHeld⟩
     case measure => exact msr2 (k + 1) _ _ j HA.out.2.2 rfl hlt
    ·have d2 : decide (bz zs j <= 16384) = false := decide_eq_false c2
     rw [if_neg (fun e => c2 e.2)] at hsum
     have hA : Value.int .i64 (al zs j) = .int .i64 (al zs (j + 1)) := by rw [hsum]
     have hJ1 : Value.int .i64 (wrap64 ((j : Int) + 1)) = .int .i64 ((j + 1 : Nat) : Int) := by rw [w1]
     have HA := hid (And.intro hA (And.intro hb7 hJ1))
     have W1' := hid w1
     clear HZ hml htm hA hb7 hJ1 hsum w1 eN hwJ hJN hJ9 HC
     go_wp2
     go_roundw
     case rel => exact ⟨j + 1, hlt, HA.out.1, HA.out.2.1, HA.out.2.2, hHeld⟩
     case measure => exact msr2 (k + 1) _ _ j HA.out.2.2 rfl hlt
   ·have d1 : decide (0 < bz zs j) = false := decide_eq_false c1
    rw [if_neg (fun e => c1 e.1)] at hsum
    have hA : Value.int .i64 (al zs j) = .int .i64 (al zs (j + 1)) := by rw [hsum]
    have hJ1 : Value.int .i64 (wrap64 ((j : Int) + 1)) = .int .i64 ((j + 1 : Nat) : Int) := by rw [w1]
    have HA := hid (And.intro hA (And.intro hb7 hJ1))
    have W1' := hid w1
    clear HZ hml htm hA hb7 hJ1 hsum w1 eN hwJ hJN hJ9 HC
    go_wp2
    go_roundw
    case rel => exact ⟨j + 1, hlt, HA.out.1, HA.out.2.1, HA.out.2.2, hHeld⟩
    case measure => exact msr2 (k + 1) _ _ j HA.out.2.2 rfl hlt
set_option maxHeartbeats 4000000
set_option maxRecDepth 100000
theorem tc_get : ∀ (l : List (Int × Int × Int)) (k : Nat) (t : Int × Int × Int), l[k]? = some t -> (M.tc l)[k * 3]? = some (.int .i64 t.1) /\ (M.tc l)[k * 3 + 1]? = some (.int .u16 t.2.1) /\ (M.tc l)[k * 3 + 2]? = some (.int .u8 t.2.2)
 | [], k, t, h => by simp at h
 | a :: l, 0, t, h => by simp at h; subst h; simp [M.tc, M.tcell]
 | a :: l, k + 1, t, h => by
  have := tc_get l k t (by simpa using h)
  rw [show (k + 1) * 3 = k * 3 + 3 by omega, show k * 3 + 3 + 1 = k * 3 + 1 + 3 by omega, show k * 3 + 3 + 2 = k * 3 + 2 + 3 by omega]
  simpa [M.tc, M.tcell] using this
theorem trow_get {w : World} {B : Nat} {p : Option Addr} {c : Nat} {l : List (Int × Int × Int)} (h : M.TRow w B (.slice p l.length c) l) (k : Nat) (t : Int × Int × Int) (hk : l[k]? = some t) : ∃ b o, p = some ⟨b, o, none⟩ /\ w.cell? ⟨b, o + k * 3, none⟩ = some (.int .i64 t.1) /\ w.cell? ⟨b, o + k * 3 + 1, none⟩ = some (.int .u16 t.2.1) /\ w.cell? ⟨b, o + k * 3 + 2, none⟩ = some (.int .u8 t.2.2) := by
 rcases h.2 with ⟨e, h0⟩ | ⟨g, cap, cur, e, _⟩
 ·have := (List.getElem?_eq_some_iff.1 hk).1; omega
 ·cases e
  obtain ⟨e1, e2, e3⟩ := tc_get l k t hk
  have c1 := World.ownsRow.cells h (g := g) rfl _ _ e1
  have c2 := World.ownsRow.cells h (g := g) rfl _ _ e2
  have c3 := World.ownsRow.cells h (g := g) rfl _ _ e3
  rw [Addr.add_lit] at c1 c2 c3
  exact ⟨g, 0, rfl, c1, by rw [<- Nat.add_assoc] at c2; exact c2, by rw [<- Nat.add_assoc] at c3; exact c3⟩
theorem neq_tone (W : World) (a b c : Int) : (binOp .neq 117 (.agg #[.int .i64 a, .int .u16 b, .int .u8 c]) (.agg #[.int .i64 a, .int .u16 b, .int .u8 c])).run Tryz.prog W = .ok (.bool false) W := by
 have hs : Tryz.prog.underlying 117 = some (.struct (Tryz.prog.fieldsOf 117)) := by kernel_rfl
 have hf : Tryz.prog.fieldsOf 117 = #[⟨ "Cycle", 3, 0, false, "", "", 0⟩, ⟨ "Pitch", 57, 1, false, "", "", 8⟩, ⟨ "Volume", 5, 2, false, "", "", 10⟩] := by kernel_rfl
 have hp : Tryz.prog.stoodInHeld 117 = false := by kernel_rfl
 have k1 : Tryz.prog.cellsOf 57 = 1 := by kernel_rfl
 have k2 : Tryz.prog.cellsOf 3 = 1 := by kernel_rfl
 have k3 : Tryz.prog.cellsOf 5 = 1 := by kernel_rfl
 rw [run_neq_struct, run_equalIn_agg W 9999 _ _ _ hs hp, hf]
 simp [go_sem, Tryz.underlying57, Tryz.underlying3, Tryz.underlying5, k1, k2, k3, Result.andThen]
theorem tones_true (p2 q2 : Option Addr) (c2 d2 : Nat) (ts : List (Int × Int × Int)) (ht : ts.length <= 1000000) (W : World) {B2 B4 : Nat} (h2 : M.TRow W B2 (.slice p2 ts.length c2) ts) (h4 : M.TRow W B4 (.slice q2 ts.length d2) ts) :
  Calls Tryz.prog 37 #[.slice p2 ts.length c2, .slice q2 ts.length d2] W fun e w' => e = .returned (.bool true) /\ Below W.heap.size W w' := by
 have H2 := hid h2
 have H4 := hid h4
 clear h2 h4
 go_enter Tryz.func37, Tryz.ntmps37
 go_wp2
 go_loopw [13] (fun i wr => ∃ k q : Nat, k <= ts.length /\ i = .int .i64 (k : Int) /\ wr = W.drewN q) (fun i _ => ts.length - (intOf i).toNat)
 case atStart => exact ⟨0, 0, Nat.zero_le _, rfl, rfl⟩
 case round =>
  obtain ⟨k, q, hk, rfl, rfl⟩ := hrel
  by_cases hlt : k < ts.length
  ·have i1 : (k : Int) < ts.length := Int.ofNat_lt.mpr hlt
   obtain ⟨eb, eo, rfl, e1, e2, e3⟩ := trow_get H2.out k ts[k] (List.getElem?_eq_getElem hlt)
   obtain ⟨fb, fo, rfl, f1, f2, f3⟩ := trow_get H4.out k ts[k] (List.getElem?_eq_getElem hlt)
   generalize ts[k] = tn at *
   obtain ⟨ta, tb, tcc⟩ := tn
   have g1 : ∀ q, (W.drewN q).cell? ⟨eb, eo + k * 3, none⟩ = some (.int .i64 ta) := fun q => e1
   have g2 : ∀ q, (W.drewN q).cell? ⟨eb, eo + k * 3 + 1, none⟩ = some (.int .u16 tb) := fun q => e2
   have g3 : ∀ q, (W.drewN q).cell? ⟨eb, eo + k * 3 + 2, none⟩ = some (.int .u8 tcc) := fun q => e3
   have g4 : ∀ q, (W.drewN q).cell? ⟨fb, fo + k * 3, none⟩ = some (.int .i64 ta) := fun q => f1
   have g5 : ∀ q, (W.drewN q).cell? ⟨fb, fo + k * 3 + 1, none⟩ = some (.int .u16 tb) := fun q => f2
   have g6 : ∀ q, (W.drewN q).cell? ⟨fb, fo + k * 3 + 2, none⟩ = some (.int .u8 tcc) := fun q => f3
   have nq := neq_tone
   have w2' : wrap64 ((k : Int) + 1) = ((k + 1 : Nat) : Int) := by simp [wrap64]; omega
   clear e1 e2 e3 f1 f2 f3
   go_wp2_with fail
   go_quiet (fail)
   go_wp2
   go_roundw
   case rel =>
    first
     | exact ⟨k + 1, _, hlt, (by first | rfl | rw [w2']), rfl⟩
     | ((repeat apply Exists.intro); refine ⟨⟨k + 1, _, hlt, ?_, rfl⟩, rfl⟩; first | rfl | rw [w2'])
   case measure => exact msr2 ts.length _ _ k (by first | rfl | rw [w2']) rfl hlt
  ·have i1 : ¬ (k : Int) < ts.length := fun h => hlt (Int.ofNat_lt.mp h)
   go_wp2
   go_ret
   exact ⟨rfl, drewNB W _⟩
theorem outs_true (a0 a1 a2 a3 a4 : Int) (p1 p2 q1 q2 : Option Addr) (c1 c2 d1 d2 : Nat) (scr : List UInt8) (ts : List (Int × Int × Int)) (n : Nat) (hn : n <= maxLen) (hsc : scr.length = n) (ht : ts.length <= 1000000) (w : World) {B1 B2 B3 B4 : Nat} (h1 : M.Row w B1 (.slice p1 n c1) scr) (h2 : M.TRow w B2 (.slice p2 ts.length c2) ts) (h3 : M.Row w B3 (.slice q1 n d1) scr) (h4 : M.TRow w B4 (.slice q2 ts.length d2) ts) :
  Calls Tryz.prog 18 #[.agg #[.int .i64 a0, .int .i64 a1, .int .i64 a2, .int .i64 a3, .int .i64 a4, .slice p1 n c1, .slice p2 ts.length c2], .agg #[.int .i64 a0, .int .i64 a1, .int .i64 a2, .int .i64 a3, .int .i64 a4, .slice q1 n d1, .slice q2 ts.length d2]] w fun e w' => e = .returned (.bool true) /\ Below w.heap.size w w' := by
 obtain ⟨W, hW⟩ : ∃ W, (w.alloc (.cells #[.int .i64 a0, .int .i64 a1, .int .i64 a2, .int .i64 a3, .int .i64 a4, .slice p1 n c1, .slice p2 ts.length c2] 28)).alloc (.cells #[.int .i64 a0, .int .i64 a1, .int .i64 a2, .int .i64 a3, .int .i64 a4, .slice q1 n d1, .slice q2 ts.length d2] 28) = W := ⟨_, rfl⟩
 have hB : Below w.heap.size w W := by rw [<- hW]; exact ((Below.refl _ w).alloc (Nat.le_refl _) _).alloc (by simp) _
 have n1 : W.heap[w.heap.size]? = some (.cells #[.int .i64 a0, .int .i64 a1, .int .i64 a2, .int .i64 a3, .int .i64 a4, .slice p1 n c1, .slice p2 ts.length c2] 28 (0, 0)) := by rw [<- hW]; exact heap_alloc2_old w _ _
 have n2 : W.heap[w.heap.size + 1]? = some (.cells #[.int .i64 a0, .int .i64 a1, .int .i64 a2, .int .i64 a3, .int .i64 a4, .slice q1 n d1, .slice q2 ts.length d2] 28 (0, 0)) := by rw [<- hW]; exact heap_alloc2_new w _ _
 have cv1 := Sl_conv ((M.Row.sl h1).below hB) (by rw [hsc]; exact hn)
 have cv2 := Sl_conv ((M.Row.sl h3).below hB) (by rw [hsc]; exact hn)
 have kt := tones_true p2 q2 c2 d2 ts ht W (B2 := B2) (B4 := B4) (S.own_kept h2 fun i e hi => hB.block i hi) (S.own_kept h4 fun i e hi => hB.block i hi)
 have HB := hid hB
 have x0 := S.cell_of W _ 0 [.int .i64 a0, .int .i64 a1, .int .i64 a2, .int .i64 a3, .int .i64 a4, .slice p1 n c1, .slice p2 ts.length c2] _ _ n1 rfl
 have y0 := S.cell_of W _ 0 [.int .i64 a0, .int .i64 a1, .int .i64 a2, .int .i64 a3, .int .i64 a4, .slice q1 n d1, .slice q2 ts.length d2] _ _ n2 rfl
 have x1 := S.cell_of W _ 1 [.int .i64 a0, .int .i64 a1, .int .i64 a2, .int .i64 a3, .int .i64 a4, .slice p1 n c1, .slice p2 ts.length c2] _ _ n1 rfl
 have y1 := S.cell_of W _ 1 [.int .i64 a0, .int .i64 a1, .int .i64 a2, .int .i64 a3, .int .i64 a4, .slice q1 n d1, .slice q2 ts.length d2] _ _ n2 rfl
 have x2 := S.cell_of W _ 2 [.int .i64 a0, .int .i64 a1, .int .i64 a2, .int .i64 a3, .int .i64 a4, .slice p1 n c1, .slice p2 ts.length c2] _ _ n1 rfl
 have y2 := S.cell_of W _ 2 [.int .i64 a0, .int .i64 a1, .int .i64 a2, .int .i64 a3, .int .i64 a4, .slice q1 n d1, .slice q2 ts.length d2] _ _ n2 rfl
 have x3 := S.cell_of W _ 3 [.int .i64 a0, .int .i64 a1, .int .i64 a2, .int .i64 a3, .int .i64 a4, .slice p1 n c1, .slice p2 ts.length c2] _ _ n1 rfl
 have y3 := S.cell_of W _ 3 [.int .i64 a0, .int .i64 a1, .int .i64 a2, .int .i64 a3, .int .i64 a4, .slice q1 n d1, .slice q2 ts.length d2] _ _ n2 rfl
 have x4 := S.cell_of W _ 4 [.int .i64 a0, .int .i64 a1, .int .i64 a2, .int .i64 a3, .int .i64 a4, .slice p1 n c1, .slice p2 ts.length c2] _ _ n1 rfl
 have y4 := S.cell_of W _ 4 [.int .i64 a0, .int .i64 a1, .int .i64 a2, .int .i64 a3, .int .i64 a4, .slice q1 n d1, .slice q2 ts.length d2] _ _ n2 rfl
 have x5 := S.cell_of W _ 5 [.int .i64 a0, .int .i64 a1, .int .i64 a2, .int .i64 a3, .int .i64 a4, .slice p1 n c1, .slice p2 ts.length c2] _ _ n1 rfl
 have y5 := S.cell_of W _ 5 [.int .i64 a0, .int .i64 a1, .int .i64 a2, .int .i64 a3, .int .i64 a4, .slice q1 n d1, .slice q2 ts.length d2] _ _ n2 rfl
 have x6 := S.cell_of W _ 6 [.int .i64 a0, .int .i64 a1, .int .i64 a2, .int .i64 a3, .int .i64 a4, .slice p1 n c1, .slice p2 ts.length c2] _ _ n1 rfl
 have y6 := S.cell_of W _ 6 [.int .i64 a0, .int .i64 a1, .int .i64 a2, .int .i64 a3, .int .i64 a4, .slice q1 n d1, .slice q2 ts.length d2] _ _ n2 rfl
 generalize (⟨scr.toArray⟩ : ByteArray) = ss at *
 have HW := hid hW
 clear h1 h2 h3 h4 hB n1 n2 hW
 go_enter Tryz.func18, Tryz.ntmps18
 go_upto_region 1 with fail
 rw [HW.out]
 go_wp2_with fail
 refine kt.mono ?_
 rintro e w1 ⟨rfl, hb1⟩
 have HB1 := hid (trB HB.out hb1 HB.out.size)
 clear kt hb1
 go_wp2
 go_ret
 exact ⟨rfl, HB1.out⟩
def zeros (z : Value) (m : Nat) : List Value := (Builtin.zeroCells z.cells m).toList
theorem zeros_len (z : Value) (m : Nat) : (zeros z m).length = m * z.cells.size := by simp [zeros, size_zeroCells]
theorem run_apm {P : Program} (w : World) (t it ty e : TypeId) (k : IntKind) (i : TypeInfo) (z : Value) (size bytes : Nat) (ht : P.underlying t = some (.slice e)) (hit : P.underlying it = some (.int k)) (hi : P.info? e = some i) (hz : i.zero = some z)
  (hsize : i.size = size) (hby : i.bytes = bytes) (hzs : z.cells.size = size) (hsz : 0 < size) (m : Nat) (h1 : ∀ u ∈ zeros z m, u.oneCell' = true)
  (base : Nat) (v : Value) (n : Nat) (xs : List Value) (hown : w.ownsRow base e size v n xs) (hm : 0 < m) (h63 : n + m <= maxLen) (hbytes : (n + m) * bytes <= 140737488355328) (hbase : base <= w.heap.size) :
  ∃ v' w', (Builtin.append_ #[t, it] ty #[v, .int .i64 (m : Int)]).run P w = .ok v' w' /\ w'.ownsRow base e size v' (n + m) (xs ++ zeros z m) /\ w.grownBy w' v.ownBlock /\ (v'.ownBlock = v.ownBlock \/ ∀ g, v'.ownBlock = some g -> w.heap.size <= g) /\ (v'.ownBlock = v.ownBlock \/ w.grownBy w' none) := by
 subst hsize
 subst hby
 have hlen : (xs ++ zeros z m).length = (n + m) * i.size := by rw [List.length_append, hown.1, zeros_len, hzs, Nat.add_mul]
 have hsm : n + m <= 9223372036854775807 := by simp only [maxLen] at h63; omega
 have hw : IntKind.i64.wrap (m : Int) = (m : Int) := S.i64_id _ (by omega) (by omega)
 have hnn : ¬ ((m : Int) < 0) := by omega
 have hmb : m * i.bytes <= 140737488355328 := Nat.le_trans (Nat.mul_le_mul_right _ (by omega)) hbytes
 have hb48 : ¬ (281474976710656 < (m : Int) * (i.bytes : Int)) := by
  have h : ((m * i.bytes : Nat) : Int) <= 140737488355328 := by omega
  rw [Int.natCast_mul] at h; omega
 have hne : ¬ (m = 0 \/ i.size = 0) := by omega
 have hne2 : ¬ (m = 0) := by omega
 have hne3 : ¬ (i.size = 0) := by omega
 rcases hown.2 with ⟨rfl, rfl⟩ | ⟨g, cap, cur, rfl, hbg, hg, hnc, hcm, hcs, htake⟩
 ·obtain rfl : xs = [] := List.eq_nil_of_length_eq_zero (by simpa using hown.1)
  have h48' : ¬ (281474976710656 < Builtin.nextslicecap m 0 * i.bytes) := by rw [nextslicecap_zero hm]; omega
  have h63' : ¬ (9223372036854775807 < (m : Int)) := by omega
  have hr : (Builtin.append_ #[t, it] ty #[.slice none 0 0, .int .i64 (m : Int)]).run P w = .ok (.slice (some ⟨w.heap.size, 0, none⟩) m (grownCap w m 0 e)) (w.drew.alloc (.cells ((zeros z m).toArray ++ Builtin.zeroCells z.cells (grownCap w m 0 e - m)) e)) := by
   simp [Builtin.append_, run_underlying ht, run_underlying hit, sizeOf, typeInfo, zeroValue, hi, hz, asInt, asIntOf, hw, hnn, hb48, hne2, hne3, h63', h48', Question.forced, run_firstCells_none, newRow, grownCap, zeros]
   intro h; rcases Nat.mul_eq_zero.1 h with h | h <;> omega
  refine ⟨_, _, hr, ⟨by simpa using hlen, .inr ⟨w.heap.size, _, _, by rw [Nat.zero_add], hbase, heap_alloc_new w.drew _, by rw [Nat.zero_add]; exact grownCap_ge w m 0 e, grownCap_le_maxLen w m 0 e (by omega), ?_, ?_⟩⟩, ⟨rfl, rfl, rfl, by simp, fun k hk _ => heap_alloc_old w.drew _ hk⟩, .inr fun g hg => ?_, .inr ⟨rfl, rfl, rfl, by simp, fun k hk _ => heap_alloc_old w.drew _ hk⟩⟩
  ·have := grownCap_ge w m 0 e
   simp only [Array.size_append, List.size_toArray, size_zeroCells, zeros_len, hzs, <- Nat.add_mul]
   congr 1; omega
  ·rw [Nat.zero_add, Array.toList_append, <- hzs, <- zeros_len]
   simp
  ·simp [Value.ownBlock] at hg; subst hg; exact Nat.le_refl _
 ·have hfit : n + m <= cap -> n * i.size + 0 + (zeros z m).length <= cur.size := fun h => by rw [zeros_len, hzs, hcs, Nat.add_zero, <- Nat.add_mul]; exact Nat.mul_le_mul_right _ h
  by_cases hroom : n + m <= cap
  ·have hst := run_storeCells_at P g (n * i.size) e (zeros z m) 0 cur w hg (hfit hroom) h1
   simp only [Nat.add_zero] at hst
   have hr : (Builtin.append_ #[t, it] ty #[.slice (some ⟨g, 0, none⟩) n cap, .int .i64 (m : Int)]).run P w = .ok (.slice (some ⟨g, 0, none⟩) (n + m) cap) (w.setRow g (cur.toList.take (n * i.size) ++ zeros z m ++ cur.toList.drop (n * i.size + (zeros z m).length)).toArray) := by
    unfold zeros at hst ⊢
    simp [Builtin.append_, run_underlying ht, run_underlying hit, sizeOf, typeInfo, zeroValue, hi, hz, asInt, asIntOf, hw, hnn, hb48, hne2, hne3, hroom, Addr.add_lit, hst]
    intro h; rcases Nat.mul_eq_zero.1 h with h | h <;> omega
   refine ⟨_, _, hr, ⟨hlen, .inr ⟨g, cap, _, rfl, hbg, setRow_heap w g cur _ e _ hg, hroom, hcm, ?_, ?_⟩⟩, ⟨rfl, rfl, rfl, by simp, fun k _ hk => setRow_other w g k _ (fun e => hk (by simp [e, Value.ownBlock]))⟩, .inl rfl, .inl rfl⟩
   ·have := hfit hroom
    simp only [List.size_toArray, List.length_append, List.length_take, List.length_drop, Array.length_toList]
    omega
   ·rw [htake, <- hlen]
    exact List.take_left
  ·have h48' : ¬ (281474976710656 < Builtin.nextslicecap (n + m) cap * i.bytes) := by have := growslice_fits (need := n + m) (old := cap) (by omega) hbytes; omega
   have h63' : ¬ (9223372036854775807 < (n : Int) + (m : Int)) := by omega
   have hnz : ¬ (m * i.size = 0) := fun h => by rcases Nat.mul_eq_zero.1 h with h | h <;> omega
   have hfo := run_firstCells_some (P := P) w.drew i.size n ⟨g, 0, none⟩ n cap xs hown.1 (hown.cells (g := g) rfl)
   have hr : (Builtin.append_ #[t, it] ty #[.slice (some ⟨g, 0, none⟩) n cap, .int .i64 (m : Int)]).run P w = .ok (.slice (some ⟨w.heap.size, 0, none⟩) (n + m) (grownCap w (n + m) cap e)) (w.drew.alloc (.cells (xs.toArray ++ (zeros z m).toArray ++ Builtin.zeroCells z.cells (grownCap w (n + m) cap e - (n + m))) e)) := by
    simp [Builtin.append_, run_underlying ht, run_underlying hit, sizeOf, typeInfo, zeroValue, hi, hz, asInt, asIntOf, hw, hnn, hb48, hne2, hne3, hroom, h63', h48', hnz, Question.forced, hfo, newRow, grownCap, zeros]
   have hge := grownCap_ge w (n + m) cap e
   refine ⟨_, _, hr, ⟨hlen, .inr ⟨w.heap.size, _, _, rfl, hbase, heap_alloc_new w.drew _, hge, grownCap_le_maxLen w (n + m) cap e h63, ?_, ?_⟩⟩, ⟨rfl, rfl, rfl, by simp, fun k hk _ => heap_alloc_old w.drew _ hk⟩, .inr fun g hg => ?_, .inr ⟨rfl, rfl, rfl, by simp, fun k hk _ => heap_alloc_old w.drew _ hk⟩⟩
   ·simp only [Array.size_append, List.size_toArray, size_zeroCells, zeros_len, hzs, hown.1, <- Nat.add_mul]
    congr 1; omega
   ·simp only [Array.toList_append, List.append_assoc]
    rw [<- List.append_assoc, <- hlen]
    exact List.take_left
   ·simp [Value.ownBlock] at hg; subst hg; exact Nat.le_refl _
open Go.Proofs.YtoemoiehjdmheaaGreat.Y (hid)
set_option linter.unusedVariables false
set_option linter.unusedSimpArgs false
def Rw (W : World) (lo : Nat) (c : Nat -> Nat) (k : Nat) (t : TypeId) (s : Nat) (v : Value) (n : Nat) (xs : List Value) : Prop := W.ownsRow lo t s v n xs /\ ∀ g, v.ownBlock = some g -> c g = k
structure Wr (W W' : World) (c c' : Nat -> Nat) (k : Nat) : Prop where
 t : S.Tc (fun i => c i = k) W W'
 eq : ∀ i, i < W.heap.size -> c' i = c i
def ext (W : World) (c : Nat -> Nat) (k : Nat) : Nat -> Nat := fun i => if i < W.heap.size then c i else k
theorem ext_eq (W : World) (c : Nat -> Nat) (k i : Nat) (h : i < W.heap.size) : ext W c k i = c i := if_pos h
theorem ext_new (W : World) (c : Nat -> Nat) (k i : Nat) (h : W.heap.size <= i) : ext W c k i = k := if_neg (by omega)
section
variable {W W' : World} {lo : Nat} {c c' : Nat -> Nat} {j k : Nat} {t : TypeId} {s : Nat} {v v' : Value} {n n' : Nat} {xs xs' : List Value}
theorem Rw.sp (h : Rw W lo c j t s v n xs) (p : Wr W W' c c' k) (hj : j ≠ k) : Rw W' lo c' j t s v n xs :=
 ⟨S.own_kept h.1 fun g e hg => p.t.block g hg (by rw [h.2 g e]; exact hj), fun g e => (p.eq g (h.1.lt g e).2).trans (h.2 g e)⟩
theorem Rw.below (h : Rw W lo c j t s v n xs) (b : Below W.heap.size W W') : Rw W' lo c j t s v n xs := ⟨S.own_kept h.1 fun g _ hg => b.block g hg, h.2⟩
theorem Wr.below (b : Below W.heap.size W W') : Wr W W' c c k := ⟨S.Tc.of_below b (fun i h1 h2 => absurd h1 (by omega)), fun _ _ => rfl⟩
theorem Rw.pos (h : Rw W lo c j t s v n xs) (h0 : 0 < n) : ∃ g cap, v = .slice (some ⟨g, 0, none⟩) n cap := S.own_pos h.1 h0
theorem Rw.ex (h : Rw W lo c j t s v n xs) : ∃ p cap, v = .slice p n cap := own_form h.1
theorem Rw.set {g cap : Nat} (h : Rw W lo c k t s (.slice (some ⟨g, 0, none⟩) n cap) n xs) (i : Nat) (u : Value) : Rw (W.setCell ⟨g, i, none⟩ u) lo c k t s (.slice (some ⟨g, 0, none⟩) n cap) n (xs.set i u) /\ Wr W (W.setCell ⟨g, i, none⟩ u) c c k :=
 ⟨⟨(h.1.stored i u).1, h.2⟩, ⟨(S.Tc.refl _ W).setCell g i (h.2 g rfl) u, fun _ _ => rfl⟩⟩
theorem Rw.cell {g cap : Nat} (h : Rw W lo c k t s (.slice (some ⟨g, 0, none⟩) n cap) n xs) (i : Nat) (u : Value) (hi : xs[i]? = some u) : W.cell? ⟨g, i, none⟩ = some u /\ W.frozen? ⟨g, i, none⟩ = false := by
 have := (List.getElem?_eq_some_iff.1 hi).1
 rw [h.1.1] at this
 exact ⟨(h.1.cellAt i this).trans hi, h.1.frozenAt i⟩
theorem Rw.grew (h : Rw W lo c k t s v n xs) (g : S.Grew W W' v v') (h' : W'.ownsRow lo t s v' n' xs') : Rw W' lo (ext W c k) k t s v' n' xs' /\ Wr W W' c (ext W c k) k :=
 ⟨⟨h', fun x e => by
  rcases g.own with q | q
  ·rw [q] at e; rw [ext_eq _ _ _ _ (h.1.lt x e).2]; exact h.2 x e
  ·exact ext_new _ _ _ _ (q x e)⟩, ⟨⟨g.os, g.tape, g.output, g.size, fun i hi hn => g.block i hi fun e => hn (h.2 i e.symm)⟩, fun i hi => ext_eq _ _ _ _ hi⟩⟩
theorem Rw.new (b : Below W.heap.size W W') (h' : W'.ownsRow W.heap.size t s v n xs) (hlo : lo <= W.heap.size) (k q : Nat) : Rw W' lo (ext W c k) k t s v n xs /\ Wr W W' c (ext W c k) q :=
 ⟨⟨S.own_mono h' hlo, fun x e => ext_new _ _ _ _ (h'.lt x e).1⟩, ⟨(Wr.below b : Wr W W' c c q).t, fun i hi => ext_eq _ _ _ _ hi⟩⟩
end
theorem fam_set {α : Type} {es : List α} {i : Nat} {e' : α} {Q : Nat -> α -> Prop} (h : ∀ j e, es[j]? = some e -> j ≠ i -> Q j e) (hi : Q i e') : ∀ j e, (es.set i e')[j]? = some e -> Q j e := by
 intro j e he
 rw [List.getElem?_set] at he
 split at he
 ·rename_i q
  subst q
  split at he
  ·cases he; exact hi
  ·cases he
 ·exact h j e he (fun q => by simp_all)
theorem fam_snoc {α : Type} {es : List α} {e' : α} {Q : Nat -> α -> Prop} (h : ∀ j e, es[j]? = some e -> Q j e) (hi : Q es.length e') : ∀ j e, (es ++ [e'])[j]? = some e -> Q j e := by
 intro j e he
 rw [List.getElem?_append] at he
 split at he
 ·exact h j e he
 ·rename_i q
  have : j - es.length = 0 := by
   have := (List.getElem?_eq_some_iff.1 he).1
   simp at this; omega
  rw [this] at he
  simp at he
  subst he
  have : j = es.length := by omega
  subst this; exact hi
structure KE where
 a0 : Int
 a1 : Int
 a2 : Int
 a3 : Int
 a4 : Int
 s1 : Value
 s2 : Value
 s3 : Value
 s4 : Value
 l1 : List UInt8
 l2 : List (Int × Int × Int)
 l3 : List UInt8
 l4 : List (Int × Int × Int)
def eKE (e : KE) : List Value := [.int .i64 e.a0, .int .i64 e.a1, .int .i64 e.a2, .int .i64 e.a3, .int .i64 e.a4, e.s1, e.s2, .int .i64 e.a0, .int .i64 e.a1, .int .i64 e.a2, .int .i64 e.a3, .int .i64 e.a4, e.s3, e.s4]
theorem hKE (e : KE) : (eKE e).length = 14 := rfl
structure DE where
 v : Value
 u : Value
 l : List Int
 m : List Int
def tw := 57
def tt := 117
def ts := 37
set_option maxHeartbeats 4000000
set_option maxRecDepth 100000
theorem infoTone : (Tryz.prog.info? 117).map (fun i => (i.zero, i.size, i.bytes)) = some (some (.agg #[.int .i64 0, .int .u16 0, .int .u8 0]), 3, 16) := by kernel_rfl
theorem sizeOut : (Tryz.prog.info? 28).map (·.size) = some 7 := by kernel_rfl
theorem grew_keep {W W' : World} {b n c k : Nat} {v' : Value} (g : M.Grew W W' (.slice (some ⟨b, 0, none⟩) n c) v') (hk : k < W.heap.size) (h : k ≠ b) : W'.heap[k]? = W.heap[k]? := g.block k hk (by intro e; simp [Value.ownBlock] at e; exact h e)
theorem grew_keepS {W W' : World} {b n c k : Nat} {v' : Value} (g : S.Grew W W' (.slice (some ⟨b, 0, none⟩) n c) v') (hk : k < W.heap.size) (h : k ≠ b) : W'.heap[k]? = W.heap[k]? := g.block k hk (by intro e; simp [Value.ownBlock] at e; exact h e)
theorem copied_any (a0 a1 a2 a3 a4 : Int) (p1 p2 : Option Addr) (c1 c2 : Nat) (scr : List UInt8) (ts : List (Int × Int × Int)) (hs : scr.length <= 1000000) (ht : ts.length <= 1000000) (w : World) {B1 B2 : Nat} (h1 : M.Row w B1 (.slice p1 scr.length c1) scr) (h2 : M.TRow w B2 (.slice p2 ts.length c2) ts) :
  Calls Tryz.prog 19 #[.agg #[.int .i64 a0, .int .i64 a1, .int .i64 a2, .int .i64 a3, .int .i64 a4, .slice p1 scr.length c1, .slice p2 ts.length c2]] w fun e w' => ∃ q1 d1 q2 d2, e = .returned (.agg #[.int .i64 a0, .int .i64 a1, .int .i64 a2, .int .i64 a3, .int .i64 a4, .slice q1 scr.length d1, .slice q2 ts.length d2]) /\ M.Row w' w.heap.size (.slice q1 scr.length d1) scr /\ M.TRow w' w.heap.size (.slice q2 ts.length d2) ts /\ Below w.heap.size w w' := by
 obtain ⟨W, hW⟩ : ∃ W, (w.alloc (.cells #[.int .i64 a0, .int .i64 a1, .int .i64 a2, .int .i64 a3, .int .i64 a4, .slice p1 scr.length c1, .slice p2 ts.length c2] 28)).alloc (.cells #[.int .i64 0, .int .i64 0, .int .i64 0, .int .i64 0, .int .i64 0, .slice none 0 0, .slice none 0 0] 28) = W := ⟨_, rfl⟩
 have hB : Below w.heap.size w W := by rw [<- hW]; exact ((Below.refl _ w).alloc (Nat.le_refl _) _).alloc (by simp) _
 have n1 : W.heap[w.heap.size]? = some (.cells [.int .i64 a0, .int .i64 a1, .int .i64 a2, .int .i64 a3, .int .i64 a4, .slice p1 scr.length c1, .slice p2 ts.length c2].toArray 28 (0, 0)) := by rw [<- hW]; exact heap_alloc2_old w _ _
 have n2 : W.heap[w.heap.size + 1]? = some (.cells #[.int .i64 0, .int .i64 0, .int .i64 0, .int .i64 0, .int .i64 0, .slice none 0 0, .slice none 0 0] 28 (0, 0)) := by rw [<- hW]; exact heap_alloc2_new w _ _
 have hz2 : w.heap.size + 1 < W.heap.size := S.lt_of n2
 obtain ⟨W2, hW2⟩ : ∃ W2, W.alloc (.cells #[] 5) = W2 := ⟨_, rfl⟩
 have hB2 : Below W.heap.size W W2 := by rw [<- hW2]; exact P.bel_alloc _ _
 have oe : M.Row W2 w.heap.size (.slice (some ⟨W.heap.size, 0, none⟩) 0 0) [] := by rw [<- hW2]; exact S.own_mono (S.own_empty W 5 1) (by omega)
 have hs1 : M.Sl W2 (.slice p1 scr.length c1) scr := ((M.Row.sl h1).below hB).below hB2
 have n1' := (hB2.block _ (S.lt_of n1)).trans n1
 have x5 : (W.alloc (.cells #[] 5)).cell? ⟨w.heap.size, 5, none⟩ = some (.slice p1 scr.length c1) := by rw [hW2]; exact S.cell_of W2 _ 5 _ _ _ n1' rfl
 have HW := hid hW
 have HW2 := hid hW2
 have HB := hid (And.intro hB (And.intro hB2 (And.intro n1' (And.intro n2 h2))))
 have hz3 : w.heap.size <= W2.heap.size := by have := hB2.size; omega
 clear hW hW2 hB n1 hB2 n1' n2 h1 h2
 go_enter Tryz.func19, Tryz.ntmps19
 go_upto_region 1 with fail
 rw [HW.out]
 go_upto_region 2 with (at_builtin; rw [HW2.out]; refine M.wpList_append_bytes W2 rfl _ _ rfl w.heap.size (.slice (some ⟨W.heap.size, 0, none⟩) 0 0) [] rfl oe (.slice p1 scr.length c1) scr rfl hs1 (by unfold M.room; simp; omega) hz3 (fun v1 w1 r1 g1 => ?_); rw [List.nil_append] at r1; obtain ⟨q1, d1, rfl⟩ := own_form r1; have n3 : w1.heap[w.heap.size]? = some (.cells [.int .i64 a0, .int .i64 a1, .int .i64 a2, .int .i64 a3, .int .i64 a4, .slice p1 scr.length c1, .slice p2 ts.length c2].toArray 28 (0, 0)) := (grew_keep g1 (S.lt_of HB.out.2.2.1) (by omega)).trans HB.out.2.2.1; have x5' := S.cell_of w1 _ 5 _ _ _ n3 rfl; have z5' := S.frozen_of w1 _ 5 _ _ n3; clear x5)
 have n4 := S.setCell_heap w1 w.heap.size 5 _ _ (.slice q1 scr.length d1) n3
 have hg1 : Below w.heap.size W2 w1 := g1.below (fun g e => by simp [Value.ownBlock] at e; omega) hz3
 have hzz : W2.heap.size <= w1.heap.size := g1.size
 have n5 : (w1.setCell ⟨w.heap.size, 5, none⟩ (.slice q1 scr.length d1)).heap[w.heap.size + 1]? = some (.cells #[.int .i64 0, .int .i64 0, .int .i64 0, .int .i64 0, .int .i64 0, .slice none 0 0, .slice none 0 0] 28 (0, 0)) := (S.setCell_other _ _ _ _ _ (by omega)).trans ((grew_keep g1 (by have := HB.out.2.1.size; omega) (by omega)).trans ((HB.out.2.1.block _ (by omega)).trans HB.out.2.2.2.1))
 have hq1 : ∀ g, (Value.slice q1 scr.length d1).ownBlock = some g -> W.heap.size <= g := fun g e => by
  rcases g1.own with q | q
  ·rw [q] at e; simp [Value.ownBlock] at e; omega
  ·have := q g e; have := HB.out.2.1.size; omega
 have r4 : M.Row (w1.setCell ⟨w.heap.size, 5, none⟩ (.slice q1 scr.length d1)) w.heap.size (.slice q1 scr.length d1) scr := by
  exact S.own_kept r1 fun g e hg => S.setCell_other _ _ _ _ _ (by have := hq1 g e; omega)
 have hb4 : Below w.heap.size W2 (w1.setCell ⟨w.heap.size, 5, none⟩ (.slice q1 scr.length d1)) := hg1.setCell (p := ⟨w.heap.size, 5, none⟩) (Nat.le_refl _) _
 have ht4 : M.TRow (w1.setCell ⟨w.heap.size, 5, none⟩ (.slice q1 scr.length d1)) 0 (.slice p2 ts.length c2) ts := S.own_kept (S.own_mono HB.out.2.2.2.2 (Nat.zero_le _)) fun g e hg => (hb4.block g (by omega)).trans ((HB.out.2.1.block g (by have := HB.out.1.size; omega)).trans (HB.out.1.block g hg))
 have hs4 : W.heap.size <= (w1.setCell ⟨w.heap.size, 5, none⟩ (.slice q1 scr.length d1)).heap.size := by rw [S.setCell_size]; have := HB.out.2.1.size; omega
 have HB4 := hid ((trB HB.out.1 HB.out.2.1 HB.out.1.size).trans hb4)
 clear hg1 hb4 g1 x5' z5' hzz n3 r1
 generalize w1.setCell ⟨w.heap.size, 5, none⟩ (.slice q1 scr.length d1) = V at *
 obtain ⟨V2, hV2⟩ : ∃ V2, V.alloc (.cells #[] 117) = V2 := ⟨_, rfl⟩
 have hV : Below V.heap.size V V2 := by rw [<- hV2]; exact P.bel_alloc _ _
 have oe : V2.ownsRow w.heap.size 117 3 (.slice (some ⟨V.heap.size, 0, none⟩) 0 0) 0 [] := by rw [<- hV2]; exact S.own_mono (S.own_empty V _ 3) (by omega)
 have n6 := (hV.block _ (S.lt_of n4)).trans n4
 have cs6 : S.Cs V2 (.slice p2 ts.length c2) 3 ts.length (M.tc ts) := M.TRow.cs (S.own_kept ht4 fun g e hg => hV.block g hg)
 have x6 : (V.alloc (.cells #[] 117)).cell? ⟨w.heap.size, 6, none⟩ = some (.slice p2 ts.length c2) := by rw [hV2]; exact S.cell_of V2 _ 6 _ _ _ n6 rfl
 have hzv : w.heap.size <= V2.heap.size := by have := hV.size; omega
 have HV2 := hid hV2
 have HV := hid (And.intro hV (And.intro n6 (And.intro n5 (And.intro r4 (And.intro hq1 hs4)))))
 have hq1' := hq1
 clear hV2 hV n4 n5 n6 r4 hq1 ht4
 go_upto_region 3 with (at_builtin; rw [HV2.out]; refine S.wpList_append_row V2 rfl _ _ 26 117 _ 3 16 Tryz.underlying26 infoTone rfl (by decide) rfl w.heap.size (.slice (some ⟨V.heap.size, 0, none⟩) 0 0) 0 [] rfl oe (.slice p2 ts.length c2) ts.length (M.tc ts) rfl cs6 (by unfold S.room; omega) (by unfold maxLen; omega) hzv (fun v2 w2 r2 g2 => ?_); rw [Nat.zero_add, List.nil_append] at r2; obtain ⟨q2, d2, rfl⟩ := own_form r2; have n7 := (grew_keepS g2 (S.lt_of HV.out.2.1) (by have := HV.out.2.2.2.2.2; omega)).trans HV.out.2.1; have x6' := S.cell_of w2 _ 6 _ _ _ n7 rfl; have z6' := S.frozen_of w2 _ 6 _ _ n7; clear x6)
 have n8 := S.setCell_heap w2 w.heap.size 6 _ _ (.slice q2 ts.length d2) n7
 have hg2 : Below w.heap.size V2 w2 := g2.below (fun g e => by simp [Value.ownBlock] at e; have := HV.out.2.2.2.2.2; omega) hzv
 have hvs := HV.out.1.size
 have hws := HV.out.2.2.2.2.2
 have hgs := g2.size
 have n9 : (w2.setCell ⟨w.heap.size, 6, none⟩ (.slice q2 ts.length d2)).heap[w.heap.size + 1]? = some (.cells #[.int .i64 0, .int .i64 0, .int .i64 0, .int .i64 0, .int .i64 0, .slice none 0 0, .slice none 0 0] 28 (0, 0)) := (S.setCell_other _ _ _ _ _ (by omega)).trans ((grew_keepS g2 (by omega) (by omega)).trans ((HV.out.1.block _ (by omega)).trans HV.out.2.2.1))
 have hq2 : ∀ g, (Value.slice q2 ts.length d2).ownBlock = some g -> V.heap.size <= g := fun g e => by
  rcases g2.own with q | q
  ·rw [q] at e; simp [Value.ownBlock] at e; omega
  ·have := q g e; omega
 have r5 : M.TRow (w2.setCell ⟨w.heap.size, 6, none⟩ (.slice q2 ts.length d2)) w.heap.size (.slice q2 ts.length d2) ts :=
  S.own_kept r2 fun g e hg => S.setCell_other _ _ _ _ _ (by have := hq2 g e; omega)
 have r6 : M.Row (w2.setCell ⟨w.heap.size, 6, none⟩ (.slice q2 ts.length d2)) w.heap.size (.slice q1 scr.length d1) scr :=
  S.own_kept HV.out.2.2.2.1 fun g e hg => (S.setCell_other _ _ _ _ _ (by have := HV.out.2.2.2.2.1 g e; omega)).trans ((grew_keepS g2 (by omega) (by omega)).trans (HV.out.1.block g hg))
 have hb5 : Below w.heap.size w (w2.setCell ⟨w.heap.size, 6, none⟩ (.slice q2 ts.length d2)) := ((HB4.out.trans (HV.out.1.mono (by omega))).trans hg2).setCell (p := ⟨w.heap.size, 6, none⟩) (Nat.le_refl _) _
 have HQ := hid (And.intro hq1' hq2)
 have n8' : (w2.setCell ⟨w.heap.size, 6, none⟩ (.slice q2 ts.length d2)).heap[w.heap.size]? = some (.cells #[.int .i64 a0, .int .i64 a1, .int .i64 a2, .int .i64 a3, .int .i64 a4, .slice q1 scr.length d1, .slice q2 ts.length d2] 28 (0, 0)) := n8
 clear hg2 g2 x6' z6' n7 n8 r2 hvs hws hgs
 generalize w2.setCell ⟨w.heap.size, 6, none⟩ (.slice q2 ts.length d2) = U at *
 have nF := setRow_heap U (w.heap.size + 1) _ #[.int .i64 a0, .int .i64 a1, .int .i64 a2, .int .i64 a3, .int .i64 a4, .slice q1 scr.length d1, .slice q2 ts.length d2] _ _ n9
 have HF := hid (And.intro nF (And.intro r5 (And.intro r6 hb5)))
 clear nF r5 r6 hb5
 go_wp2_with (first | (refine wpList_load_row rfl 28 _ rfl w.heap.size rfl 28 _ (0, 0) _ n8' Tryz.underlying28 rfl (by exact sizeOut) ?_) | (refine wpList_store_row rfl 28 _ _ rfl (w.heap.size + 1) _ rfl rfl 28 _ n9 (by exact sizeOut) (by rfl) (by simp [Value.oneCell']) ?_))
 refine bodyPost_ret (results_cell_row rfl _ _ (w.heap.size + 1) 28 _ (0, 0) _ rfl HF.out.1 Tryz.underlying28 rfl (by exact sizeOut)) rfl ⟨q1, d1, q2, d2, rfl, ?_, ?_, bel_row HF.out.2.2.2 _ (by omega) _⟩
 ·exact S.own_kept HF.out.2.2.1 fun g e hg => setRow_other _ _ g _ (by have := HQ.out.1 g e; omega)
 ·exact S.own_kept HF.out.2.1 fun g e hg => setRow_other _ _ g _ (by have := HQ.out.2 g e; omega)
end Go.Proofs.YtoemoiehjdmheaaGreat.Z
