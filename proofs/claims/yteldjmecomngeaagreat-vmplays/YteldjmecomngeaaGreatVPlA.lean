import Derived.Test.YteldjmecomngeaaGreatVPlA1
import Derived.Test.YteldjmecomngeaaGreatVPlA2
namespace Go.Proofs.YteldjmecomngeaaGreat.V
open Go.RowKit
open Go.Proofs
set_option linter.unusedVariables false
set_option linter.unusedSimpArgs false
set_option maxHeartbeats 40000000
set_option maxRecDepth 100000
theorem plays_any (w0 : World) (N : Nat -> Prop) (pp : Nat) (c : T.Ct) (kp : Option Addr) (kc : Nat) (ep : Option Addr) (ec : Nat) (bp : Option Addr) (bc : Nat) (tb : Nat) (h6 : 60000 <= tb) (ht : tb <= 70000) (p : Nat -> PM) (r : Nat -> RM) (W : World) (h : PI w0 W N pp c kp kc ep ec bp bc tb p r) (kd wh bn_ at_ : Int) (pad bx : UInt8) (ha : C.C at_) :
  Calls Tryz.prog 31 #[.pointer (some ⟨pp, 0, none⟩), .agg #[.int .i64 kd, .int .i64 wh, .int .u8 (M.bt pad), .int .i64 bn_, .int .u16 at_, .int .u8 (M.bt bx)]] W fun e W' => e = .returned (.bool true) /\ ∃ p' r', PI w0 W' N pp c kp kc ep ec bp bc (tb + 3) p' r' := by
 by_cases q : kd = 1 \/ kd = 2 \/ kd = 3 \/ kd = 4
 ·exact plays_lo w0 N pp c kp kc ep ec bp bc tb h6 ht p r W h kd wh bn_ at_ pad bx ha q
 ·exact plays_hi w0 N pp c kp kc ep ec bp bc tb h6 ht p r W h kd wh bn_ at_ pad bx ha (by omega)
set_option maxHeartbeats 8000000
set_option maxRecDepth 100000
theorem ml3072y : 3072 <= maxLen := by unfold maxLen; omega
theorem scr_sl {W : World} {gc : Nat} {l : List UInt8} (h : M.B5 W gc l) (hl : l.length = 3072) : M.Sl W (.slice (some ⟨gc, 0, none⟩) 3072 3072) l := by
 refine .inr ⟨_, _, by rw [hl], by rw [hl]; exact Nat.le_refl _, fun j b e => ?_⟩
 rw [Addr.add_lit, Nat.zero_add]
 exact S.cell_of W gc j _ 5 _ h ((M.bv_get l j _).2 ⟨b, e, rfl⟩)
theorem vmplays_walk (v : Value) (c : T.Ct) (ep : Option Addr) (ec : Nat) (bp : Option Addr) (bc : Nat) (kv : Value) (sp : Option Addr) (sc : Nat) (ops : List O6) (w : World) (h : T.IsC w v c ep ec bp bc kv) (hn : ep = none -> ec = 0) (hs : Sc6 w sp ops) :
  Calls Tryz.prog 7 #[v, .slice sp ops.length sc] w fun e w' => e = .returned (.bool true) /\ Below w.heap.size w w' := by
 have hv := h.val
 obtain ⟨kp, kc, hk, _⟩ := h.code.ex
 subst hk
 subst hv
 have hcvv : T.cv (.slice kp c.code.length kc) c.entry ep c.effs.length ec bp c.banks.length bc = .agg #[.slice kp c.code.length kc, .int .u16 (c.entry : Int), .slice ep c.effs.length ec, .slice bp c.banks.length bc] := rfl
 obtain ⟨W0, hW0⟩ : ∃ y, w.alloc (.cells #[.slice kp c.code.length kc, .int .u16 (c.entry : Int), .slice ep c.effs.length ec, .slice bp c.banks.length bc] 27) = y := ⟨_, rfl⟩
 have hb : Below w.heap.size w W0 := by rw [<- hW0]; exact P.bel_alloc w _
 have hzz : W0.heap[w.heap.size]? = some (.cells [.slice kp c.code.length kc, .int .u16 (c.entry : Int), .slice ep c.effs.length ec, .slice bp c.banks.length bc].toArray 27 (0, 0)) := by rw [<- hW0]; exact heap_alloc_new w _
 have hC0 := h.below hb
 have k1 := ownCart_own _ c ep ec bp bc _ W0 hC0 hn
 rw [hcvv] at k1 hC0
 unfold T.cv
 have HB : Hid _ := hb
 have HSc := S.hid hs
 have HC0 : Hid _ := hC0
 have HW0 : Hid _ := hW0
 have HZ0 : Hid _ := hzz
 have na := awake_any
 clear h hb hcvv hs hW0 hC0
 go_enter Tryz.func7, Tryz.ntmps7
 go_upto_region 1 with fail
 try rw [HW0.out]
 go_wp2_with (refine wpList_load_row rfl 27 _ rfl w.heap.size rfl 27 _ (0, 0) _ hzz Tryz.underlying27 rfl (by exact size27) ?_)
 refine k1.mono ?_
 rintro e w1 ⟨v', ep', ec', bp', bc', kv', rfl, hI, h1, hO⟩
 have hv' := hI.val
 obtain ⟨kp', kc', hk', _⟩ := hI.code.ex
 subst hk'
 subst hv'
 unfold T.cv
 obtain ⟨z2, r2, b2⟩ := mkRow w1 #[.slice none 0 0, .int .u16 0, .slice none 0 0, .slice none 0 0] #[(.slice kp' c.code.length kc'), .int .u16 (c.entry : Int), (.slice ep' c.effs.length ec'), (.slice bp' c.banks.length bc')] 27
 have hI2 := hI.below b2
 have H1 : Hid _ := And.intro hO (And.intro h1 (And.intro r2 b2))
 clear k1 h1 hO hI b2 hzz
 by_cases hm : T.may c = true
 case neg =>
  have hm' : T.may c = false := by simpa using hm
  have k2 := new_no _ c ep' ec' bp' bc' _ _ hI2 hm'; unfold T.cv at k2; go_wp2_with (first | (refine wpList_store_row rfl 27 _ _ rfl w1.heap.size _ rfl rfl 27 #[.slice none 0 0, .int .u16 0, .slice none 0 0, .slice none 0 0] z2 (by exact size27) (by rfl) (by simp [Value.oneCell']) ?_) | (refine wpList_load_row rfl 27 _ rfl w1.heap.size rfl 27 _ (0, 0) _ r2 Tryz.underlying27 rfl (by exact size27) ?_))
  clear z2 r2 hI2; refine k2.mono ?_; rintro e w3 ⟨rfl, h3⟩; have HB3 : Hid _ := trB (trB H1.out.2.1 H1.out.2.2.2 H1.out.2.1.size) h3 (trB H1.out.2.1 H1.out.2.2.2 H1.out.2.1.size).size; have z3 := (HB3.out.block w.heap.size (S.lt_of HZ0.out)).trans HZ0.out; have a0 := S.cell_of w3 w.heap.size 0 [.slice kp c.code.length kc, .int .u16 (c.entry : Int), .slice ep c.effs.length ec, .slice bp c.banks.length bc] _ _ z3 rfl; have a1 := S.cell_of w3 w.heap.size 1 [.slice kp c.code.length kc, .int .u16 (c.entry : Int), .slice ep c.effs.length ec, .slice bp c.banks.length bc] _ _ z3 rfl; have a2 := S.cell_of w3 w.heap.size 2 [.slice kp c.code.length kc, .int .u16 (c.entry : Int), .slice ep c.effs.length ec, .slice bp c.banks.length bc] _ _ z3 rfl; have a3 := S.cell_of w3 w.heap.size 3 [.slice kp c.code.length kc, .int .u16 (c.entry : Int), .slice ep c.effs.length ec, .slice bp c.banks.length bc] _ _ z3 rfl
  have kC := T.check_any _ c ep ec bp bc _ w3 (HC0.out.below HB3.out); rw [if_neg (by rw [hm']; simp)] at kC; clear k2 h3 z3; go_wp2_with fail
  refine kC.mono ?_; rintro e w4 ⟨rfl, h4⟩; have HB4 : Hid _ := trB HB3.out h4 HB3.out.size; have z4 := (HB4.out.block w.heap.size (S.lt_of HZ0.out)).trans HZ0.out; clear a0 a1 a2 a3 kC h4; have a0 := S.cell_of w4 w.heap.size 0 [.slice kp c.code.length kc, .int .u16 (c.entry : Int), .slice ep c.effs.length ec, .slice bp c.banks.length bc] _ _ z4 rfl; have a1 := S.cell_of w4 w.heap.size 1 [.slice kp c.code.length kc, .int .u16 (c.entry : Int), .slice ep c.effs.length ec, .slice bp c.banks.length bc] _ _ z4 rfl; have a2 := S.cell_of w4 w.heap.size 2 [.slice kp c.code.length kc, .int .u16 (c.entry : Int), .slice ep c.effs.length ec, .slice bp c.banks.length bc] _ _ z4 rfl; have a3 := S.cell_of w4 w.heap.size 3 [.slice kp c.code.length kc, .int .u16 (c.entry : Int), .slice ep c.effs.length ec, .slice bp c.banks.length bc] _ _ z4 rfl; have kC := T.check_any _ c ep ec bp bc _ w4 (HC0.out.below HB4.out)
  rw [if_neg (by rw [hm']; simp)] at kC; clear z4; go_wp2_with fail
  refine kC.mono ?_; rintro e w5 ⟨rfl, h5⟩; have HB5 : Hid _ := trB HB4.out h5 HB4.out.size; clear a0 a1 a2 a3 kC h5; go_wp2_with (first | (go_at_call 11; refine (na _).mono ?_; rintro e we ⟨rfl, he⟩))
  go_ret; exact ⟨rfl, (HB.out.trans (HB5.out.mono HB.out.size)).trans (he.mono (Nat.le_trans HB.out.size HB5.out.size))⟩
 have k2 := new_yes _ c ep' ec' bp' bc' _ _ hI2 hm
 unfold T.cv at k2
 go_wp2_with (first | (refine wpList_store_row rfl 27 _ _ rfl w1.heap.size _ rfl rfl 27 #[.slice none 0 0, .int .u16 0, .slice none 0 0, .slice none 0 0] z2 (by exact size27) (by rfl) (by simp [Value.oneCell']) ?_) | (refine wpList_load_row rfl 27 _ rfl w1.heap.size rfl 27 _ (0, 0) _ r2 Tryz.underlying27 rfl (by exact size27) ?_))
 clear z2 r2 hI2
 generalize (w1.alloc (.cells #[.slice none 0 0, .int .u16 0, .slice none 0 0, .slice none 0 0] 27)).setRow w1.heap.size #[(.slice kp' c.code.length kc'), .int .u16 (c.entry : Int), (.slice ep' c.effs.length ec'), (.slice bp' c.banks.length bc')] = w2 at *
 refine k2.mono ?_
 rintro e w3 ⟨g, bd, br, bm, ku, F, rfl, hM, hF, h3⟩
 have HB2 : Hid (Below W0.heap.size W0 w2) := trB H1.out.2.1 H1.out.2.2.2 H1.out.2.1.size
 have HB3 : Hid (Below W0.heap.size W0 w3) := trB HB2.out h3 HB2.out.size
 have z3 := (HB3.out.block w.heap.size (S.lt_of HZ0.out)).trans HZ0.out
 have H3 : Hid _ := And.intro hM (And.intro hF h3)
 have a0 := S.cell_of w3 w.heap.size 0 [.slice kp c.code.length kc, .int .u16 (c.entry : Int), .slice ep c.effs.length ec, .slice bp c.banks.length bc] _ _ z3 rfl
 have a1 := S.cell_of w3 w.heap.size 1 [.slice kp c.code.length kc, .int .u16 (c.entry : Int), .slice ep c.effs.length ec, .slice bp c.banks.length bc] _ _ z3 rfl
 have a2 := S.cell_of w3 w.heap.size 2 [.slice kp c.code.length kc, .int .u16 (c.entry : Int), .slice ep c.effs.length ec, .slice bp c.banks.length bc] _ _ z3 rfl
 have a3 := S.cell_of w3 w.heap.size 3 [.slice kp c.code.length kc, .int .u16 (c.entry : Int), .slice ep c.effs.length ec, .slice bp c.banks.length bc] _ _ z3 rfl
 have kC := T.check_any _ c ep ec bp bc _ w3 (HC0.out.below HB3.out)
 rw [if_pos hm] at kC
 clear k2 h3 z3 hM hF
 go_wp2_with fail
 refine kC.mono ?_
 rintro e w4 ⟨rfl, h4⟩
 have HB4 : Hid (Below W0.heap.size W0 w4) := trB HB3.out h4 HB3.out.size
 have z4 := (HB4.out.block w.heap.size (S.lt_of HZ0.out)).trans HZ0.out
 have H4 : Hid (Below w3.heap.size w3 w4) := h4
 clear a0 a1 a2 a3 kC h4
 have a0 := S.cell_of w4 w.heap.size 0 [.slice kp c.code.length kc, .int .u16 (c.entry : Int), .slice ep c.effs.length ec, .slice bp c.banks.length bc] _ _ z4 rfl
 have a1 := S.cell_of w4 w.heap.size 1 [.slice kp c.code.length kc, .int .u16 (c.entry : Int), .slice ep c.effs.length ec, .slice bp c.banks.length bc] _ _ z4 rfl
 have a2 := S.cell_of w4 w.heap.size 2 [.slice kp c.code.length kc, .int .u16 (c.entry : Int), .slice ep c.effs.length ec, .slice bp c.banks.length bc] _ _ z4 rfl
 have a3 := S.cell_of w4 w.heap.size 3 [.slice kp c.code.length kc, .int .u16 (c.entry : Int), .slice ep c.effs.length ec, .slice bp c.banks.length bc] _ _ z4 rfl
 have kN := rnew8 _ c ep ec bp bc _ w4 (HC0.out.below HB4.out) hm
 clear z4
 go_wp2_with fail
 refine kN.mono ?_
 rintro e w5 ⟨G, b, kU, F', rfl, hX, hG, h5⟩
 have HB5 : Hid (Below W0.heap.size W0 w5) := trB HB4.out h5 HB4.out.size
 have H5 : Hid _ := And.intro hX (And.intro hG h5)
 clear a0 a1 a2 a3 kN hX hG h5
 go_wp2_with fail
 refine (na _).mono ?_
 rintro e w6 ⟨rfl, h6⟩
 have H6 : Hid (Below w5.heap.size w5 w6) := h6
 obtain ⟨prs, hLI⟩ := LI.start H1.out.1 H1.out.2.2.2 (show Below w2.heap.size w2 w6 from trB (trB (trB H3.out.2.2 H4.out H3.out.2.2.size) H5.out.2.2 (Nat.le_trans H3.out.2.2.size H4.out.size)) h6 (Nat.le_trans (Nat.le_trans H3.out.2.2.size H4.out.size) H5.out.2.2.size)) H1.out.2.2.1
 obtain ⟨nI, hnI⟩ : ∃ n, w1.heap.size = n := ⟨_, rfl⟩
 rw [hnI] at hLI ⊢
 have HLI : Hid _ := hLI
 have c0 := S.cell_of w6 nI 0 [(.slice kp' c.code.length kc'), .int .u16 (c.entry : Int), (.slice ep' c.effs.length ec'), (.slice bp' c.banks.length bc')] _ _ hLI.o rfl
 clear h6 hLI hnI
 go_upto_region 8 with fail
 go_wp2
 go_loopw [56] (fun x wr => ∃ k : Nat, k <= c.code.length /\ x = .int .i64 (k : Int) /\ LI w6 wr (W0.heap.size + 2) w2.heap.size nI c [(.slice kp' c.code.length kc'), .int .u16 (c.entry : Int), (.slice ep' c.effs.length ec'), (.slice bp' c.banks.length bc')] (.slice kp' c.code.length kc') (.slice bp' c.banks.length bc') prs) (fun x _ => c.code.length - (intOf x).toNat)
 case atStart => exact ⟨0, by omega, rfl, HLI.out⟩
 case round =>
  obtain ⟨k, hk, rfl, hI⟩ := hrel; clear c0; have hcl := (may_parts hm).1
  by_cases hlt : k < c.code.length
  ·have hkk := hI.k
   obtain ⟨xs, hk1⟩ := hkk; obtain ⟨g1, e1, he1⟩ := S.own_pos hk1 (by omega); have he2 := he1; simp only [Value.slice.injEq] at he2; obtain ⟨rfl, _, rfl⟩ := he2; have i1 : (k : Int) < c.code.length := by omega
   obtain ⟨⟨u, hu⟩, hf⟩ := row_at ⟨xs, hk1⟩ k (by omega); have c0 := S.cell_of wr nI 0 [(.slice (some ⟨g1, 0, none⟩) c.code.length kc'), .int .u16 (c.entry : Int), (.slice ep' c.effs.length ec'), (.slice bp' c.banks.length bc')] _ _ hI.o rfl; have HI : Hid _ := hI.set (.inl rfl) rfl hI.k k (.int .u8 17); have w1' : wrap64 ((k : Int) + 1) = ((k + 1 : Nat) : Int) := by simp [wrap64]; omega
   clear hI hk1 he1 hcl; go_wp2; go_roundw
   case rel =>
    first
     | exact ⟨k + 1, hlt, (by first | rfl | rw [w1']), HI.out⟩
     | ((repeat apply Exists.intro); refine ⟨⟨k + 1, hlt, ?_, HI.out⟩, rfl⟩; first | rfl | rw [w1'])
   case measure => exact msr2 _ _ _ k (by first | rfl | rw [w1']) rfl hlt
  ·obtain rfl : c.code.length = k := by omega
   have c3 := S.cell_of wr nI 3 [(.slice kp' c.code.length kc'), .int .u16 (c.entry : Int), (.slice ep' c.effs.length ec'), (.slice bp' c.banks.length bc')] _ _ hI.o rfl; have HI : Hid _ := hI; clear hI hcl; go_wp2; obtain ⟨nb, hnb⟩ : ∃ n, c.banks.length = n := ⟨_, rfl⟩
   have hpl : prs.length = nb := by rw [<- hnb, <- HI.out.m, List.length_map]
   have hbl := HC0.out.blen; rw [hnb] at hbl
   go_loopw [67] (fun x wr => ∃ k : Nat, k <= nb /\ x = .int .i64 (k : Int) /\ LI w6 wr (W0.heap.size + 2) w2.heap.size nI c [(.slice kp' c.code.length kc'), .int .u16 (c.entry : Int), (.slice ep' c.effs.length ec'), (.slice bp' c.banks.length bc')] (.slice kp' c.code.length kc') (.slice bp' c.banks.length bc') prs) (fun x _ => nb - (intOf x).toNat)
   case atStart => exact ⟨0, by omega, rfl, HI.out⟩
   case round =>
    obtain ⟨k, hk, rfl, hI⟩ := hrel; clear c3
    by_cases hlt : k < nb
    ·have hr := hI.r
     rw [hpl, hnb] at hr; obtain ⟨g1, e1, he1⟩ := S.own_pos hr (by omega); simp only [Value.slice.injEq] at he1; obtain ⟨rfl, _, rfl⟩ := he1; obtain ⟨x, hx⟩ : ∃ x, prs[k]? = some x := ⟨_, List.getElem?_eq_getElem (by omega)⟩
     have hxm := List.mem_of_getElem? hx; obtain ⟨q1, q2⟩ := T.bcs_get prs k x hx; obtain ⟨ys, hy⟩ := hI.d x hxm; obtain ⟨dp, dc, hdv⟩ := own_form hy; obtain ⟨nd, hnd⟩ : ∃ n, x.1.2.length = n := ⟨_, rfl⟩
     rw [hnd] at hdv
     have hcl : ∀ X, LI w6 X (W0.heap.size + 2) w2.heap.size nI c [(.slice kp' c.code.length kc'), .int .u16 (c.entry : Int), (.slice ep' c.effs.length ec'), (.slice (some ⟨g1, 0, none⟩) c.banks.length bc')] (.slice kp' c.code.length kc') (.slice (some ⟨g1, 0, none⟩) c.banks.length bc') prs -> X.cell? ⟨g1, k * 2 + 1, none⟩ = some (.slice dp nd dc) /\ X.cell? ⟨nI, 3, none⟩ = some (.slice (some ⟨g1, 0, none⟩) nb bc') /\ (∃ xs, X.ownsRow (W0.heap.size + 2) 5 1 (.slice dp nd dc) nd xs) /\ (LI w6 X (W0.heap.size + 2) w2.heap.size nI c [(.slice kp' c.code.length kc'), .int .u16 (c.entry : Int), (.slice ep' c.effs.length ec'), (.slice (some ⟨g1, 0, none⟩) c.banks.length bc')] (.slice kp' c.code.length kc') (.slice (some ⟨g1, 0, none⟩) c.banks.length bc') prs) := fun X hX => by
      have hrX := hX.r; rw [hpl, hnb] at hrX; have c2 := World.ownsRow.cells hrX (g := g1) rfl _ _ q2; rw [Addr.add_lit, Nat.zero_add, hdv] at c2; have c3 := S.cell_of X nI 3 [(.slice kp' c.code.length kc'), .int .u16 (c.entry : Int), (.slice ep' c.effs.length ec'), (.slice (some ⟨g1, 0, none⟩) c.banks.length bc')] _ _ hX.o rfl; rw [hnb] at c3; have hd := hX.d x hxm; rw [hnd, hdv] at hd; exact ⟨c2, c3, hd, hX⟩
     have HCL : Hid _ := hcl; have i1 : (k : Int) < nb := by omega
     have w1' : wrap64 ((k : Int) + 1) = ((k + 1 : Nat) : Int) := by unfold M.room at hbl; simp [wrap64]; omega
     obtain ⟨c2, c3, _, _⟩ := hcl wr hI; have HX : Hid _ := And.intro hdv hxm; have HI2 : Hid _ := hI; have HW1 : Hid _ := w1'; clear hI hr hx q1 q2 hy hdv hnd hcl hxm w1'; go_wp2
     go_loopw [77] (fun y wr => ∃ q : Nat, q <= nd /\ y = .int .i64 (q : Int) /\ LI w6 wr (W0.heap.size + 2) w2.heap.size nI c [(.slice kp' c.code.length kc'), .int .u16 (c.entry : Int), (.slice ep' c.effs.length ec'), (.slice (some ⟨g1, 0, none⟩) c.banks.length bc')] (.slice kp' c.code.length kc') (.slice (some ⟨g1, 0, none⟩) c.banks.length bc') prs) (fun y _ => nd - (intOf y).toNat)
     case atStart => exact ⟨0, by omega, rfl, HI2.out⟩
     case round =>
      obtain ⟨q, hq, rfl, hI⟩ := hrel; clear c2 c3; obtain ⟨c2, c3, hd, _⟩ := HCL.out wr hI
      by_cases hlt' : q < nd
      ·obtain ⟨zs, hz1⟩ := hd
       obtain ⟨g3, e3, he3⟩ := S.own_pos hz1 (by omega); simp only [Value.slice.injEq] at he3; obtain ⟨rfl, _, rfl⟩ := he3; have i2 : (q : Int) < nd := by omega
       obtain ⟨⟨u, hu⟩, hf⟩ := row_at ⟨zs, hz1⟩ q (by omega); have HI : Hid _ := hI.set (.inr ⟨x, HX.out.2, HX.out.1⟩) rfl ⟨zs, hz1⟩ q (.int .u8 18)
       have mx : nd <= 9223372036854775807 := by
        rcases hz1.2 with ⟨_, e⟩ | ⟨_, cap, _, _, _, _, a, b, _⟩
        ·omega
        ·unfold maxLen at b; omega
       have w1' : wrap64 ((q : Int) + 1) = ((q + 1 : Nat) : Int) := by simp [wrap64]; omega
       clear hI hz1 mx; have hlt := hlt'; go_wp2; go_roundw
       case rel =>
        first
         | exact ⟨q + 1, hlt, (by first | rfl | rw [w1']), HI.out⟩
         | ((repeat apply Exists.intro); refine ⟨⟨q + 1, hlt, ?_, HI.out⟩, rfl⟩; first | rfl | rw [w1'])
       case measure => exact msr2 _ _ _ q (by first | rfl | rw [w1']) rfl hlt
      ·have HI : Hid _ := hI
       clear hI hd c2 c3; obtain rfl : nd = q := by omega
       have w1' := HW1.out; go_wp2; go_roundw
       case rel =>
        first
         | exact ⟨k + 1, hlt, (by first | rfl | rw [w1']), HI.out⟩
         | ((repeat apply Exists.intro); refine ⟨⟨k + 1, hlt, ?_, HI.out⟩, rfl⟩; first | rfl | rw [w1'])
       case measure => exact msr2 _ _ _ k (by first | rfl | rw [w1']) rfl hlt
    ·obtain rfl : nb = k := by omega
     subst hnb; clear hpl hbl; have h36 : Below w3.heap.size w3 w6 := trB (trB H4.out H5.out.2.2 H4.out.size) H6.out (Nat.le_trans H4.out.size H5.out.2.2.size); have hk3 : ∀ k, w2.heap.size <= k -> k < w3.heap.size -> wr.drew.heap[k]? = w3.heap[k]? := fun k a b => (hI.hi k a (Nat.lt_of_lt_of_le b h36.size)).trans (h36.block k b)
     have hk5 : ∀ k, w2.heap.size <= k -> k < w5.heap.size -> wr.drew.heap[k]? = w5.heap[k]? := fun k a b => (hI.hi k a (Nat.lt_of_lt_of_le b H6.out.size)).trans (H6.out.block k b)
     have s57 : w5.heap.size <= wr.drew.heap.size := Nat.le_trans H6.out.size hI.b.size; have s37 : w3.heap.size <= wr.drew.heap.size := Nat.le_trans h36.size hI.b.size; have s24 : w2.heap.size <= w4.heap.size := Nat.le_trans H3.out.2.2.size H4.out.size; have hB7 : Below W0.heap.size W0 wr.drew := (trB HB5.out H6.out HB5.out.size).trans ((hI.b.mono (by omega)).trans ⟨rfl, rfl, rfl, Nat.le_refl _, fun _ _ => rfl⟩); have hM7 := mv_at H3.out.1 H3.out.2.1 s37 hk3; have hX7 := rx_at H5.out.1 H5.out.2.1 rfl rfl s57 s24 hk5
     have hS : ∀ X, Below W0.heap.size W0 X -> (fun wz : World => wz.cell? ⟨w.heap.size, 0, none⟩ = some (.slice kp c.code.length kc) /\ wz.cell? ⟨w.heap.size, 1, none⟩ = some (.int .u16 (c.entry : Int)) /\ wz.cell? ⟨w.heap.size, 2, none⟩ = some (.slice ep c.effs.length ec) /\ wz.cell? ⟨w.heap.size, 3, none⟩ = some (.slice bp c.banks.length bc)) X := fun X hb => by
      have z := (hb.block w.heap.size (S.lt_of HZ0.out)).trans HZ0.out; exact ⟨S.cell_of X _ 0 _ _ _ z rfl, S.cell_of X _ 1 _ _ _ z rfl, S.cell_of X _ 2 _ _ _ z rfl, S.cell_of X _ 3 _ _ _ z rfl⟩
     have HS : Hid _ := hS; have H7 : Hid _ := And.intro hk3 (And.intro hk5 (And.intro s57 hB7)); have HM7 : Hid _ := And.intro hM7 hX7; have kC := copy_any g bd br bm ku F (born c) ((born_gd c).may (Nat.zero_le _) (Nat.zero_le _)) (Nat.zero_le _) wr.drew hM7; clear h36 hk3 hk5 s57 s37 s24 hB7 hM7 hX7 hS hI; go_upto_region 22 with fail
     refine V.wrh HS.out H7.out.2.2.2 (by kernel_rfl) (fun hHeld => ?_); generalize wr.drew = w7 at *
     refine wtk0 (is := [0, 1, 2, 5, 6]) ?_
     iterate 5
      refine V.wt (v := ?_) rfl (by kernel_rfl) (fun c a w h => h) (by rfl) ?_ hHeld ?_
      rotate_left
      ·(intro w hSw; (try dsimp only at hSw); go_simp; try with_reducible rfl)
      simp only [V.pts]
     refine wtkE ?_; refine V.wrd 3 (by kernel_rfl) rfl fun K hK => ?_
     go_simp; refine kC.mono ?_; rintro e w8 ⟨g', bd', br', bm', E, rfl, hM8, hE, b78⟩; dsimp only; have H8 : Hid _ := And.intro hM8 (And.intro hE b78); have HB8 : Hid (Below W0.heap.size W0 w8) := trB H7.out.2.2.2 b78 H7.out.2.2.2.size; have kR := rcopy8 G b kU _ _ F' (born c) (Nat.zero_le _) w8 (HM7.out.2.below b78); clear kC hM8 hE b78; refine hK.out _ _ (HS.out _ HB8.out) (fun hHeld => ?_); clear hK K; try simp only [V.pts]
     refine V.wt1 4 (v := ?_) rfl (by kernel_rfl) (fun c a w h => h) (by rfl) ?_ hHeld ?_
     rotate_left
     ·(intro w hSw; (try dsimp only at hSw); go_simp; try with_reducible rfl)
     simp only [V.pts]; refine V.wrd 7 (by kernel_rfl) rfl fun K hK => ?_
     go_simp; refine kR.mono ?_; rintro e w9 ⟨G', b', dv', rv', E', rfl, hX9, hE', b89⟩; dsimp only; have HB9 : Hid (Below W0.heap.size W0 w9) := trB HB8.out b89 HB8.out.size; obtain ⟨W10, hW10⟩ : ∃ y, y = w9.alloc (.cells #[.slice kp c.code.length kc, .int .u16 (c.entry : Int), .slice ep c.effs.length ec, .slice bp c.banks.length bc, .pointer (some ⟨g, 0, none⟩), .pointer (some ⟨g', 0, none⟩), .pointer (some ⟨G, 0, none⟩), .pointer (some ⟨G', 0, none⟩)] 87) := ⟨_, rfl⟩
     obtain ⟨N, p, r, hPI⟩ := pi_born H3.out.1 H3.out.2.1 H5.out.1 H5.out.2.1 rfl rfl HB2.out.size H4.out.size H7.out.2.2.1 H5.out.2.2.size H7.out.1 H7.out.2.1 H8.out.1 H8.out.2.1 H8.out.2.2 hX9 hE' b89 HB9.out HC0.out hm hn W10 hW10; have HB10 : Hid (Below W0.heap.size W0 W10) := hPI.bel; have HPI : Hid _ := hPI; have HW10 : Hid _ := hW10.symm; clear kR hX9 hE' b89 hPI hW10; refine hK.out _ _ (HS.out _ HB9.out) (fun hHeld => ?_); clear hK K; try simp only [V.pts]
     refine wtk0 (is := [8, 9]) ?_
     iterate 2
      refine V.wt (v := ?_) rfl (by kernel_rfl) (fun c a w h => h) (by rfl) ?_ hHeld ?_
      rotate_left
      ·(intro w hSw; (try dsimp only at hSw); go_simp; try with_reducible rfl)
      simp only [V.pts]
     refine wtkE ?_; refine V.wrd 10 (by kernel_rfl) rfl fun K hK => ?_
     go_simp; rw [HW10.out]; refine hK.out _ _ (HS.out _ HB10.out) (fun hHeld => ?_); clear hK K; try simp only [V.pts]
     refine V.wt1 11 (v := ?_) rfl (by kernel_rfl) (fun c a w h => h) (by rfl) ?_ hHeld ?_
     rotate_left
     ·(intro w hSw; (try dsimp only at hSw); go_simp; try with_reducible rfl)
     simp only [V.pts]; refine wpAnyH_done (by kernel_rfl) ?_ _; clear hHeld HS H7 HM7 H8 HB8 HB9 HW10; obtain ⟨pp, hpp⟩ : ∃ n, w9.heap.size = n := ⟨_, rfl⟩
     rw [hpp] at HPI ⊢; clear hpp; have c5 := HPI.out.cm 1 (by omega); go_upto_region 25 with fail
     clear c5; go_wp2
     go_loopw [14] (fun x wr => ∃ k : Nat, k <= ops.length /\ k <= 40 /\ x = .int .i64 (k : Int) /\ ∃ p r, PI W0 wr N pp c kp kc ep ec bp bc (60000 + 3 * k) p r) (fun x _ => 40 - (intOf x).toNat)
     case atStart => exact ⟨0, Nat.zero_le _, Nat.zero_le _, rfl, p, r, HPI.out⟩
     case round =>
      clear HPI; obtain ⟨k, hk, hk4, rfl, p, r, hPI⟩ := hrel
      by_cases hlt : k < ops.length /\ k < 40
      ·obtain ⟨h1, h2⟩ := hlt
       have d1 : decide ((k : Int) < (ops.length : Int)) = true := decide_eq_true (by omega); have d2 : decide ((k : Int) < 40) = true := decide_eq_true (by omega); have i1 : (k : Int) < ops.length := by omega
       have i2 : (k : Int) < 40 := by omega
       obtain ⟨⟨b, o, rfl, g0, g1, g2, g3, g4, g5⟩, hC⟩ := (HSc.out.below (HB.out.trans (hPI.bel.mono HB.out.size))) k ops[k] (List.getElem?_eq_getElem h1); generalize ops[k] = t at *
       have kP := plays_any W0 N pp c kp kc ep ec bp bc (60000 + 3 * k) (by omega) (by omega) p r wr hPI t.kd t.wh t.n t.at_ t.pad t.x hC; have w1' : wrap64 ((k : Int) + 1) = ((k + 1 : Nat) : Int) := by simp [wrap64]; omega
       clear hPI; go_wp2_with fail
       refine kP.mono ?_; rintro e wn ⟨rfl, p', r', hP'⟩; have HP : Hid _ := hP'; clear hP' kP g0 g1 g2 g3 g4 g5; go_wp2; go_roundw
       case rel =>
        first
         | exact ⟨k + 1, h1, h2, (by first | rfl | rw [w1']), p', r', by rw [show 60000 + 3 * (k + 1) = 60000 + 3 * k + 3 by omega]; exact HP.out⟩
         | ((repeat apply Exists.intro); refine ⟨⟨k + 1, h1, h2, ?_, p', r', by rw [show 60000 + 3 * (k + 1) = 60000 + 3 * k + 3 by omega]; exact HP.out⟩, rfl⟩; first | rfl | rw [w1'])
       case measure => exact msr2 _ _ _ k (by first | rfl | rw [w1']) rfl h2
      ·have HPI : Hid _ := hPI
       clear hPI; go_upto_region 26 with fail
       go_cut [114] (fun sx wc => sx = .bool false /\ wc = wr)
       case first =>
        by_cases hl : k < ops.length
        ·have d1 : decide ((k : Int) < (ops.length : Int)) = true := decide_eq_true (by omega)
         have d2 : decide ((k : Int) < 40) = false := decide_eq_false (by omega); have i1 : (k : Int) < ops.length := by omega
         go_wp2; go_meet
         case rel => exact ⟨rfl, rfl⟩
        ·have d1 : decide ((k : Int) < (ops.length : Int)) = false := decide_eq_false (by omega)
         go_wp2; go_meet
         case rel => exact ⟨rfl, rfl⟩
       case rest =>
        obtain ⟨hc1, hc2⟩ := hcut; subst hc1 hc2; obtain ⟨tb, htb⟩ : ∃ n, 60000 + 3 * k = n := ⟨_, rfl⟩
        rw [htb] at HPI; have tb1 : tb <= 70000 := by omega
        clear htb; go_wp2
        go_loopw [15] (fun x wq => ∃ k : Nat, k <= 2 /\ x = .int .i64 (k : Int) /\ PI W0 wq N pp c kp kc ep ec bp bc (tb) p r) (fun x _ => 2 - (intOf x).toNat)
        case atStart => exact ⟨0, Nat.zero_le _, rfl, HPI.out⟩
        case round =>
         clear HPI; obtain ⟨k, hk, rfl, hPI⟩ := hrel
         by_cases hk2 : k < 2
         ·have i1 : (k : Int) < 2 := by omega
          have hP : PI W0 wr.drew N pp c kp kc ep ec bp bc tb p r := hPI.next ⟨rfl, rfl, rfl, Nat.le_refl _, fun _ _ => rfl⟩; have w1' : wrap64 ((k : Int) + 1) = ((k + 1 : Nat) : Int) := by simp [wrap64]; omega
          clear hPI; obtain ⟨wd, hwd⟩ : ∃ y, wr.drew = y := ⟨_, rfl⟩
          rw [hwd] at hP; have hx := hP.q.pm k hk2; have hX := hP.q.rm k hk2; have kS0 := state_any _ _ _ _ _ _ (p k).v wd hx; have kM0 := fun W' (hb : Below wd.heap.size wd W') => memory_any _ _ _ _ _ _ (p k).v W' (hx.below hb)
          have kQ0 := fun W' (hb : Below wd.heap.size wd W') => M.screen_any (p k).bm W' (hx.below hb).ps.m
          obtain ⟨⟨cc, tt, hev⟩, _⟩ := hP.e k hk2; obtain ⟨v, hv⟩ : ∃ v, (p k).v = v := ⟨_, rfl⟩
          rw [hv] at kS0 hev kQ0; obtain ⟨dp, dc, hdv, _, slD⟩ := hX.d.ex; obtain ⟨rp, rc, hrv, _, slR⟩ := hX.r.ex; have hdl := hX.dl; have hrl := hX.rl; have eD : (r k).v.D = v.D := by rw [hev]
          have eR : (r k).v.R = v.R := by rw [hev]
          have eS : (r k).v.m.scr = v.m.scr := by rw [hev]
          rw [eD] at hdv slD hdl; rw [eR] at hrv slR hrl; obtain ⟨hwf, uu, gr, gc, gs, tv, hMR⟩ := hX.mem; have hsl := hMR.sl; rw [eS] at hsl
          have hScr : M.Sl wd (.slice (some ⟨gc, 0, none⟩) 3072 3072) v.m.scr := by
           have q := hMR.scr; rw [eS] at q; exact scr_sl q hsl
          obtain ⟨n1, hn1⟩ : ∃ n, v.D.length = n := ⟨_, rfl⟩
          obtain ⟨n2, hn2⟩ : ∃ n, v.R.length = n := ⟨_, rfl⟩
          obtain ⟨str, hstr⟩ : ∃ x : ByteArray, ⟨v.m.scr.toArray⟩ = x := ⟨_, rfl⟩
          have hS : ∀ X : World, Below wd.heap.size wd X -> (fun wz : World => wz.cell? ⟨pp, 4 + k, none⟩ = some (.pointer (some ⟨(p k).g, 0, none⟩)) /\ wz.cell? ⟨pp, 6 + k, none⟩ = some (.pointer (some ⟨(r k).g, 0, none⟩)) /\ wz.cell? ⟨(r k).g, 1, none⟩ = some (.int .u16 v.pc) /\ wz.cell? ⟨(r k).g, 2, none⟩ = some (.int .i64 v.st) /\ wz.cell? ⟨(r k).g, 3, none⟩ = some (.int .i64 v.fa) /\ wz.cell? ⟨(r k).g, 4, none⟩ = some (.slice dp n1 dc) /\ wz.cell? ⟨(r k).g, 5, none⟩ = some (.slice rp n2 rc) /\ wz.cell? ⟨(r k).g, 6, none⟩ = some (.pointer (some ⟨(r k).b, 0, none⟩)) /\ wz.cell? ⟨(r k).b, 2, none⟩ = some (.slice (some ⟨gc, 0, none⟩) 3072 3072) /\ (convert 22 9 (.slice (some ⟨gc, 0, none⟩) 3072 3072)).run Tryz.prog wz = .ok (.string str) wz) X := fun X hb => by
           have hp := hP.next hb; have h1 := hp.q.rm k hk2; have c1 := h1.c1; have c2 := h1.c2; have c3 := h1.c3; have c4 := h1.c4; have c5 := h1.c5; rw [hev] at c1 c2 c3; rw [hdv, hn1] at c4; rw [hrv, hn2] at c5; have hm := (hb.block _ (S.lt_of hMR.blk)).trans hMR.blk; have cv := Sl_conv (hScr.below hb) (by rw [hsl]; exact ml3072y); rw [hstr] at cv; exact ⟨hp.cm k hk2, hp.cr k hk2, c1, c2, c3, c4, c5, h1.c6, S.cell_of X _ 2 _ _ _ hm rfl, cv⟩
          unfold StV at kS0; rw [hn1, hn2] at kS0; have l1 : n1 <= 256 := by omega
          have l2 : n2 <= 128 := by omega
          have HN : Hid _ := And.intro hn1 (And.intro hn2 (And.intro slD slR)); have HS : Hid _ := hS; have HP : Hid _ := hP; have HM0 : Hid _ := kM0; have HQ0 : Hid _ := kQ0; have HST : Hid _ := And.intro hstr hsl; have HWD : Hid _ := hwd; clear hx hX hev hv hdv hrv slD slR hdl hrl eD eR eS hwf hMR hsl hScr hn1 hn2 hstr hS hP kM0 kQ0 hwd; go_upto_region 33 with fail
          refine wp_region_held_drew (S := (fun wz : World => wz.cell? ⟨pp, 4 + k, none⟩ = some (.pointer (some ⟨(p k).g, 0, none⟩)) /\ wz.cell? ⟨pp, 6 + k, none⟩ = some (.pointer (some ⟨(r k).g, 0, none⟩)) /\ wz.cell? ⟨(r k).g, 1, none⟩ = some (.int .u16 v.pc) /\ wz.cell? ⟨(r k).g, 2, none⟩ = some (.int .i64 v.st) /\ wz.cell? ⟨(r k).g, 3, none⟩ = some (.int .i64 v.fa) /\ wz.cell? ⟨(r k).g, 4, none⟩ = some (.slice dp n1 dc) /\ wz.cell? ⟨(r k).g, 5, none⟩ = some (.slice rp n2 rc) /\ wz.cell? ⟨(r k).g, 6, none⟩ = some (.pointer (some ⟨(r k).b, 0, none⟩)) /\ wz.cell? ⟨(r k).b, 2, none⟩ = some (.slice (some ⟨gc, 0, none⟩) 3072 3072) /\ (convert 22 9 (.slice (some ⟨gc, 0, none⟩) 3072 3072)).run Tryz.prog wz = .ok (.string str) wz)) (by kernel_rfl) (by rw [HWD.out]; exact HS.out wd (Below.refl _ _)) (fun hHeld => ?_); rw [HWD.out] at hHeld ⊢; refine wtk0 (is := [0, 1, 2, 3, 4, 5, 7, 8, 9, 10, 11, 12, 13, 14, 15]) ?_
          iterate 15
           refine V.wt (v := ?_) rfl (by kernel_rfl) (fun c a w h => h) (by rfl) ?_ hHeld ?_
           rotate_left
           ·(intro w hSw; (try dsimp only at hSw); go_simp; try with_reducible rfl)
           simp only [V.pts]
          refine wtkE ?_; refine V.wrd 6 (by kernel_rfl) rfl fun K hK => ?_
          go_simp; refine kS0.mono ?_; rintro e wa ⟨p1, c1, p2, c2, rfl, ro1, ro2, hba⟩; dsimp only
          have kS := sameState_true v p1 p2 dp rp c1 c2 dc rc (by rw [HN.out.1]; exact l1) (by rw [HN.out.2.1]; exact l2) wa
           (by
            obtain ⟨p', c', e', _, q⟩ := (S.RowU.ls ro1).ex; rw [HN.out.1] at e'; simp only [Value.slice.injEq] at e'; rw [e'.1]; exact q)
           (by
            obtain ⟨p', c', e', _, q⟩ := (S.RowK.ls ro2).ex; rw [HN.out.2.1] at e'; simp only [Value.slice.injEq] at e'; rw [e'.1]; exact q)
           (HN.out.2.2.1.below hba) (HN.out.2.2.2.below hba)
          unfold StV at kS; rw [HN.out.1, HN.out.2.1] at kS; have HBa : Hid (Below wd.heap.size wd wa) := hba; clear kS0 ro1 ro2 hba; refine hK.out _ _ (HS.out _ HBa.out) (fun hHeld => ?_); clear hK K; try simp only [V.pts]
          refine V.wrd 16 (by kernel_rfl) rfl fun K hK => ?_
          go_simp; refine kS.mono ?_; rintro e wb ⟨rfl, hbb⟩; dsimp only; have HBb : Hid (Below wd.heap.size wd wb) := trB HBa.out hbb HBa.out.size; have kM := HM0.out wb HBb.out; clear kS hbb; refine hK.out _ _ (HS.out _ HBb.out) (fun hHeld => ?_); clear hK K; try simp only [V.pts]
          refine wtk0 (is := [17, 18, 19, 20, 21, 22, 23, 24, 28, 29, 30, 31, 32, 33, 34, 35, 36, 37, 38, 39, 40]) ?_
          iterate 21
           refine V.wt (v := ?_) rfl (by kernel_rfl) (fun c a w h => h) (by rfl) ?_ hHeld ?_
           rotate_left
           ·(intro w hSw; (try dsimp only at hSw); go_simp; try with_reducible rfl)
           simp only [V.pts]
          refine wtkE ?_; refine V.wrd 25 (by kernel_rfl) rfl fun K hK => ?_
          go_simp; refine kM.mono ?_; rintro e wb' ⟨rfl, hwb⟩; dsimp only; rw [hwb]; have kQ := HQ0.out wb HBb.out; clear kM hwb wb'; refine hK.out _ _ (HS.out _ HBb.out) (fun hHeld => ?_); clear hK K; try simp only [V.pts]
          refine V.wrd 26 (by kernel_rfl) rfl fun K hK => ?_
          go_simp; refine kQ.mono ?_; rintro e wc' ⟨us, rfl, hrow, hbc⟩; dsimp only; have HBc : Hid (Below wd.heap.size wd wc') := trB HBb.out hbc HBb.out.size; have cv := Sl_conv (M.Row.sl hrow) (by rw [HST.out.2]; exact ml3072y); rw [HST.out.1] at cv; have HE : Hid _ := HP.out.next HBc.out; clear kQ hrow hbc; refine hK.out _ _ (HS.out _ HBc.out) (fun hHeld => ?_); clear hK K; try simp only [V.pts]
          refine V.wrd 27 (by kernel_rfl) rfl fun K hK => ?_
          go_simp; refine hK.out _ _ (HS.out _ HBc.out) (fun hHeld => ?_); clear hK K; try simp only [V.pts]
          refine wtk0 (is := [41, 42]) ?_
          iterate 2
           refine V.wt (v := ?_) rfl (by kernel_rfl) (fun c a w h => h) (by rfl) ?_ hHeld ?_
           rotate_left
           ·(intro w hSw; (try dsimp only at hSw); go_simp; try with_reducible rfl)
           simp only [V.pts]
          refine wtkE ?_; refine wpAnyH_done (by kernel_rfl) ?_ _; clear hHeld cv; go_wp2; go_roundw
          case rel =>
           first
            | exact ⟨k + 1, hk2, (by first | rfl | rw [w1']), HE.out⟩
            | ((repeat apply Exists.intro); refine ⟨⟨k + 1, hk2, ?_, HE.out⟩, rfl⟩; first | rfl | rw [w1'])
          case measure => exact msr2 _ _ _ k (by first | rfl | rw [w1']) rfl hk2
         ·obtain rfl : 2 = k := by omega
          have HE : Hid (Below w.heap.size w wr) := HB.out.trans (hPI.bel.mono HB.out.size); clear hPI; go_wp2; go_ret; exact ⟨rfl, HE.out⟩
end Go.Proofs.YteldjmecomngeaaGreat.V
