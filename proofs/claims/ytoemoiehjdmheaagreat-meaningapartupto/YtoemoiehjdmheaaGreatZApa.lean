import Derived.Test.YtoemoiehjdmheaaGreatDDrop
import Derived.Test.YtoemoiehjdmheaaGreatZApk
import Derived.Test.YtoemoiehjdmheaaGreatZLawF
namespace Go.Proofs.YtoemoiehjdmheaaGreat.Z
open Go.RowKit
open Go.Proofs
open Go.Proofs.YtoemoiehjdmheaaGreat.Y (hid BS)
set_option linter.unusedVariables false
set_option linter.unusedSimpArgs false
set_option maxHeartbeats 40000000
set_option maxRecDepth 100000
def hv (v0 : VS) (zs : List Int) (ps : List UInt8) : Nat -> VS
 | 0 => v0
 | i + 1 => match ps[i]? with
  | some x => nxv (hv v0 zs ps i) x (bud zs i).1
  | none => hv v0 zs ps i
theorem w1k (y : Nat) (h : y < 1048576) : wrap64 ((y : Int) + 1) = ((y + 1 : Nat) : Int) := by unfold wrap64; omega
theorem hv_succ {v0 : VS} {zs : List Int} {ps : List UInt8} {i : Nat} {x : UInt8} (h : ps[i]? = some x) : hv v0 zs ps (i + 1) = nxv (hv v0 zs ps i) x (bud zs i).1 := by simp [hv, h]
structure EF (o : FO) (e : KE) : Prop where
 a0 : e.a0 = o.a0
 a1 : e.a1 = o.a1
 a2 : e.a2 = o.a2
 a3 : e.a3 = o.a3
 a4 : e.a4 = o.a4
 l3 : e.l3 = o.l1
 l4 : e.l4 = o.l2
structure AI (n0 : Nat) (W w : World) (c : Nat -> Nat) (lo : Nat) (b : MB) (v : VS) (vo : Value) (es : List KE) : Prop where
 mv : b.mv w v
 ca : calls v.R = v.o.length
 bel : Below n0 W w
 lb : ∀ i, b.tv i -> n0 <= i
 zb : ∀ i, b.bk i -> c i = 0
 o : Rw w lo c 1 68 14 vo es.length (S.en eKE es)
 e3 : ∀ i e, es[i]? = some e -> Rw w lo c (16 * i + 6) 5 1 e.s3 e.l3.length (M.bv e.l3)
 e4 : ∀ i e, es[i]? = some e -> Rw w lo c (16 * i + 7) 117 3 e.s4 e.l4.length (M.tc e.l4)
theorem AI.below {n0 lo : Nat} {W w w' : World} {c : Nat -> Nat} {b : MB} {v : VS} {vo : Value} {es : List KE} (h : AI n0 W w c lo b v vo es) (k : Below w.heap.size w w') (hn : n0 <= w.heap.size) : AI n0 W w' c lo b v vo es :=
 ⟨MB.below h.mv k, h.ca, h.bel.trans (k.mono hn), h.lb, h.zb, h.o.below k, fun i e q => (h.e3 i e q).below k, fun i e q => (h.e4 i e q).below k⟩
theorem AI.frame {n0 lo l' : Nat} {W w w' : World} {c : Nat -> Nat} {b b' : MB} {v v' : VS} {vo : Value} {es : List KE} (h : AI n0 W w c lo b v vo es) (f : FB w w' l' b b' v') (hc : calls v'.R = v'.o.length) (hn : n0 <= w.heap.size) : AI n0 W w' (ext w c 0) lo b' v' vo es := by
 have p : Wr w w' c (ext w c 0) 0 := ⟨f.t.trans (S.Tc.refl (fun _ => False) w') (fun i hi => h.zb i (.inl hi)) (fun _ _ e => e.elim), fun i hi => ext_eq _ _ _ _ hi⟩
 refine ⟨f.mv, hc, h.bel.trans (S.Tc.below f.t hn h.lb), fun i hi => ?_, fun i hi => ?_, h.o.sp p (by omega), fun i e q => (h.e3 i e q).sp p (by omega), fun i e q => (h.e4 i e q).sp p (by omega)⟩
 ·rcases f.tv i hi with q | q
  ·exact h.lb i q
  ·omega
 ·rcases f.bk i hi with q | q
  ·rw [ext_eq _ _ _ _ (MB.lt h.mv i q)]; exact h.zb i q
  ·exact ext_new _ _ _ _ q.1
theorem alike_any (zs : List Int) (ps : List UInt8) (hps : ps.length <= 1048576) (zp q3 : Option Addr) (zc d3 : Nat) (n0 lo : Nat) (c : Nat -> Nat) (b : MB) (v0 : VS) (po : Option Addr) (co : Nat) (es : List KE) (W : World) (h : AI n0 W W c lo b v0 (.slice po es.length co) es) (hn0 : n0 <= W.heap.size)
  (hz : Is W zp zs) (hp : BS W (· < n0) (.slice q3 ps.length d3) ps) (hzl : ∀ W', Below n0 W W' -> Is W' zp zs) (hle : es.length <= ps.length)
  (hef : ∀ i e x, es[i]? = some e -> ps[i]? = some x -> EF (fo (hv v0 zs ps i) x (bud zs i).1) e) :
  Calls Tryz.prog 22 #[.pointer (some ⟨b.g, 0, none⟩), .agg #[.slice zp zs.length zc, .slice q3 ps.length d3], .slice po es.length co] W fun e w' => e = .returned (.bool true) /\ Below n0 W w' := by
 obtain ⟨W1, hW1⟩ : ∃ W1, W.alloc (.cells #[.slice zp zs.length zc, .slice q3 ps.length d3] 50) = W1 := ⟨_, rfl⟩
 have hB1 : Below W.heap.size W W1 := by rw [<- hW1]; exact P.bel_alloc _ _
 have u1 : W1.heap[W.heap.size]? = some (.cells [.slice zp zs.length zc, .slice q3 ps.length d3].toArray 50 (0, 0)) := by rw [<- hW1]; exact heap_alloc_new W _
 have hI1 := h.below hB1 hn0
 have HLF := hid (fun (w' : World) (k : Below n0 W w') => show Is w' zp zs /\ BS w' (· < n0) (.slice q3 ps.length d3) ps from ⟨hzl w' k, hp.kept (fun i hi => k.block i hi) fun _ h => h⟩)
 obtain ⟨bx, hbx⟩ : ∃ bx, bx = W.heap.size := ⟨_, rfl⟩
 obtain ⟨n, hnn⟩ : ∃ n, n = es.length := ⟨_, rfl⟩
 have hbx0 : n0 <= bx := by rw [hbx]; exact hn0
 have hbx1 : bx < W1.heap.size := by rw [hbx]; exact S.lt_of u1
 have hbt : ∀ i, b.tv i -> i < bx := fun i hi => by rw [hbx]; exact MB.lt h.mv i (.inl hi)
 rw [<- hbx] at u1
 have HW1 := hid hW1
 have HI := hid (And.intro hI1 (And.intro u1 hbt))
 have HX := hid (And.intro hbx0 (And.intro hbx1 hbx))
 have HE := hid (And.intro hef (And.intro hle hnn))
 obtain ⟨gb, hgb⟩ : ∃ g, g = b.g := ⟨_, rfl⟩
 have HGB := hid hgb
 rw [<- hgb, <- hnn]
 rw [<- hnn] at HI
 clear hW1 hB1 u1 hI1 hz hp hzl hbx hbx0 hbx1 hef hle hbt hnn hgb h
 go_enter Tryz.func22, Tryz.ntmps22
 go_upto_region 1 with fail
 rw [HW1.out]
 rw [show W.heap.size = bx from HX.out.2.2.symm]
 go_wp2
 go_loopw [14] (fun i wr => ∃ (k : Nat) (b' : MB) (c : Nat -> Nat), k <= n /\ i = .int .i64 (k : Int) /\ b'.g = gb /\ AI n0 W wr c lo b' (hv v0 zs ps k) (.slice po n co) es /\ wr.heap[bx]? = some (.cells [.slice zp zs.length zc, .slice q3 ps.length d3].toArray 50 (0, 0)) /\ (∀ i, b'.tv i -> i ≠ bx)) (fun i _ => n - (intOf i).toNat)
 case atStart => exact ⟨0, b, c, Nat.zero_le _, rfl, HGB.out.symm, HI.out.1, HI.out.2.1, fun i hi => Nat.ne_of_lt (HI.out.2.2 i hi)⟩
 case round =>
  clear HI
  obtain ⟨k, b', c, hk, rfl, hg, hI, hub, hbt⟩ := hrel
  by_cases hlt : k < n
  ·have i1 : (k : Int) < n := Int.ofNat_lt.mpr hlt
   have hxl : k < ps.length := Nat.lt_of_lt_of_le hlt (by rw [HE.out.2.2]; exact HE.out.2.1)
   obtain ⟨x, hx⟩ : ∃ x, ps[k]? = some x := ⟨_, List.getElem?_eq_getElem hxl⟩
   obtain ⟨e, he⟩ : ∃ e, es[k]? = some e := ⟨_, List.getElem?_eq_getElem (show k < es.length by rw [<- HE.out.2.2]; exact hlt)⟩
   have hef := HE.out.1 k e x he hx
   obtain ⟨hzs, hpd⟩ := HLF.out wr hI.bel
   have kb := budget_any zs zp q3 zc ps.length d3 k wr hzs
   have hn1 : n0 <= wr.heap.size := Nat.le_trans HX.out.1 (Nat.le_of_lt (S.lt_of hub))
   have hvs := hv_succ (v0 := v0) (zs := zs) hx
   have HVS := hid hvs
   clear hvs
   generalize hv v0 zs ps k = v at *
   generalize bud zs k = BB at *
   obtain ⟨B, more⟩ := BB
   simp only at kb hef
   have HI := hid (And.intro hI (And.intro hub (And.intro hbt (And.intro hg hef))))
   clear hI hbt hzs hpd hef hg
   go_wp2_with (refine wpList_load_row rfl 50 _ rfl bx rfl 50 _ (0, 0) _ hub Tryz.underlying50 rfl (by exact sizeL) ?_)
   refine kb.mono ?_
   rintro e' wb ⟨rfl, hbb⟩
   have hI := HI.out.1.below hbb hn1
   have hub := (hbb.block _ (S.lt_of HI.out.2.1)).trans HI.out.2.1
   have hn2 : n0 <= wb.heap.size := Nat.le_trans hn1 hbb.size
   obtain ⟨_, hpd⟩ := HLF.out wb hI.bel
   rcases hpd with ⟨_, e9⟩ | ⟨pb, po', pc', e9, hpb, hpc⟩
   ·rw [e9] at hxl; exact absurd hxl (by simp)
   injection e9 with e5 e6 e7
   subst e5 e7
   have ex0 := hpc k x hx
   have l1 := S.cell_of wb _ 1 _ _ _ hub rfl
   have k3 := frame_u x B b' v wb hI.ca hI.mv
   rw [HI.out.2.2.2.1] at k3
   have i2 : (k : Int) < ps.length := Int.ofNat_lt.mpr hxl
   have HI2 := hid (And.intro hI (And.intro hub hn2))
   clear kb hbb hI hub hpc hpb
   go_wp2_with fail
   refine k3.mono ?_
   rintro e' w3 ⟨er, p1, c1, p2, c2, l2, b2, rfl, hr1, hr2, hF, hca, hl1, hl2⟩
   have hI3 := HI2.out.1.frame hF hca HI2.out.2.2
   have hub3 := (hF.other bx (S.lt_of HI2.out.2.1) fun e => HI.out.2.2.1 bx e rfl).trans HI2.out.2.1
   have hbt3 : ∀ i, b2.tv i -> i ≠ bx := fun i hi => by
    rcases hF.tv i hi with q | q
    ·exact HI.out.2.2.1 i q
    ·have := S.lt_of HI2.out.2.1; omega
   have hg3 := hF.gg.trans HI.out.2.2.2.1
   have hef := HI.out.2.2.2.2
   have hn3 : n0 <= w3.heap.size := Nat.le_trans HI2.out.2.2 hF.t.size
   unfold foV
   generalize hO : fo v x B = O at *
   obtain ⟨z3, r3, b3⟩ := mkRow w3 #[.int .i64 0, .int .i64 0, .int .i64 0, .int .i64 0, .int .i64 0, .slice none 0 0, .slice none 0 0] #[.int .i64 O.a0, .int .i64 O.a1, .int .i64 O.a2, .int .i64 O.a3, .int .i64 O.a4, .slice p1 O.l1.length c1, .slice p2 O.l2.length c2] 28
   have hI4 := hI3.below b3 hn3
   have hub4 := (b3.block _ (S.lt_of hub3)).trans hub3
   have q1 := hI4.e3 k e he
   have q2 := hI4.e4 k e he
   obtain ⟨p3, c3, h3⟩ := q1.ex
   obtain ⟨p4, c4, h4⟩ := q2.ex
   obtain ⟨go, cg, hgo⟩ := hI4.o.pos (by rw [<- HE.out.2.2]; exact Nat.lt_of_le_of_lt (Nat.zero_le _) hlt)
   obtain ⟨rfl, hnes, rfl⟩ : po = some ⟨go, 0, none⟩ /\ n = es.length /\ co = cg := by simp only [Value.slice.injEq] at hgo; exact hgo
   have hcel : ∀ (W' : World), Below ((w3.alloc (.cells #[.int .i64 0, .int .i64 0, .int .i64 0, .int .i64 0, .int .i64 0, .slice none 0 0, .slice none 0 0] 28)).setRow w3.heap.size #[.int .i64 O.a0, .int .i64 O.a1, .int .i64 O.a2, .int .i64 O.a3, .int .i64 O.a4, .slice p1 O.l1.length c1, .slice p2 O.l2.length c2]).heap.size ((w3.alloc (.cells #[.int .i64 0, .int .i64 0, .int .i64 0, .int .i64 0, .int .i64 0, .slice none 0 0, .slice none 0 0] 28)).setRow w3.heap.size #[.int .i64 O.a0, .int .i64 O.a1, .int .i64 O.a2, .int .i64 O.a3, .int .i64 O.a4, .slice p1 O.l1.length c1, .slice p2 O.l2.length c2]) W' -> (∀ (j : Nat) (u : Value), [.int .i64 O.a0, .int .i64 O.a1, .int .i64 O.a2, .int .i64 O.a3, .int .i64 O.a4, .slice p3 O.l1.length c3, .slice p4 O.l2.length c4][j]? = some u -> W'.cell? ⟨go, k * 14 + 7 + j, none⟩ = some u) /\ W'.heap[w3.heap.size]? = some (.cells #[.int .i64 O.a0, .int .i64 O.a1, .int .i64 O.a2, .int .i64 O.a3, .int .i64 O.a4, .slice p1 O.l1.length c1, .slice p2 O.l2.length c2] 28 (0, 0)) := fun W' kk => by
    refine ⟨fun j u hj => ?_, (kk.block _ (S.lt_of r3)).trans r3⟩
    have o' := hI4.o.below kk
    rw [<- hnes] at o'
    refine (o'.cell (k * 14 + 7 + j) u ?_).1
    have hj' : j < 7 := (List.getElem?_eq_some_iff.1 hj).1
    rw [Nat.add_assoc, S.en_get hKE es k (7 + j) e he (by omega)]
    have he7 : (eKE e)[7 + j]? = ((eKE e).drop 7)[j]? := by rw [List.getElem?_drop]
    rw [he7, <- hj]
    simp only [eKE, List.drop_succ_cons, List.drop_zero, hef.a0, hef.a1, hef.a2, hef.a3, hef.a4, h3, h4, hef.l3, hef.l4]
   have hr1' : M.Row w3 0 (.slice p1 O.l1.length c1) O.l1 := S.own_mono hr1 (Nat.zero_le _)
   have hr2' : M.TRow w3 0 (.slice p2 O.l2.length c2) O.l2 := S.own_mono hr2 (Nat.zero_le _)
   have K9 := hid (fun (wz : World) (kk : Below ((w3.alloc (.cells #[.int .i64 0, .int .i64 0, .int .i64 0, .int .i64 0, .int .i64 0, .slice none 0 0, .slice none 0 0] 28)).setRow w3.heap.size #[.int .i64 O.a0, .int .i64 O.a1, .int .i64 O.a2, .int .i64 O.a3, .int .i64 O.a4, .slice p1 O.l1.length c1, .slice p2 O.l2.length c2]).heap.size ((w3.alloc (.cells #[.int .i64 0, .int .i64 0, .int .i64 0, .int .i64 0, .int .i64 0, .slice none 0 0, .slice none 0 0] 28)).setRow w3.heap.size #[.int .i64 O.a0, .int .i64 O.a1, .int .i64 O.a2, .int .i64 O.a3, .int .i64 O.a4, .slice p1 O.l1.length c1, .slice p2 O.l2.length c2]) wz) => outs_true O.a0 O.a1 O.a2 O.a3 O.a4 p1 p2 p3 p4 c1 c2 c3 c4 O.l1 O.l2 O.l1.length (by unfold maxLen; omega) rfl hl2 wz (B1 := 0) (B2 := 0) (B3 := lo) (B4 := lo) (S.own_kept hr1' fun g e hg => (kk.block g (Nat.lt_of_lt_of_le hg b3.size)).trans (b3.block g hg)) (S.own_kept hr2' fun g e hg => (kk.block g (Nat.lt_of_lt_of_le hg b3.size)).trans (b3.block g hg)) (by have q := (q1.below kk).1; rw [h3, hef.l3] at q; exact q) (by have q := (q2.below kk).1; rw [h4, hef.l4] at q; exact q))
   have HC := hid (And.intro hI4 (And.intro hub4 (And.intro hbt3 (And.intro hg3 hn3))))
   have HZ := hid (And.intro b3.size hcel)
   have HB3 := hid b3
   clear k3 hI3 hub3 hbt3 hg3 hef hI4 hub4 q1 q2 hgo hcel hr1' hr2' hr1 hr2 hF b3 r3 ex0 l1 hO HI2 HI hnes
   go_upto_region 6 with (refine wpList_store_row rfl 28 _ _ rfl w3.heap.size _ rfl rfl 28 #[.int .i64 0, .int .i64 0, .int .i64 0, .int .i64 0, .int .i64 0, .slice none 0 0, .slice none 0 0] z3 (by exact sizeO) (by rfl) (by simp [Value.oneCell']) ?_)
   generalize hW4 : (w3.alloc (.cells #[.int .i64 0, .int .i64 0, .int .i64 0, .int .i64 0, .int .i64 0, .slice none 0 0, .slice none 0 0] 28)).setRow w3.heap.size #[.int .i64 O.a0, .int .i64 O.a1, .int .i64 O.a2, .int .i64 O.a3, .int .i64 O.a4, .slice p1 O.l1.length c1, .slice p2 O.l2.length c2] = W4 at *
   obtain ⟨bo, hbo⟩ : ∃ bo, bo = w3.heap.size := ⟨_, rfl⟩
   rw [<- hbo] at HZ ⊢
   have HBO := hid hbo
   have HW4 := hid hW4
   clear hW4 z3 hbo
   refine D.wp_region_drop [] (S := fun wz : World => wz.cell? ⟨bo, 0, none⟩ = some (.int .i64 O.a0) /\ wz.cell? ⟨bo, 1, none⟩ = some (.int .i64 O.a1) /\ wz.cell? ⟨bo, 2, none⟩ = some (.int .i64 O.a2) /\ wz.cell? ⟨bo, 3, none⟩ = some (.int .i64 O.a3) /\ wz.cell? ⟨bo, 4, none⟩ = some (.int .i64 O.a4) /\ wz.cell? ⟨bo, 5, none⟩ = some (.slice p1 O.l1.length c1) /\ wz.cell? ⟨bo, 6, none⟩ = some (.slice p2 O.l2.length c2) /\ wz.cell? ⟨go, k * 14 + 7, none⟩ = some (.int .i64 O.a0) /\ wz.cell? ⟨go, k * 14 + 8, none⟩ = some (.int .i64 O.a1) /\ wz.cell? ⟨go, k * 14 + 9, none⟩ = some (.int .i64 O.a2) /\ wz.cell? ⟨go, k * 14 + 10, none⟩ = some (.int .i64 O.a3) /\ wz.cell? ⟨go, k * 14 + 11, none⟩ = some (.int .i64 O.a4) /\ wz.cell? ⟨go, k * 14 + 12, none⟩ = some (.slice p3 O.l1.length c3) /\ wz.cell? ⟨go, k * 14 + 13, none⟩ = some (.slice p4 O.l2.length c4)) (by kernel_rfl) (show (fun wz : World => wz.cell? ⟨bo, 0, none⟩ = some (.int .i64 O.a0) /\ wz.cell? ⟨bo, 1, none⟩ = some (.int .i64 O.a1) /\ wz.cell? ⟨bo, 2, none⟩ = some (.int .i64 O.a2) /\ wz.cell? ⟨bo, 3, none⟩ = some (.int .i64 O.a3) /\ wz.cell? ⟨bo, 4, none⟩ = some (.int .i64 O.a4) /\ wz.cell? ⟨bo, 5, none⟩ = some (.slice p1 O.l1.length c1) /\ wz.cell? ⟨bo, 6, none⟩ = some (.slice p2 O.l2.length c2) /\ wz.cell? ⟨go, k * 14 + 7, none⟩ = some (.int .i64 O.a0) /\ wz.cell? ⟨go, k * 14 + 8, none⟩ = some (.int .i64 O.a1) /\ wz.cell? ⟨go, k * 14 + 9, none⟩ = some (.int .i64 O.a2) /\ wz.cell? ⟨go, k * 14 + 10, none⟩ = some (.int .i64 O.a3) /\ wz.cell? ⟨go, k * 14 + 11, none⟩ = some (.int .i64 O.a4) /\ wz.cell? ⟨go, k * 14 + 12, none⟩ = some (.slice p3 O.l1.length c3) /\ wz.cell? ⟨go, k * 14 + 13, none⟩ = some (.slice p4 O.l2.length c4)) W4.drew from ⟨S.cell_of W4.drew _ 0 _ _ _ (HZ.out.2 W4.drew (Below.refl _ _).drew).2 rfl, S.cell_of W4.drew _ 1 _ _ _ (HZ.out.2 W4.drew (Below.refl _ _).drew).2 rfl, S.cell_of W4.drew _ 2 _ _ _ (HZ.out.2 W4.drew (Below.refl _ _).drew).2 rfl, S.cell_of W4.drew _ 3 _ _ _ (HZ.out.2 W4.drew (Below.refl _ _).drew).2 rfl, S.cell_of W4.drew _ 4 _ _ _ (HZ.out.2 W4.drew (Below.refl _ _).drew).2 rfl, S.cell_of W4.drew _ 5 _ _ _ (HZ.out.2 W4.drew (Below.refl _ _).drew).2 rfl, S.cell_of W4.drew _ 6 _ _ _ (HZ.out.2 W4.drew (Below.refl _ _).drew).2 rfl, (HZ.out.2 W4.drew (Below.refl _ _).drew).1 0 _ rfl, (HZ.out.2 W4.drew (Below.refl _ _).drew).1 1 _ rfl, (HZ.out.2 W4.drew (Below.refl _ _).drew).1 2 _ rfl, (HZ.out.2 W4.drew (Below.refl _ _).drew).1 3 _ rfl, (HZ.out.2 W4.drew (Below.refl _ _).drew).1 4 _ rfl, (HZ.out.2 W4.drew (Below.refl _ _).drew).1 5 _ rfl, (HZ.out.2 W4.drew (Below.refl _ _).drew).1 6 _ rfl⟩) (fun hHeld => ?_)
   have HD := hid (show Below W4.heap.size W4 W4.drew from (Below.refl _ _).drew)
   have k9 := K9.out W4.drew HD.out
   generalize W4.drew = y3 at *
   refine D.zD (is := [0, 1, 2, 3, 4, 5]) ?_
   iterate 6
    refine D.yD (v := ?_) rfl (by kernel_rfl) (fun c a w h => h) (by rfl) ?_ hHeld ?_
    rotate_left
    ·(intro w hSw; (try dsimp only at hSw); go_simp; try with_reducible rfl)
    simp only [D.pts]
   refine D.eD ?_
   refine D.wpD_ready (rs := [6]) (by kernel_rfl) (by simp) ?_
   refine D.AllD.cons rfl (fun K hK => ?_) D.AllD.nil
   go_simp
   refine k9.mono ?_
   rintro e' w9 ⟨rfl, h9⟩
   have H9 := hid (trB HD.out h9 HD.out.size)
   refine hK.out _ _ ⟨S.cell_of w9 _ 0 _ _ _ (HZ.out.2 w9 H9.out).2 rfl, S.cell_of w9 _ 1 _ _ _ (HZ.out.2 w9 H9.out).2 rfl, S.cell_of w9 _ 2 _ _ _ (HZ.out.2 w9 H9.out).2 rfl, S.cell_of w9 _ 3 _ _ _ (HZ.out.2 w9 H9.out).2 rfl, S.cell_of w9 _ 4 _ _ _ (HZ.out.2 w9 H9.out).2 rfl, S.cell_of w9 _ 5 _ _ _ (HZ.out.2 w9 H9.out).2 rfl, S.cell_of w9 _ 6 _ _ _ (HZ.out.2 w9 H9.out).2 rfl, (HZ.out.2 w9 H9.out).1 0 _ rfl, (HZ.out.2 w9 H9.out).1 1 _ rfl, (HZ.out.2 w9 H9.out).1 2 _ rfl, (HZ.out.2 w9 H9.out).1 3 _ rfl, (HZ.out.2 w9 H9.out).1 4 _ rfl, (HZ.out.2 w9 H9.out).1 5 _ rfl, (HZ.out.2 w9 H9.out).1 6 _ rfl⟩ (fun hHeld => ?_)
   clear hK K
   try simp only [D.pts]
   refine D.xP 7 (v := ?_) rfl (by kernel_rfl) (fun c a w h => h) (by rfl) ?_ (fun _ => hHeld) ?_
   rotate_left
   ·(intro w hSw; clear hSw; go_simp; try with_reducible rfl)
   simp only [D.pts]
   refine D.wpD_done (by kernel_rfl) ?_ _
   clear hHeld k9
   have hI9 := HC.out.1.below H9.out (Nat.le_trans HC.out.2.2.2.2 (HBO.out ▸ HZ.out.1))
   have hub9 := (H9.out.block _ (S.lt_of HC.out.2.1)).trans HC.out.2.1
   have hvs : hv v0 zs ps (k + 1) = nxv v x B := HVS.out
   rw [<- hvs] at hI9
   have HX9 := hid (And.intro hI9 (And.intro hub9 (And.intro HC.out.2.2.1 HC.out.2.2.2.1)))
   clear hI9 hub9 hvs
   have w1' : wrap64 ((k : Int) + 1) = ((k + 1 : Nat) : Int) := w1k k (Nat.lt_of_lt_of_le hxl hps)
   go_wp2
   go_roundw
   case rel => exact ⟨k + 1, b2, _, hlt, (by first | rw [w1'] | simp), HX9.out.2.2.2, HX9.out.1, HX9.out.2.1, HX9.out.2.2.1⟩
   case measure => exact msr2 n _ _ k (by first | rw [w1'] | simp) rfl hlt
  ·obtain rfl : k = n := by omega
   have i1 : ¬ (k : Int) < k := by omega
   have hfin := hI.bel
   clear hI hub
   go_wp2
   go_ret
   exact ⟨rfl, hfin⟩
open Go.Proofs.YtoemoiehjdmheaaGreat.Y (hid)
set_option linter.unusedVariables false
set_option linter.unusedSimpArgs false
set_option maxRecDepth 100000
structure BK (W0 w : World) (c : Nat -> Nat) (a b : MB) (u v : VS) (vo vd vw : Value) (es : List KE) (ds us : List DE) : Prop where
 z : ZI W0 w c a b u v
 o : Rw w W0.heap.size c 1 68 14 vo es.length (S.en eKE es)
 d : Rw w W0.heap.size c 2 37 1 vd ds.length (ds.map DE.v)
 q : Rw w W0.heap.size c 3 37 1 vw us.length (us.map DE.v)
 e1 : ∀ i e, es[i]? = some e -> Rw w W0.heap.size c (16 * i + 4) 5 1 e.s1 e.l1.length (M.bv e.l1)
 e2 : ∀ i e, es[i]? = some e -> Rw w W0.heap.size c (16 * i + 5) 117 3 e.s2 e.l2.length (M.tc e.l2)
 e3 : ∀ i e, es[i]? = some e -> Rw w W0.heap.size c (16 * i + 6) 5 1 e.s3 e.l3.length (M.bv e.l3)
 e4 : ∀ i e, es[i]? = some e -> Rw w W0.heap.size c (16 * i + 7) 117 3 e.s4 e.l4.length (M.tc e.l4)
 d1 : ∀ j d, ds[j]? = some d -> Rw w W0.heap.size c (16 * j + 8) 57 1 d.v d.l.length (S.en S.eU d.l)
 d2 : ∀ j d, us[j]? = some d -> Rw w W0.heap.size c (16 * j + 9) 57 1 d.v d.l.length (S.en S.eU d.l)
structure NR (W0 w : World) (c : Nat -> Nat) (n : Nat) (e : KE) : Prop where
 e1 : Rw w W0.heap.size c (16 * n + 4) 5 1 e.s1 e.l1.length (M.bv e.l1)
 e2 : Rw w W0.heap.size c (16 * n + 5) 117 3 e.s2 e.l2.length (M.tc e.l2)
 e3 : Rw w W0.heap.size c (16 * n + 6) 5 1 e.s3 e.l3.length (M.bv e.l3)
 e4 : Rw w W0.heap.size c (16 * n + 7) 117 3 e.s4 e.l4.length (M.tc e.l4)
section
variable {W0 w w' : World} {c c' : Nat -> Nat} {a b a' : MB} {u v u' : VS} {vo vd vw : Value} {es : List KE} {ds us : List DE} {k lo : Nat}
theorem BK.fresh (h : BK W0 w c a b u v vo vd vw es ds us) (p : Wr w w' c c' 0) (z : ZI W0 w' c' a' b u' v) : BK W0 w' c' a' b u' v vo vd vw es ds us :=
 ⟨z, h.o.sp p (by omega), h.d.sp p (by omega), h.q.sp p (by omega), fun i e q => (h.e1 i e q).sp p (by omega), fun i e q => (h.e2 i e q).sp p (by omega), fun i e q => (h.e3 i e q).sp p (by omega), fun i e q => (h.e4 i e q).sp p (by omega), fun i e q => (h.d1 i e q).sp p (by omega), fun i e q => (h.d2 i e q).sp p (by omega)⟩
theorem BK.below (h : BK W0 w c a b u v vo vd vw es ds us) (k : Below w.heap.size w w') : BK W0 w' c a b u v vo vd vw es ds us := h.fresh (Wr.below k) (h.z.below k)
theorem NR.below {n : Nat} {e : KE} (h : NR W0 w c n e) (k : Below w.heap.size w w') : NR W0 w' c n e := ⟨h.e1.below k, h.e2.below k, h.e3.below k, h.e4.below k⟩
theorem ZI.new (h : ZI W0 w c a b u v) (k : Below w.heap.size w w') (he : ∀ i, i < w.heap.size -> c' i = c i) : ZI W0 w' c' a b u v :=
 ⟨h.ti.idle k, fun i hi => (he i (MB.lt h.ti.two.ma i hi)).trans (h.za i hi), fun i hi => (he i (MB.lt h.ti.two.mb i hi)).trans (h.zb i hi), fun i hi => (he i (Nat.lt_of_lt_of_le hi h.ti.bel.size)).trans (h.zl i hi)⟩
theorem BK.frame {p1 p2 : Option Addr} {c1 c2 : Nat} {l1 : List UInt8} {l2 : List (Int × Int × Int)} (h : BK W0 w c a b u v vo vd vw es ds us) (f : FB w w' lo a a' u') (hc : calls u'.R = u'.o.length) (r1 : M.Row w' lo (.slice p1 l1.length c1) l1) (r2 : M.TRow w' lo (.slice p2 l2.length c2) l2) :
  ∃ c', BK W0 w' c' a' b u' v vo vd vw es ds us /\ Rw w' W0.heap.size c' (16 * es.length + 4) 5 1 (.slice p1 l1.length c1) l1.length (M.bv l1) /\ Rw w' W0.heap.size c' (16 * es.length + 5) 117 3 (.slice p2 l2.length c2) l2.length (M.tc l2) := by
 obtain ⟨z, p, q1, q2⟩ := h.z.left f hc r1 r2 h.z.ti.bel.size (16 * es.length + 4) (16 * es.length + 5)
 exact ⟨_, h.fresh p z, q1, q2⟩
theorem BK.copies {p1 p2 : Option Addr} {c1 c2 : Nat} {l1 : List UInt8} {l2 : List (Int × Int × Int)} (h : BK W0 w c a b u v vo vd vw es ds us) (k : Below w.heap.size w w') (r1 : M.Row w' w.heap.size (.slice p1 l1.length c1) l1) (r2 : M.TRow w' w.heap.size (.slice p2 l2.length c2) l2) :
  ∃ c', BK W0 w' c' a b u v vo vd vw es ds us /\ Wr w w' c c' 0 /\ Rw w' W0.heap.size c' (16 * es.length + 6) 5 1 (.slice p1 l1.length c1) l1.length (M.bv l1) /\ Rw w' W0.heap.size c' (16 * es.length + 7) 117 3 (.slice p2 l2.length c2) l2.length (M.tc l2) := by
 have f := FB.same h.z.ti.two.ma k
 have e0 : ∀ i, i < w.heap.size -> exf w c (.slice p1 l1.length c1) (.slice p2 l2.length c2) (16 * es.length + 6) (16 * es.length + 7) i = c i := fun i hi => if_pos hi
 have p : Wr w w' c (exf w c (.slice p1 l1.length c1) (.slice p2 l2.length c2) (16 * es.length + 6) (16 * es.length + 7)) 0 := ⟨(Wr.below k : Wr w w' c c 0).t, e0⟩
 have g1 := fun g e => (World.ownsRow.lt r1 g e).1
 have g2 := fun g e => (World.ownsRow.lt r2 g e).1
 refine ⟨_, h.fresh p (h.z.new k e0), p, ⟨S.own_mono r1 h.z.ti.bel.size, fun g e => ?_⟩, ⟨S.own_mono r2 h.z.ti.bel.size, fun g e => ?_⟩⟩
 ·have := g1 g e
  unfold exf
  rw [if_neg (by omega), if_pos e]
 ·have := g2 g e
  unfold exf
  rw [if_neg (by omega), if_neg (fun e' => ?_), if_pos e]
  obtain ⟨x1, q1⟩ := M.own_block r1 g e'
  obtain ⟨x2, q2⟩ := M.own_block r2 g e
  rw [q1] at q2; simp at q2
theorem BK.push {e : KE} {vo' : Value} (h : BK W0 w c a b u v vo vd vw es ds us) (n : NR W0 w c es.length e) (g : S.Grew w w' vo vo') (hr : w'.ownsRow W0.heap.size 68 14 vo' (es.length + 1) (S.en eKE es ++ eKE e)) :
  BK W0 w' (ext w c 1) a b u v vo' vd vw (es ++ [e]) ds us := by
 obtain ⟨o', p⟩ := h.o.grew g hr
 refine ⟨h.z.sp p (by omega), ?_, h.d.sp p (by omega), h.q.sp p (by omega), fam_snoc (fun i e q => (h.e1 i e q).sp p (by omega)) (n.e1.sp p (by omega)), fam_snoc (fun i e q => (h.e2 i e q).sp p (by omega)) (n.e2.sp p (by omega)), fam_snoc (fun i e q => (h.e3 i e q).sp p (by omega)) (n.e3.sp p (by omega)), fam_snoc (fun i e q => (h.e4 i e q).sp p (by omega)) (n.e4.sp p (by omega)), fun i e q => (h.d1 i e q).sp p (by omega), fun i e q => (h.d2 i e q).sp p (by omega)⟩
 rw [List.length_append, S.en_append, S.en_cons, S.en_nil, List.append_nil]
 exact o'
theorem BK.row {x : Value} {l : List Int} (h : BK W0 w c a b u v vo vd vw es ds us) (k : Below w.heap.size w w') (r : w'.ownsRow w.heap.size 57 1 x l.length (S.en S.eU l)) (q : Nat) :
  BK W0 w' (ext w c q) a b u v vo vd vw es ds us /\ Rw w' W0.heap.size (ext w c q) q 57 1 x l.length (S.en S.eU l) := by
 obtain ⟨r', p⟩ := Rw.new (c := c) k r h.z.ti.bel.size q 0
 exact ⟨h.fresh p (h.z.new k p.eq), r'⟩
theorem BK.pushd {x : DE} {vd' : Value} (h : BK W0 w c a b u v vo vd vw es ds us) (n : Rw w W0.heap.size c (16 * ds.length + 8) 57 1 x.v x.l.length (S.en S.eU x.l)) (g : S.Grew w w' vd vd') (hr : w'.ownsRow W0.heap.size 37 1 vd' (ds.length + 1) (ds.map DE.v ++ [x.v])) :
  BK W0 w' (ext w c 2) a b u v vo vd' vw es (ds ++ [x]) us := by
 obtain ⟨o', p⟩ := h.d.grew g hr
 refine ⟨h.z.sp p (by omega), h.o.sp p (by omega), ?_, h.q.sp p (by omega), fun i e q => (h.e1 i e q).sp p (by omega), fun i e q => (h.e2 i e q).sp p (by omega), fun i e q => (h.e3 i e q).sp p (by omega), fun i e q => (h.e4 i e q).sp p (by omega), fam_snoc (fun i e q => (h.d1 i e q).sp p (by omega)) (n.sp p (by omega)), fun i e q => (h.d2 i e q).sp p (by omega)⟩
 rw [List.length_append, List.map_append]
 exact o'
theorem BK.pushw {x : DE} {vw' : Value} (h : BK W0 w c a b u v vo vd vw es ds us) (n : Rw w W0.heap.size c (16 * us.length + 9) 57 1 x.v x.l.length (S.en S.eU x.l)) (g : S.Grew w w' vw vw') (hr : w'.ownsRow W0.heap.size 37 1 vw' (us.length + 1) (us.map DE.v ++ [x.v])) :
  BK W0 w' (ext w c 3) a b u v vo vd vw' es ds (us ++ [x]) := by
 obtain ⟨o', p⟩ := h.q.grew g hr
 refine ⟨h.z.sp p (by omega), h.o.sp p (by omega), h.d.sp p (by omega), ?_, fun i e q => (h.e1 i e q).sp p (by omega), fun i e q => (h.e2 i e q).sp p (by omega), fun i e q => (h.e3 i e q).sp p (by omega), fun i e q => (h.e4 i e q).sp p (by omega), fun i e q => (h.d1 i e q).sp p (by omega), fam_snoc (fun i e q => (h.d2 i e q).sp p (by omega)) (n.sp p (by omega))⟩
 rw [List.length_append, List.map_append]
 exact o'
theorem BK.mkk (h : BK W0 w c a b u v vo vd vw es ds us) : MK w c W0.heap.size w c vo vd es es ds :=
 ⟨S.Tc.refl _ _, fun _ _ => rfl, h.z.ti.bel.size, rfl, h.o, h.d, h.e1, h.e2, h.d1⟩
theorem tm0 : ¬ tm 0 := by rintro (h | h | h | h | h) <;> omega
theorem BK.ai {w1 : World} (h : BK W0 w c a b u v vo vd vw es ds us) (m : MpX w w1 c W0.heap.size vo es) : ∃ c1 es1, es1.length = es.length /\ es1.map wasE = es.map wasE /\ AI W0.heap.size w1 w1 c1 W0.heap.size b v vo es1 := by
 obtain ⟨c1, es1, t, heq, hw, hl, o⟩ := m
 have hrow : ∀ {k : Nat} {ty : TypeId} {s : Nat} {x : Value} {n : Nat} {xs : List Value}, Rw w W0.heap.size c k ty s x n xs -> ¬ tm k -> Rw w1 W0.heap.size c1 k ty s x n xs := fun r hn =>
  ⟨S.own_kept r.1 fun g e hg => t.block g hg (by rw [r.2 g e]; exact hn), fun g e => (heq g (r.1.lt g e).2).trans (r.2 g e)⟩
 have hb : b.mv w1 v := MB.kept h.z.ti.two.mb (fun i hi => t.block i (MB.lt h.z.ti.two.mb i hi) (by rw [h.z.zb i hi]; exact tm0)) t.size
 have hwas : ∀ (i : Nat) (e' : KE), es1[i]? = some e' -> ∃ e : KE, es[i]? = some e /\ e'.s3 = e.s3 /\ e'.s4 = e.s4 /\ e'.l3 = e.l3 /\ e'.l4 = e.l4 := fun i e' he => by
  have hi : i < es.length := by rw [<- hl]; exact (List.getElem?_eq_some_iff.1 he).1
  have q := was_at hw he (List.getElem?_eq_getElem hi)
  simp only [wasE, Prod.mk.injEq] at q
  exact ⟨_, List.getElem?_eq_getElem hi, q.2⟩
 refine ⟨c1, es1, hl, hw, ⟨hb, h.z.ti.cb, Below.refl _ _, h.z.ti.lb, fun i hi => (heq i (MB.lt h.z.ti.two.mb i hi)).trans (h.z.zb i hi), o, fun i e' he => ?_, fun i e' he => ?_⟩⟩
 ·obtain ⟨e, h0, q1, q2, q3, q4⟩ := hwas i e' he
  rw [q1, q3]
  exact hrow (h.e3 i e h0) (by unfold tm; omega)
 ·obtain ⟨e, h0, q1, q2, q3, q4⟩ := hwas i e' he
  rw [q2, q4]
  exact hrow (h.e4 i e h0) (by unfold tm; omega)
end
open Go.Proofs.YtoemoiehjdmheaaGreat.R (chk Bk)
open Go.Proofs.YtoemoiehjdmheaaGreat.Y (Nd Df Ps Pl hid ZV DV BV BS rgN rgN_is rgD nl)
set_option linter.unusedVariables false
set_option linter.unusedSimpArgs false
set_option maxHeartbeats 40000000
set_option maxRecDepth 100000
theorem lsl {W : World} {p : Option Addr} {n c : Nat} {l : List Int} (h : S.Ls S.eU 1 W (.slice p n c) l) : S.Sl S.eU 1 W p l := by
 obtain ⟨p', c', e, _, h⟩ := h.ex
 injection e with e1
 rw [e1]; exact h
theorem same_b (p p' : Option Addr) (c c' : Nat) (l : List Int) (hl : l.length <= S.room) (w : World) (h : S.Sl S.eU 1 w p l) (h' : S.Sl S.eU 1 w p' l) :
  Calls Tryz.prog 20 #[.slice p l.length c, .slice p' l.length c'] w fun e w' => e = .returned (.bool true) /\ Below w.heap.size w w' :=
 (S.sameU p p' c c' l hl w h h').mono fun e w' ⟨h1, q, h2⟩ => ⟨h1, by rw [h2]; exact drewNB _ _⟩
theorem EF.was {o : FO} {e e' : KE} (h : EF o e) (q : wasE e' = wasE e) : EF o e' := by
 simp only [wasE, Prod.mk.injEq, List.cons.injEq, and_true] at q
 obtain ⟨⟨q0, q1, q2, q3, q4⟩, _, _, q5, q6⟩ := q
 exact ⟨q0.trans h.a0, q1.trans h.a1, q2.trans h.a2, q3.trans h.a3, q4.trans h.a4, q5.trans h.l3, q6.trans h.l4⟩
theorem BK.belm {W0 w w1 : World} {c : Nat -> Nat} {a b : MB} {u v : VS} {vo vd vw : Value} {es : List KE} {ds us : List DE} (h : BK W0 w c a b u v vo vd vw es ds us) (m : MpX w w1 c W0.heap.size vo es) : Below W0.heap.size W0 w1 := by
 obtain ⟨c1, es1, t, _⟩ := m
 refine h.z.ti.bel.trans (S.Tc.below t h.z.ti.bel.size fun i hi => ?_)
 apply Decidable.byContradiction
 intro q
 have : c i = 0 := h.z.zl i (by omega)
 rw [this] at hi
 exact tm0 hi
theorem infoKept : (Tryz.prog.info? 68).map (fun i => (i.zero, i.size, i.bytes)) = some (some (.agg #[.int .i64 0, .int .i64 0, .int .i64 0, .int .i64 0, .int .i64 0, .slice none 0 0, .slice none 0 0, .int .i64 0, .int .i64 0, .int .i64 0, .int .i64 0, .int .i64 0, .slice none 0 0, .slice none 0 0]), 14, 176) := by kernel_rfl
structure LQ (v0 : VS) (zs : List Int) (ps : List UInt8) (k : Nat) (es : List KE) (ds us : List DE) : Prop where
 k10 : k <= 10
 n : es.length = k
 nd : ds.length = 2 * k
 nu : us.length = 2 * k
 l : ds.map DE.l = us.map DE.l
 l8 : ∀ d ∈ ds, d.l.length <= 256
 ef : ∀ i e x, es[i]? = some e -> ps[i]? = some x -> EF (fo (hv v0 zs ps i) x (bud zs i).1) e
 fm : ∀ e ∈ es, e.l3 = e.l1 /\ e.l4 = e.l2 /\ e.l1.length <= 1000000 /\ e.l2.length <= 1000000
theorem apart_walk (ds : List Df) (bs : List Bk) (hd1 : ds.length <= 1048576) (hdd : ∀ d ∈ ds, Y.nl d.body <= 1048576 /\ d.nm.size <= maxLen /\ rgD d) (hb1 : bs.length <= 1048576) (hb2 : ∀ d ∈ bs, d.2.length <= 1048576) (zs : List Int) (ps : List UInt8) (hps : ps.length <= 1048576) (dv bkv pv : Value) (zp : Option Addr) (zc : Nat) (w : World) (hD : DV w (· < w.heap.size) dv ds) (hK : BV w (· < w.heap.size) bkv bs) (hz : Is w zp zs) (hp : BS w (· < w.heap.size) pv ps) :
  Calls Tryz.prog 6 #[.agg #[dv, bkv], .agg #[.slice zp zs.length zc, pv]] w fun e w' => e = .returned (.bool true) /\ Below w.heap.size w w' := by
 obtain ⟨q1, d1, rfl, _, _⟩ := id hD
 obtain ⟨q2, d2, rfl, _⟩ := id hK
 obtain ⟨q3, d3, rfl⟩ := hp.ex
 obtain ⟨W0, hW0⟩ : ∃ W0, (w.alloc (.cells #[.slice q1 ds.length d1, .slice q2 bs.length d2] 47)).alloc (.cells #[.slice zp zs.length zc, .slice q3 ps.length d3] 50) = W0 := ⟨_, rfl⟩
 have hB0 : Below w.heap.size w W0 := by rw [<- hW0]; exact ((Below.refl _ w).alloc (Nat.le_refl _) _).alloc (by simp) _
 have hu0 : W0.heap[w.heap.size]? = some (.cells #[.slice q1 ds.length d1, .slice q2 bs.length d2] 47 (0, 0)) := by rw [<- hW0]; exact heap_alloc2_old w _ _
 have hu1 : W0.heap[w.heap.size + 1]? = some (.cells [.slice zp zs.length zc, .slice q3 ps.length d3].toArray 50 (0, 0)) := by rw [<- hW0]; exact heap_alloc2_new w _ _
 have k1 := Y.own_prog ds bs _ _ _ W0 (fun i hi => Nat.lt_of_lt_of_le hi hB0.size) (hD.below hB0 fun _ h => h) (hK.below hB0 fun _ h => h) hd1 (fun d hd => (hdd d hd).1) hb1 hb2
 have HL := hid (fun (w' : World) (b : Below W0.heap.size W0 w') => show w'.heap[w.heap.size + 1]? = some (.cells [.slice zp zs.length zc, .slice q3 ps.length d3].toArray 50 (0, 0)) /\ Is w' zp zs /\ BS w' (· < w.heap.size) (.slice q3 ps.length d3) ps /\ w'.heap[w.heap.size]? = some (.cells #[.slice q1 ds.length d1, .slice q2 bs.length d2] 47 (0, 0)) /\ DV w' (· < w.heap.size) (.slice q1 ds.length d1) ds /\ BV w' (· < w.heap.size) (.slice q2 bs.length d2) bs from
  ⟨(b.block _ (S.lt_of hu1)).trans hu1, (hz.below rfl hB0).below rfl b, (hp.below hB0 fun _ h => h).kept (fun i hi => b.block i (Nat.lt_of_lt_of_le hi hB0.size)) fun _ h => h, (b.block _ (S.lt_of hu0)).trans hu0, (hD.below hB0 fun _ h => h).below b fun i hi => Nat.lt_of_lt_of_le hi hB0.size, (hK.below hB0 fun _ h => h).below b fun i hi => Nat.lt_of_lt_of_le hi hB0.size⟩)
 have HW0 := hid hW0
 have HB0 := hid hB0
 have HH := hid (And.intro hdd (And.intro hb1 (And.intro hps (And.intro hd1 hb2))))
 have na := awake_any
 clear hW0 hB0 hu1 hD hK hz hp hdd hd1 hb2 hb1
 go_enter Tryz.func6, Tryz.ntmps6
 go_upto_region 1 with fail
 rw [HW0.out]
 go_wp2_with (refine wpList_load_row rfl 47 _ rfl w.heap.size rfl 47 _ (0, 0) _ hu0 Tryz.underlying47 rfl (by exact sizeG) ?_)
 refine k1.mono ?_
 rintro e w1 ⟨dv', bp, bc, rfl, hD1, hK1, hN1, h1⟩
 obtain ⟨p1', e1', rfl, _, _⟩ := id hD1
 have HB1 := hid h1
 clear k1 hu0
 have own2 := hid (fun (wx : World) (b : Below W0.heap.size W0 wx) => Y.own_prog ds bs _ _ _ wx (fun i hi => Nat.lt_of_lt_of_le hi (Nat.le_trans HB0.out.size b.size)) (HL.out wx b).2.2.2.2.1 (HL.out wx b).2.2.2.2.2 HH.out.2.2.2.1 (fun d hd => (HH.out.1 d hd).1) HH.out.2.1 HH.out.2.2.2.2)
 by_cases hm : newE ds bs = 0
 case neg =>
  as_aux_lemma =>
   have k2 := new_no ds bs (fun d hd => (HH.out.1 d hd).2.1) HH.out.2.1 _ bp bc _ w1 (fun _ h => h.2) hD1 hK1 hm
   have HNO := hid (fun (dv2 : Value) (bp2 : Option Addr) (bc2 : Nat) (O : Nat -> Prop) (wx : World) h1 h2 h3 => new_no ds bs (fun d hd => (HH.out.1 d hd).2.1) HH.out.2.1 dv2 bp2 bc2 O wx h1 h2 h3 hm)
   have e2 : (newE ds bs != 0) = true := by simpa using hm
   generalize newE ds bs = E at *
   go_wp2_with fail
   refine k2.mono ?_
   rintro e w2 ⟨rfl, h2⟩
   have HB2 := hid (trB HB1.out h2 HB1.out.size)
   have l4 := (HL.out w2 HB2.out).2.2.2.1
   have k3 := own2.out w2 HB2.out
   clear k2 h2 hD1 hK1 hN1 h1
   go_wp2_with (refine wpList_load_row rfl 47 _ rfl w.heap.size rfl 47 _ (0, 0) _ l4 Tryz.underlying47 rfl (by exact sizeG) ?_)
   refine k3.mono ?_
   rintro e w3 ⟨dv3, bp3, bc3, rfl, hD3, hK3, hN3, h3⟩
   obtain ⟨p3', e3', rfl, _, _⟩ := id hD3
   have k4 := HNO.out _ bp3 bc3 _ w3 (fun _ h => h.2) hD3 hK3
   have HB3 := hid (trB HB2.out h3 HB2.out.size)
   clear k3 h3 hD3 hK3 hN3 l4
   go_wp2_with fail
   refine k4.mono ?_
   rintro e w4 ⟨rfl, h4⟩
   have HB4 := hid (trB HB3.out h4 HB3.out.size)
   clear k4 h4
   go_wp2_with (first | (go_at_call 13; refine (na _).mono ?_; rintro e we ⟨rfl, he⟩) | (go_at_call 9; refine (num_any _ _).mono ?_; rintro e wn ⟨rfl, hwn⟩; rw [hwn]; clear hwn wn))
   go_ret
   exact ⟨rfl, trB HB0.out (trB HB4.out he HB4.out.size) HB0.out.size⟩
 have k2 := new_yes ds bs (fun d hd => (HH.out.1 d hd).2.1) HH.out.2.1 _ bp bc _ w1 (fun _ h => h.2) hD1 hK1 hm (fun d hd => (HH.out.1 d hd).2.2) (fun d hd => (HH.out.1 d hd).1) hN1
 go_wp2_with fail
 refine k2.mono ?_
 rintro e w2 ⟨g, bd, br, bm, bq, c1, F, U, rfl, hM, hF, h2⟩
 have HB2 := hid (trB HB1.out h2 HB1.out.size)
 have HM := hid (And.intro hM (And.intro hF h2))
 have l4 := (HL.out w2 HB2.out).2.2.2.1
 have k3 := own2.out w2 HB2.out
 clear k2 h2 hM hF hD1 hK1 hN1 h1 own2
 go_wp2_with (refine wpList_load_row rfl 47 _ rfl w.heap.size rfl 47 _ (0, 0) _ l4 Tryz.underlying47 rfl (by exact sizeG) ?_)
 refine k3.mono ?_
 rintro e w3 ⟨dv3, bp3, bc3, rfl, hD3, hK3, hN3, h3⟩
 obtain ⟨p3', e3', rfl, _, _⟩ := id hD3
 have k4 := new_yes ds bs (fun d hd => (HH.out.1 d hd).2.1) HH.out.2.1 _ bp3 bc3 _ w3 (fun _ h => h.2) hD3 hK3 hm (fun d hd => (HH.out.1 d hd).2.2) (fun d hd => (HH.out.1 d hd).1) hN3
 have HB3 := hid h3
 clear k3 h3 hD3 hK3 hN3 l4
 go_wp2_with fail
 refine k4.mono ?_
 rintro e w4 ⟨g', bd', br', bm', bq', c2, F', U', rfl, hM4, hF4, h4⟩
 have hTI := TI.first (a := ⟨g, bd, br, bm, bq, c1, F, U⟩) (b := ⟨g', bd', br', bm', bq', c2, F', U'⟩) HB1.out HM.out.1 HM.out.2.1 HM.out.2.2 hM4 (fresh_mono hF4 HB3.out.size) (trB HB3.out h4 HB3.out.size) rfl rfl
 have HT := hid hTI
 clear k4 h4 hM4 hF4 hTI
 go_wp2_with (first | (go_at_call 13; refine (na _).mono ?_; rintro e we ⟨rfl, he⟩) | (go_at_call 9; refine (num_any _ _).mono ?_; rintro e wn ⟨rfl, hwn⟩; rw [hwn]; clear hwn wn))
 have hBK : BK W0 we (fun _ => 0) ⟨g, bd, br, bm, bq, c1, F, U⟩ ⟨g', bd', br', bm', bq', c2, F', U'⟩ (born ds bs) (born ds bs) (.slice none 0 0) (.slice none 0 0) (.slice none 0 0) [] [] [] :=
  ⟨⟨HT.out.idle he, fun _ _ => rfl, fun _ _ => rfl, fun _ _ => rfl⟩, ⟨World.ownsRow_nil _ _ _ _, fun g e => by simp [Value.ownBlock] at e⟩, ⟨World.ownsRow_nil _ _ _ _, fun g e => by simp [Value.ownBlock] at e⟩, ⟨World.ownsRow_nil _ _ _ _, fun g e => by simp [Value.ownBlock] at e⟩, fun i e q => by simp at q, fun i e q => by simp at q, fun i e q => by simp at q, fun i e q => by simp at q, fun i e q => by simp at q, fun i e q => by simp at q⟩
 have HBK := hid hBK
 clear HT hBK he HB2 HM HB3 hm na
 obtain ⟨v0, hv0⟩ : ∃ v0, v0 = born ds bs := ⟨_, rfl⟩
 rw [<- hv0] at HBK
 clear hv0
 go_wp2
 go_loopw [9, 10, 11, 12] (fun vo vd vw i wr => ∃ (k : Nat) (a b : MB) (c : Nat -> Nat) (es : List KE) (dl ul : List DE), k <= ps.length /\ i = .int .i64 (k : Int) /\ a.g = g /\ b.g = g' /\ BK W0 wr c a b (hv v0 zs ps k) v0 vo vd vw es dl ul /\ LQ v0 zs ps k es dl ul) (fun _ _ _ i _ => ps.length - (intOf i).toNat)
 case atStart => exact ⟨0, _, _, _, [], [], [], Nat.zero_le _, rfl, rfl, rfl, HBK.out, ⟨by omega, rfl, rfl, rfl, rfl, fun d h => by simp at h, fun i e x h => by simp at h, fun e h => by simp at h⟩⟩
 case round =>
  clear HBK
  obtain ⟨k, a, b, c, es, dl, ul, hk, rfl, hga, hgb, hB, hQ⟩ := hrel
  obtain ⟨po, co, rfl⟩ := hB.o.ex
  obtain ⟨pd, cd, rfl⟩ := hB.d.ex
  obtain ⟨pw, cw, rfl⟩ := hB.q.ex
  obtain ⟨hlb, hzs, hpd, _, _, _⟩ := HL.out wr hB.z.ti.bel
  have l1 := S.cell_of _ _ 1 _ _ _ hlb rfl
  by_cases hk1 : k < ps.length
  case neg =>
   as_aux_lemma =>
    have d1 : ¬ (k : Int) < ps.length := fun h => hk1 (Int.ofNat_lt.mp h)
    have HX := hid (And.intro hk (And.intro hgb (And.intro hB hQ)))
    clear hzs hpd hlb hB hQ hgb
    go_wp2
    obtain ⟨hk, hgb, hB, hQ⟩ := HX.out
    have hn10 : es.length <= 10 := by rw [hQ.n]; exact hQ.k10
    have hd20 : dl.length <= 20 := by rw [hQ.nd]; have := hQ.k10; omega
    have HB := hid hB
    have HQ := hid (And.intro hQ (And.intro hgb (And.intro hn10 hd20)))
    clear hB hQ hgb HX hn10 hd20
    go_loopw [102] (fun i w5 => ∃ (t : Nat), t <= es.length /\ i = .int .i64 (t : Int) /\ BK W0 w5 c a b (hv v0 zs ps k) v0 (.slice po es.length co) (.slice pd dl.length cd) (.slice pw ul.length cw) es dl ul) (fun i _ => es.length - (intOf i).toNat)
    case atStart => exact ⟨0, Nat.zero_le _, rfl, HB.out⟩
    case round =>
     clear HB
     obtain ⟨t, ht, rfl, hB⟩ := hrel
     by_cases hlt : t < es.length
     ·have i2 : (t : Int) < es.length := Int.ofNat_lt.mpr hlt
      obtain ⟨e, he⟩ : ∃ e, es[t]? = some e := ⟨_, List.getElem?_eq_getElem hlt⟩
      have hfm := HQ.out.1.fm e (List.mem_of_getElem? he)
      obtain ⟨a0, a1, a2, a3, a4, s1, s2, s3, s4, l1, l2, l3, l4⟩ := e
      simp only at hfm
      obtain ⟨rfl, rfl, hl1, hl2⟩ := hfm
      have r1 := hB.e1 t _ he
      have r2 := hB.e2 t _ he
      have r3 := hB.e3 t _ he
      have r4 := hB.e4 t _ he
      obtain ⟨p1, c1, e1⟩ := r1.ex
      obtain ⟨p2, c2, e2⟩ := r2.ex
      obtain ⟨p3, c3, e3⟩ := r3.ex
      obtain ⟨p4, c4, e4⟩ := r4.ex
      simp only at e1 e2 e3 e4
      subst e1 e2 e3 e4
      obtain ⟨go, cg, hgo⟩ := hB.o.pos (Nat.lt_of_le_of_lt (Nat.zero_le _) hlt)
      obtain ⟨rfl, rfl⟩ : po = some ⟨go, 0, none⟩ /\ co = cg := by simp only [Value.slice.injEq] at hgo; exact ⟨hgo.1, hgo.2.2⟩
      have HZ := hid (fun (wz : World) (kk : Below wr.heap.size wr wz) (j : Nat) (u : Value) (hj : (eKE ⟨a0, a1, a2, a3, a4, .slice p1 l3.length c1, .slice p2 l4.length c2, .slice p3 l3.length c3, .slice p4 l4.length c4, l3, l4, l3, l4⟩)[j]? = some u) => show wz.cell? ⟨go, t * 14 + j, none⟩ = some u from
       ((hB.o.below kk).cell (t * 14 + j) u (by rw [S.en_get hKE es t j _ he (by rw [<- hKE]; exact (List.getElem?_eq_some_iff.1 hj).1)]; exact hj)).1)
      have K9 := hid (fun (wz : World) (kk : Below wr.heap.size wr wz) => outs_true a0 a1 a2 a3 a4 p1 p2 p3 p4 c1 c2 c3 c4 l3 l4 l3.length (by unfold maxLen; omega) rfl hl2 wz (r1.below kk).1 (r2.below kk).1 (r3.below kk).1 (r4.below kk).1)
      have HBB := hid hB
      clear hgo r1 r2 r3 r4 hB he hl1 hl2
      go_upto_region 25 with fail
      refine D.wp_region_drop [] (S := fun wz : World => wz.cell? ⟨go, t * 14, none⟩ = some (.int .i64 a0) /\ wz.cell? ⟨go, t * 14 + 1, none⟩ = some (.int .i64 a1) /\ wz.cell? ⟨go, t * 14 + 2, none⟩ = some (.int .i64 a2) /\ wz.cell? ⟨go, t * 14 + 3, none⟩ = some (.int .i64 a3) /\ wz.cell? ⟨go, t * 14 + 4, none⟩ = some (.int .i64 a4) /\ wz.cell? ⟨go, t * 14 + 5, none⟩ = some (.slice p1 l3.length c1) /\ wz.cell? ⟨go, t * 14 + 6, none⟩ = some (.slice p2 l4.length c2) /\ wz.cell? ⟨go, t * 14 + 7, none⟩ = some (.int .i64 a0) /\ wz.cell? ⟨go, t * 14 + 8, none⟩ = some (.int .i64 a1) /\ wz.cell? ⟨go, t * 14 + 9, none⟩ = some (.int .i64 a2) /\ wz.cell? ⟨go, t * 14 + 10, none⟩ = some (.int .i64 a3) /\ wz.cell? ⟨go, t * 14 + 11, none⟩ = some (.int .i64 a4) /\ wz.cell? ⟨go, t * 14 + 12, none⟩ = some (.slice p3 l3.length c3) /\ wz.cell? ⟨go, t * 14 + 13, none⟩ = some (.slice p4 l4.length c4)) (by kernel_rfl) (show (fun wz : World => wz.cell? ⟨go, t * 14, none⟩ = some (.int .i64 a0) /\ wz.cell? ⟨go, t * 14 + 1, none⟩ = some (.int .i64 a1) /\ wz.cell? ⟨go, t * 14 + 2, none⟩ = some (.int .i64 a2) /\ wz.cell? ⟨go, t * 14 + 3, none⟩ = some (.int .i64 a3) /\ wz.cell? ⟨go, t * 14 + 4, none⟩ = some (.int .i64 a4) /\ wz.cell? ⟨go, t * 14 + 5, none⟩ = some (.slice p1 l3.length c1) /\ wz.cell? ⟨go, t * 14 + 6, none⟩ = some (.slice p2 l4.length c2) /\ wz.cell? ⟨go, t * 14 + 7, none⟩ = some (.int .i64 a0) /\ wz.cell? ⟨go, t * 14 + 8, none⟩ = some (.int .i64 a1) /\ wz.cell? ⟨go, t * 14 + 9, none⟩ = some (.int .i64 a2) /\ wz.cell? ⟨go, t * 14 + 10, none⟩ = some (.int .i64 a3) /\ wz.cell? ⟨go, t * 14 + 11, none⟩ = some (.int .i64 a4) /\ wz.cell? ⟨go, t * 14 + 12, none⟩ = some (.slice p3 l3.length c3) /\ wz.cell? ⟨go, t * 14 + 13, none⟩ = some (.slice p4 l4.length c4)) wr.drew from ⟨HZ.out wr.drew (Below.refl _ _).drew 0 _ rfl, HZ.out wr.drew (Below.refl _ _).drew 1 _ rfl, HZ.out wr.drew (Below.refl _ _).drew 2 _ rfl, HZ.out wr.drew (Below.refl _ _).drew 3 _ rfl, HZ.out wr.drew (Below.refl _ _).drew 4 _ rfl, HZ.out wr.drew (Below.refl _ _).drew 5 _ rfl, HZ.out wr.drew (Below.refl _ _).drew 6 _ rfl, HZ.out wr.drew (Below.refl _ _).drew 7 _ rfl, HZ.out wr.drew (Below.refl _ _).drew 8 _ rfl, HZ.out wr.drew (Below.refl _ _).drew 9 _ rfl, HZ.out wr.drew (Below.refl _ _).drew 10 _ rfl, HZ.out wr.drew (Below.refl _ _).drew 11 _ rfl, HZ.out wr.drew (Below.refl _ _).drew 12 _ rfl, HZ.out wr.drew (Below.refl _ _).drew 13 _ rfl⟩) (fun hHeld => ?_)
      have HD := hid (show Below wr.heap.size wr wr.drew from (Below.refl _ _).drew)
      have k9 := K9.out wr.drew HD.out
      generalize wr.drew = y3 at *
      refine D.zD (is := [0, 1, 2, 3, 4, 5, 6, 7, 8, 9]) ?_
      iterate 10
       refine D.yD (v := ?_) rfl (by kernel_rfl) (fun c a w h => h) (by rfl) ?_ hHeld ?_
       rotate_left
       ·(intro w hSw; (try dsimp only at hSw); go_simp; try with_reducible rfl)
       simp only [D.pts]
      refine D.eD ?_
      refine D.wpD_ready (rs := [10]) (by kernel_rfl) (by simp) ?_
      refine D.AllD.cons rfl (fun K hK => ?_) D.AllD.nil
      go_simp
      refine k9.mono ?_
      rintro e' w9 ⟨rfl, h9⟩
      have H9 := hid (trB HD.out h9 HD.out.size)
      refine hK.out _ _ ⟨HZ.out w9 H9.out 0 _ rfl, HZ.out w9 H9.out 1 _ rfl, HZ.out w9 H9.out 2 _ rfl, HZ.out w9 H9.out 3 _ rfl, HZ.out w9 H9.out 4 _ rfl, HZ.out w9 H9.out 5 _ rfl, HZ.out w9 H9.out 6 _ rfl, HZ.out w9 H9.out 7 _ rfl, HZ.out w9 H9.out 8 _ rfl, HZ.out w9 H9.out 9 _ rfl, HZ.out w9 H9.out 10 _ rfl, HZ.out w9 H9.out 11 _ rfl, HZ.out w9 H9.out 12 _ rfl, HZ.out w9 H9.out 13 _ rfl⟩ (fun hHeld => ?_)
      clear hK K
      try simp only [D.pts]
      refine D.xP 11 (v := ?_) rfl (by kernel_rfl) (fun c a w h => h) (by rfl) ?_ (fun _ => hHeld) ?_
      rotate_left
      ·(intro w hSw; clear hSw; go_simp; try with_reducible rfl)
      simp only [D.pts]
      refine D.wpD_done (by kernel_rfl) ?_ _
      have hB9 := hid (HBB.out.below H9.out)
      clear hHeld k9
      have w1' : wrap64 ((t : Int) + 1) = ((t + 1 : Nat) : Int) := w1k t (by have := HQ.out.2.2.1; omega)
      go_wp2
      go_roundw
      case rel => exact ⟨t + 1, hlt, (by first | rw [w1'] | simp), hB9.out⟩
      case measure => exact msr2 es.length _ _ t (by first | rw [w1'] | simp) rfl hlt
     ·obtain rfl : t = es.length := by omega
      have i2 : ¬ (es.length : Int) < es.length := by omega
      have HB := hid hB
      clear hB
      go_wp2
      go_loopw [120] (fun i w5 => ∃ (t : Nat), t <= dl.length /\ i = .int .i64 (t : Int) /\ BK W0 w5 c a b (hv v0 zs ps k) v0 (.slice po es.length co) (.slice pd dl.length cd) (.slice pw ul.length cw) es dl ul) (fun i _ => dl.length - (intOf i).toNat)
      case atStart => exact ⟨0, Nat.zero_le _, rfl, HB.out⟩
      case round =>
       clear HB
       obtain ⟨t, ht, rfl, hB⟩ := hrel
       by_cases hlt : t < dl.length
       ·have i3 : (t : Int) < dl.length := Int.ofNat_lt.mpr hlt
        have hult : t < ul.length := by rw [HQ.out.1.nu, <- HQ.out.1.nd]; exact hlt
        have i4 : (t : Int) < ul.length := Int.ofNat_lt.mpr hult
        obtain ⟨d, he⟩ : ∃ e, dl[t]? = some e := ⟨_, List.getElem?_eq_getElem hlt⟩
        obtain ⟨d', he'⟩ : ∃ e, ul[t]? = some e := ⟨_, List.getElem?_eq_getElem hult⟩
        have hdl : d.l = d'.l := by
         have q : (dl.map DE.l)[t]? = (ul.map DE.l)[t]? := by rw [HQ.out.1.l]
         rw [List.getElem?_map, List.getElem?_map, he, he'] at q
         exact Option.some.inj q
        have h8 := HQ.out.1.l8 d (List.mem_of_getElem? he)
        have r1 := hB.d1 t d he
        have r2 := hB.d2 t d' he'
        obtain ⟨p1, c1, e1⟩ := r1.ex
        obtain ⟨p2, c2, e2⟩ := r2.ex
        rw [<- hdl] at r2 e2
        rw [e1] at r1
        rw [e2] at r2
        obtain ⟨gd, cg, hgo⟩ := hB.d.pos (Nat.lt_of_le_of_lt (Nat.zero_le _) hlt)
        obtain ⟨rfl, rfl⟩ : pd = some ⟨gd, 0, none⟩ /\ cd = cg := by simp only [Value.slice.injEq] at hgo; exact ⟨hgo.1, hgo.2.2⟩
        obtain ⟨gw, cgw, hgo2⟩ := hB.q.pos (Nat.lt_of_le_of_lt (Nat.zero_le _) hult)
        obtain ⟨rfl, rfl⟩ : pw = some ⟨gw, 0, none⟩ /\ cw = cgw := by simp only [Value.slice.injEq] at hgo2; exact ⟨hgo2.1, hgo2.2.2⟩
        have HZ := hid (fun (wz : World) (kk : Below wr.heap.size wr wz) => show wz.cell? ⟨gd, t, none⟩ = some (.slice p1 d.l.length c1) /\ wz.cell? ⟨gw, t, none⟩ = some (.slice p2 d.l.length c2) from
         ⟨((hB.d.below kk).cell t _ (by rw [List.getElem?_map, he, <- e1]; rfl)).1, ((hB.q.below kk).cell t _ (by rw [List.getElem?_map, he', <- e2]; rfl)).1⟩)
        have K9 := hid (fun (wz : World) (kk : Below wr.heap.size wr wz) => same_b p1 p2 c1 c2 d.l (by unfold S.room; omega) wz (lsl (S.own_sl S.hU (r1.below kk).1)) (lsl (S.own_sl S.hU (r2.below kk).1)))
        have HBB := hid hB
        clear hgo hgo2 r1 r2 hB he he' hdl h8 e1 e2 hult
        go_upto_region 31 with fail
        refine D.wp_region_drop [] (S := fun wz : World => wz.cell? ⟨gd, t, none⟩ = some (.slice p1 d.l.length c1) /\ wz.cell? ⟨gw, t, none⟩ = some (.slice p2 d.l.length c2)) (by kernel_rfl) (HZ.out wr.drew (Below.refl _ _).drew) (fun hHeld => ?_)
        have HD := hid (show Below wr.heap.size wr wr.drew from (Below.refl _ _).drew)
        have k9 := K9.out wr.drew HD.out
        generalize wr.drew = y3 at *
        refine D.zD (is := [0, 1, 2, 3, 4, 5, 6, 7]) ?_
        iterate 8
         refine D.yD (v := ?_) rfl (by kernel_rfl) (fun c a w h => h) (by rfl) ?_ hHeld ?_
         rotate_left
         ·(intro w hSw; (try dsimp only at hSw); go_simp; try with_reducible rfl)
         simp only [D.pts]
        refine D.eD ?_
        refine D.wpD_ready (rs := [8]) (by kernel_rfl) (by simp) ?_
        refine D.AllD.cons rfl (fun K hK => ?_) D.AllD.nil
        go_simp
        refine k9.mono ?_
        rintro e' w9 ⟨rfl, h9⟩
        have H9 := hid (trB HD.out h9 HD.out.size)
        refine hK.out _ _ (HZ.out w9 H9.out) (fun hHeld => ?_)
        clear hK K
        try simp only [D.pts]
        refine D.xP 9 (v := ?_) rfl (by kernel_rfl) (fun c a w h => h) (by rfl) ?_ (fun _ => hHeld) ?_
        rotate_left
        ·(intro w hSw; clear hSw; go_simp; try with_reducible rfl)
        simp only [D.pts]
        refine D.wpD_done (by kernel_rfl) ?_ _
        have hB9 := hid (HBB.out.below H9.out)
        clear hHeld k9
        have w1' : wrap64 ((t : Int) + 1) = ((t + 1 : Nat) : Int) := w1k t (by have := HQ.out.2.2.2; omega)
        go_wp2
        go_roundw
        case rel => exact ⟨t + 1, hlt, (by first | rw [w1'] | simp), hB9.out⟩
        case measure => exact msr2 dl.length _ _ t (by first | rw [w1'] | simp) rfl hlt
       ·obtain rfl : t = dl.length := by omega
        have i3 : ¬ (dl.length : Int) < dl.length := by omega
        have km := marks_any hB.mkk HQ.out.2.2.1 HQ.out.2.2.2 (fun e he => (HQ.out.1.fm e he).2.2) HQ.out.1.l8 (fun e he => by
         obtain ⟨i, hi⟩ := List.getElem?_of_mem he
         have hf := HQ.out.1.fm e he
         rw [<- hf.1, <- hf.2.1]
         exact ⟨(hB.e3 i e hi).ex, (hB.e4 i e hi).ex⟩)
        have HB := hid hB
        clear hB
        go_wp2_with fail
        refine km.mono ?_
        rintro e w6 ⟨rfl, hm6⟩
        have b6 := HB.out.belm hm6
        obtain ⟨c6, es6, hl6, hw6, hA6⟩ := HB.out.ai hm6
        rw [<- hl6] at hA6
        obtain ⟨hlb6, hz6, hp6, _, _, _⟩ := HL.out w6 b6
        have ka := alike_any zs ps HH.out.2.2.1 zp q3 zc d3 W0.heap.size W0.heap.size c6 b v0 po co es6 w6 hA6 b6.size hz6 (hp6.kept (fun _ _ => rfl) fun i hi => Nat.lt_of_lt_of_le hi HB0.out.size) (fun W' q => (HL.out W' (b6.trans q)).2.1) (by rw [hl6, HQ.out.1.n]; exact hk) (fun i e x he hx => by
         obtain ⟨e0, h0⟩ : ∃ e0, es[i]? = some e0 := ⟨_, List.getElem?_eq_getElem (by rw [<- hl6]; exact (List.getElem?_eq_some_iff.1 he).1)⟩
         exact (HQ.out.1.ef i e0 x h0 hx).was (was_at hw6 he h0))
        rw [HQ.out.2.1, hl6] at ka
        have HB6 := hid b6
        clear km hm6 hA6 hw6 hl6 hz6 hp6 b6
        have y0 := S.cell_of w6 (w.heap.size + 1) 0 _ _ _ hlb6 rfl
        have y1 := S.cell_of w6 (w.heap.size + 1) 1 _ _ _ hlb6 rfl
        go_wp2_with fail
        refine ka.mono ?_
        rintro e w7 ⟨rfl, h7⟩
        have hfin := trB HB0.out (HB6.out.trans h7) HB0.out.size
        clear ka h7
        go_wp2
        go_ret
        exact ⟨rfl, hfin⟩
  have d1 : (k : Int) < ps.length := Int.ofNat_lt.mpr hk1
  have kb := budget_any zs zp q3 zc ps.length d3 k wr hzs
  have hbb0 : (bud zs k).2 = true -> k < 10 := fun e => by
   unfold bud at e
   split at e
   ·simpa using e
   ·rename_i q; omega
  have HBD := hid (And.intro hbb0 (And.intro hB (And.intro hQ hgb)))
  clear hzs hB hQ hgb hbb0
  generalize hBB : bud zs k = BB at *
  obtain ⟨B, more⟩ := BB
  have HBB := hid hBB
  simp only at kb
  clear hBB
  go_wp2_with (refine wpList_load_row rfl 50 _ rfl (w.heap.size + 1) rfl 50 _ (0, 0) _ hlb Tryz.underlying50 rfl (by exact sizeL) ?_)
  refine kb.mono ?_
  rintro e wb ⟨rfl, hbb⟩
  have hB := HBD.out.2.1.below hbb
  obtain ⟨hlb, _, hpd, _, _, _⟩ := HL.out wb hB.z.ti.bel
  have l1 := S.cell_of wb _ 1 _ _ _ hlb rfl
  cases more with
  | false =>
   as_aux_lemma =>
    have HX := hid (And.intro hk (And.intro HBD.out.2.2.2 (And.intro hB HBD.out.2.2.1)))
    clear hpd hlb hB kb hbb HBD
    go_wp2
    obtain ⟨hk, hgb, hB, hQ⟩ := HX.out
    have hn10 : es.length <= 10 := by rw [hQ.n]; exact hQ.k10
    have hd20 : dl.length <= 20 := by rw [hQ.nd]; have := hQ.k10; omega
    have HB := hid hB
    have HQ := hid (And.intro hQ (And.intro hgb (And.intro hn10 hd20)))
    clear hB hQ hgb HX hn10 hd20
    go_loopw [102] (fun i w5 => ∃ (t : Nat), t <= es.length /\ i = .int .i64 (t : Int) /\ BK W0 w5 c a b (hv v0 zs ps k) v0 (.slice po es.length co) (.slice pd dl.length cd) (.slice pw ul.length cw) es dl ul) (fun i _ => es.length - (intOf i).toNat)
    case atStart => exact ⟨0, Nat.zero_le _, rfl, HB.out⟩
    case round =>
     clear HB
     obtain ⟨t, ht, rfl, hB⟩ := hrel
     by_cases hlt : t < es.length
     ·have i2 : (t : Int) < es.length := Int.ofNat_lt.mpr hlt
      obtain ⟨e, he⟩ : ∃ e, es[t]? = some e := ⟨_, List.getElem?_eq_getElem hlt⟩
      have hfm := HQ.out.1.fm e (List.mem_of_getElem? he)
      obtain ⟨a0, a1, a2, a3, a4, s1, s2, s3, s4, l1, l2, l3, l4⟩ := e
      simp only at hfm
      obtain ⟨rfl, rfl, hl1, hl2⟩ := hfm
      have r1 := hB.e1 t _ he
      have r2 := hB.e2 t _ he
      have r3 := hB.e3 t _ he
      have r4 := hB.e4 t _ he
      obtain ⟨p1, c1, e1⟩ := r1.ex
      obtain ⟨p2, c2, e2⟩ := r2.ex
      obtain ⟨p3, c3, e3⟩ := r3.ex
      obtain ⟨p4, c4, e4⟩ := r4.ex
      simp only at e1 e2 e3 e4
      subst e1 e2 e3 e4
      obtain ⟨go, cg, hgo⟩ := hB.o.pos (Nat.lt_of_le_of_lt (Nat.zero_le _) hlt)
      obtain ⟨rfl, rfl⟩ : po = some ⟨go, 0, none⟩ /\ co = cg := by simp only [Value.slice.injEq] at hgo; exact ⟨hgo.1, hgo.2.2⟩
      have HZ := hid (fun (wz : World) (kk : Below wr.heap.size wr wz) (j : Nat) (u : Value) (hj : (eKE ⟨a0, a1, a2, a3, a4, .slice p1 l3.length c1, .slice p2 l4.length c2, .slice p3 l3.length c3, .slice p4 l4.length c4, l3, l4, l3, l4⟩)[j]? = some u) => show wz.cell? ⟨go, t * 14 + j, none⟩ = some u from
       ((hB.o.below kk).cell (t * 14 + j) u (by rw [S.en_get hKE es t j _ he (by rw [<- hKE]; exact (List.getElem?_eq_some_iff.1 hj).1)]; exact hj)).1)
      have K9 := hid (fun (wz : World) (kk : Below wr.heap.size wr wz) => outs_true a0 a1 a2 a3 a4 p1 p2 p3 p4 c1 c2 c3 c4 l3 l4 l3.length (by unfold maxLen; omega) rfl hl2 wz (r1.below kk).1 (r2.below kk).1 (r3.below kk).1 (r4.below kk).1)
      have HBB := hid hB
      clear hgo r1 r2 r3 r4 hB he hl1 hl2
      go_upto_region 25 with fail
      refine D.wp_region_drop [] (S := fun wz : World => wz.cell? ⟨go, t * 14, none⟩ = some (.int .i64 a0) /\ wz.cell? ⟨go, t * 14 + 1, none⟩ = some (.int .i64 a1) /\ wz.cell? ⟨go, t * 14 + 2, none⟩ = some (.int .i64 a2) /\ wz.cell? ⟨go, t * 14 + 3, none⟩ = some (.int .i64 a3) /\ wz.cell? ⟨go, t * 14 + 4, none⟩ = some (.int .i64 a4) /\ wz.cell? ⟨go, t * 14 + 5, none⟩ = some (.slice p1 l3.length c1) /\ wz.cell? ⟨go, t * 14 + 6, none⟩ = some (.slice p2 l4.length c2) /\ wz.cell? ⟨go, t * 14 + 7, none⟩ = some (.int .i64 a0) /\ wz.cell? ⟨go, t * 14 + 8, none⟩ = some (.int .i64 a1) /\ wz.cell? ⟨go, t * 14 + 9, none⟩ = some (.int .i64 a2) /\ wz.cell? ⟨go, t * 14 + 10, none⟩ = some (.int .i64 a3) /\ wz.cell? ⟨go, t * 14 + 11, none⟩ = some (.int .i64 a4) /\ wz.cell? ⟨go, t * 14 + 12, none⟩ = some (.slice p3 l3.length c3) /\ wz.cell? ⟨go, t * 14 + 13, none⟩ = some (.slice p4 l4.length c4)) (by kernel_rfl) (show (fun wz : World => wz.cell? ⟨go, t * 14, none⟩ = some (.int .i64 a0) /\ wz.cell? ⟨go, t * 14 + 1, none⟩ = some (.int .i64 a1) /\ wz.cell? ⟨go, t * 14 + 2, none⟩ = some (.int .i64 a2) /\ wz.cell? ⟨go, t * 14 + 3, none⟩ = some (.int .i64 a3) /\ wz.cell? ⟨go, t * 14 + 4, none⟩ = some (.int .i64 a4) /\ wz.cell? ⟨go, t * 14 + 5, none⟩ = some (.slice p1 l3.length c1) /\ wz.cell? ⟨go, t * 14 + 6, none⟩ = some (.slice p2 l4.length c2) /\ wz.cell? ⟨go, t * 14 + 7, none⟩ = some (.int .i64 a0) /\ wz.cell? ⟨go, t * 14 + 8, none⟩ = some (.int .i64 a1) /\ wz.cell? ⟨go, t * 14 + 9, none⟩ = some (.int .i64 a2) /\ wz.cell? ⟨go, t * 14 + 10, none⟩ = some (.int .i64 a3) /\ wz.cell? ⟨go, t * 14 + 11, none⟩ = some (.int .i64 a4) /\ wz.cell? ⟨go, t * 14 + 12, none⟩ = some (.slice p3 l3.length c3) /\ wz.cell? ⟨go, t * 14 + 13, none⟩ = some (.slice p4 l4.length c4)) wr.drew from ⟨HZ.out wr.drew (Below.refl _ _).drew 0 _ rfl, HZ.out wr.drew (Below.refl _ _).drew 1 _ rfl, HZ.out wr.drew (Below.refl _ _).drew 2 _ rfl, HZ.out wr.drew (Below.refl _ _).drew 3 _ rfl, HZ.out wr.drew (Below.refl _ _).drew 4 _ rfl, HZ.out wr.drew (Below.refl _ _).drew 5 _ rfl, HZ.out wr.drew (Below.refl _ _).drew 6 _ rfl, HZ.out wr.drew (Below.refl _ _).drew 7 _ rfl, HZ.out wr.drew (Below.refl _ _).drew 8 _ rfl, HZ.out wr.drew (Below.refl _ _).drew 9 _ rfl, HZ.out wr.drew (Below.refl _ _).drew 10 _ rfl, HZ.out wr.drew (Below.refl _ _).drew 11 _ rfl, HZ.out wr.drew (Below.refl _ _).drew 12 _ rfl, HZ.out wr.drew (Below.refl _ _).drew 13 _ rfl⟩) (fun hHeld => ?_)
      have HD := hid (show Below wr.heap.size wr wr.drew from (Below.refl _ _).drew)
      have k9 := K9.out wr.drew HD.out
      generalize wr.drew = y3 at *
      refine D.zD (is := [0, 1, 2, 3, 4, 5, 6, 7, 8, 9]) ?_
      iterate 10
       refine D.yD (v := ?_) rfl (by kernel_rfl) (fun c a w h => h) (by rfl) ?_ hHeld ?_
       rotate_left
       ·(intro w hSw; (try dsimp only at hSw); go_simp; try with_reducible rfl)
       simp only [D.pts]
      refine D.eD ?_
      refine D.wpD_ready (rs := [10]) (by kernel_rfl) (by simp) ?_
      refine D.AllD.cons rfl (fun K hK => ?_) D.AllD.nil
      go_simp
      refine k9.mono ?_
      rintro e' w9 ⟨rfl, h9⟩
      have H9 := hid (trB HD.out h9 HD.out.size)
      refine hK.out _ _ ⟨HZ.out w9 H9.out 0 _ rfl, HZ.out w9 H9.out 1 _ rfl, HZ.out w9 H9.out 2 _ rfl, HZ.out w9 H9.out 3 _ rfl, HZ.out w9 H9.out 4 _ rfl, HZ.out w9 H9.out 5 _ rfl, HZ.out w9 H9.out 6 _ rfl, HZ.out w9 H9.out 7 _ rfl, HZ.out w9 H9.out 8 _ rfl, HZ.out w9 H9.out 9 _ rfl, HZ.out w9 H9.out 10 _ rfl, HZ.out w9 H9.out 11 _ rfl, HZ.out w9 H9.out 12 _ rfl, HZ.out w9 H9.out 13 _ rfl⟩ (fun hHeld => ?_)
      clear hK K
      try simp only [D.pts]
      refine D.xP 11 (v := ?_) rfl (by kernel_rfl) (fun c a w h => h) (by rfl) ?_ (fun _ => hHeld) ?_
      rotate_left
      ·(intro w hSw; clear hSw; go_simp; try with_reducible rfl)
      simp only [D.pts]
      refine D.wpD_done (by kernel_rfl) ?_ _
      have hB9 := hid (HBB.out.below H9.out)
      clear hHeld k9
      have w1' : wrap64 ((t : Int) + 1) = ((t + 1 : Nat) : Int) := w1k t (by have := HQ.out.2.2.1; omega)
      go_wp2
      go_roundw
      case rel => exact ⟨t + 1, hlt, (by first | rw [w1'] | simp), hB9.out⟩
      case measure => exact msr2 es.length _ _ t (by first | rw [w1'] | simp) rfl hlt
     ·obtain rfl : t = es.length := by omega
      have i2 : ¬ (es.length : Int) < es.length := by omega
      have HB := hid hB
      clear hB
      go_wp2
      go_loopw [120] (fun i w5 => ∃ (t : Nat), t <= dl.length /\ i = .int .i64 (t : Int) /\ BK W0 w5 c a b (hv v0 zs ps k) v0 (.slice po es.length co) (.slice pd dl.length cd) (.slice pw ul.length cw) es dl ul) (fun i _ => dl.length - (intOf i).toNat)
      case atStart => exact ⟨0, Nat.zero_le _, rfl, HB.out⟩
      case round =>
       clear HB
       obtain ⟨t, ht, rfl, hB⟩ := hrel
       by_cases hlt : t < dl.length
       ·have i3 : (t : Int) < dl.length := Int.ofNat_lt.mpr hlt
        have hult : t < ul.length := by rw [HQ.out.1.nu, <- HQ.out.1.nd]; exact hlt
        have i4 : (t : Int) < ul.length := Int.ofNat_lt.mpr hult
        obtain ⟨d, he⟩ : ∃ e, dl[t]? = some e := ⟨_, List.getElem?_eq_getElem hlt⟩
        obtain ⟨d', he'⟩ : ∃ e, ul[t]? = some e := ⟨_, List.getElem?_eq_getElem hult⟩
        have hdl : d.l = d'.l := by
         have q : (dl.map DE.l)[t]? = (ul.map DE.l)[t]? := by rw [HQ.out.1.l]
         rw [List.getElem?_map, List.getElem?_map, he, he'] at q
         exact Option.some.inj q
        have h8 := HQ.out.1.l8 d (List.mem_of_getElem? he)
        have r1 := hB.d1 t d he
        have r2 := hB.d2 t d' he'
        obtain ⟨p1, c1, e1⟩ := r1.ex
        obtain ⟨p2, c2, e2⟩ := r2.ex
        rw [<- hdl] at r2 e2
        rw [e1] at r1
        rw [e2] at r2
        obtain ⟨gd, cg, hgo⟩ := hB.d.pos (Nat.lt_of_le_of_lt (Nat.zero_le _) hlt)
        obtain ⟨rfl, rfl⟩ : pd = some ⟨gd, 0, none⟩ /\ cd = cg := by simp only [Value.slice.injEq] at hgo; exact ⟨hgo.1, hgo.2.2⟩
        obtain ⟨gw, cgw, hgo2⟩ := hB.q.pos (Nat.lt_of_le_of_lt (Nat.zero_le _) hult)
        obtain ⟨rfl, rfl⟩ : pw = some ⟨gw, 0, none⟩ /\ cw = cgw := by simp only [Value.slice.injEq] at hgo2; exact ⟨hgo2.1, hgo2.2.2⟩
        have HZ := hid (fun (wz : World) (kk : Below wr.heap.size wr wz) => show wz.cell? ⟨gd, t, none⟩ = some (.slice p1 d.l.length c1) /\ wz.cell? ⟨gw, t, none⟩ = some (.slice p2 d.l.length c2) from
         ⟨((hB.d.below kk).cell t _ (by rw [List.getElem?_map, he, <- e1]; rfl)).1, ((hB.q.below kk).cell t _ (by rw [List.getElem?_map, he', <- e2]; rfl)).1⟩)
        have K9 := hid (fun (wz : World) (kk : Below wr.heap.size wr wz) => same_b p1 p2 c1 c2 d.l (by unfold S.room; omega) wz (lsl (S.own_sl S.hU (r1.below kk).1)) (lsl (S.own_sl S.hU (r2.below kk).1)))
        have HBB := hid hB
        clear hgo hgo2 r1 r2 hB he he' hdl h8 e1 e2 hult
        go_upto_region 31 with fail
        refine D.wp_region_drop [] (S := fun wz : World => wz.cell? ⟨gd, t, none⟩ = some (.slice p1 d.l.length c1) /\ wz.cell? ⟨gw, t, none⟩ = some (.slice p2 d.l.length c2)) (by kernel_rfl) (HZ.out wr.drew (Below.refl _ _).drew) (fun hHeld => ?_)
        have HD := hid (show Below wr.heap.size wr wr.drew from (Below.refl _ _).drew)
        have k9 := K9.out wr.drew HD.out
        generalize wr.drew = y3 at *
        refine D.zD (is := [0, 1, 2, 3, 4, 5, 6, 7]) ?_
        iterate 8
         refine D.yD (v := ?_) rfl (by kernel_rfl) (fun c a w h => h) (by rfl) ?_ hHeld ?_
         rotate_left
         ·(intro w hSw; (try dsimp only at hSw); go_simp; try with_reducible rfl)
         simp only [D.pts]
        refine D.eD ?_
        refine D.wpD_ready (rs := [8]) (by kernel_rfl) (by simp) ?_
        refine D.AllD.cons rfl (fun K hK => ?_) D.AllD.nil
        go_simp
        refine k9.mono ?_
        rintro e' w9 ⟨rfl, h9⟩
        have H9 := hid (trB HD.out h9 HD.out.size)
        refine hK.out _ _ (HZ.out w9 H9.out) (fun hHeld => ?_)
        clear hK K
        try simp only [D.pts]
        refine D.xP 9 (v := ?_) rfl (by kernel_rfl) (fun c a w h => h) (by rfl) ?_ (fun _ => hHeld) ?_
        rotate_left
        ·(intro w hSw; clear hSw; go_simp; try with_reducible rfl)
        simp only [D.pts]
        refine D.wpD_done (by kernel_rfl) ?_ _
        have hB9 := hid (HBB.out.below H9.out)
        clear hHeld k9
        have w1' : wrap64 ((t : Int) + 1) = ((t + 1 : Nat) : Int) := w1k t (by have := HQ.out.2.2.2; omega)
        go_wp2
        go_roundw
        case rel => exact ⟨t + 1, hlt, (by first | rw [w1'] | simp), hB9.out⟩
        case measure => exact msr2 dl.length _ _ t (by first | rw [w1'] | simp) rfl hlt
       ·obtain rfl : t = dl.length := by omega
        have i3 : ¬ (dl.length : Int) < dl.length := by omega
        have km := marks_any hB.mkk HQ.out.2.2.1 HQ.out.2.2.2 (fun e he => (HQ.out.1.fm e he).2.2) HQ.out.1.l8 (fun e he => by
         obtain ⟨i, hi⟩ := List.getElem?_of_mem he
         have hf := HQ.out.1.fm e he
         rw [<- hf.1, <- hf.2.1]
         exact ⟨(hB.e3 i e hi).ex, (hB.e4 i e hi).ex⟩)
        have HB := hid hB
        clear hB
        go_wp2_with fail
        refine km.mono ?_
        rintro e w6 ⟨rfl, hm6⟩
        have b6 := HB.out.belm hm6
        obtain ⟨c6, es6, hl6, hw6, hA6⟩ := HB.out.ai hm6
        rw [<- hl6] at hA6
        obtain ⟨hlb6, hz6, hp6, _, _, _⟩ := HL.out w6 b6
        have ka := alike_any zs ps HH.out.2.2.1 zp q3 zc d3 W0.heap.size W0.heap.size c6 b v0 po co es6 w6 hA6 b6.size hz6 (hp6.kept (fun _ _ => rfl) fun i hi => Nat.lt_of_lt_of_le hi HB0.out.size) (fun W' q => (HL.out W' (b6.trans q)).2.1) (by rw [hl6, HQ.out.1.n]; exact hk) (fun i e x he hx => by
         obtain ⟨e0, h0⟩ : ∃ e0, es[i]? = some e0 := ⟨_, List.getElem?_eq_getElem (by rw [<- hl6]; exact (List.getElem?_eq_some_iff.1 he).1)⟩
         exact (HQ.out.1.ef i e0 x h0 hx).was (was_at hw6 he h0))
        rw [HQ.out.2.1, hl6] at ka
        have HB6 := hid b6
        clear km hm6 hA6 hw6 hl6 hz6 hp6 b6
        have y0 := S.cell_of w6 (w.heap.size + 1) 0 _ _ _ hlb6 rfl
        have y1 := S.cell_of w6 (w.heap.size + 1) 1 _ _ _ hlb6 rfl
        go_wp2_with fail
        refine ka.mono ?_
        rintro e w7 ⟨rfl, h7⟩
        have hfin := trB HB0.out (HB6.out.trans h7) HB0.out.size
        clear ka h7
        go_wp2
        go_ret
        exact ⟨rfl, hfin⟩
  | true =>
   have hk10 := HBD.out.1 rfl
   have HL10 := hid (show es.length <= 10 by have := HBD.out.2.2.1.n; have := HBD.out.2.2.1.k10; omega)
   have hx := List.getElem?_eq_getElem hk1
   generalize ps[k] = x at *
   rcases hpd with ⟨_, e9⟩ | ⟨pb, po', pc', e9, hpb, hpc⟩
   ·rw [e9] at hk1; exact absurd hk1 (by simp)
   injection e9 with e5 e6 e7
   subst e5 e7
   have ex0 := hpc k x hx
   have k3 := frame_u x B a (hv v0 zs ps k) wb hB.z.ti.ca hB.z.ti.two.ma
   rw [hga] at k3
   have HV := hid (show hv v0 zs ps (k + 1) = nxv (hv v0 zs ps k) x B from by rw [hv_succ hx, HBB.out])
   have HEF := hid (show ∀ e : KE, EF (fo (hv v0 zs ps k) x B) e -> ∀ y, ps[k]? = some y -> EF (fo (hv v0 zs ps k) y (bud zs k).1) e from fun e he y hy => by rw [hx] at hy; cases hy; rw [HBB.out]; exact he)
   generalize hu0 : hv v0 zs ps k = u0 at *
   have HU0 := hid hu0
   clear hu0
   have HI2 := hid hB
   clear hx hbb kb hB hpc hpb hlb
   go_wp2_with fail
   refine k3.mono ?_
   rintro e w3 ⟨er, p1, c1, p2, c2, l2, a2, rfl, hr1, hr2, hF, hca, hl1, hl2⟩
   have hga2 := hF.gg.trans hga
   unfold foV
   generalize hO : fo u0 x B = O at *
   obtain ⟨c3', hB3, q1, q2⟩ := HI2.out.frame hF hca hr1 hr2
   obtain ⟨z3, r3, b3⟩ := mkRow w3 #[.int .i64 0, .int .i64 0, .int .i64 0, .int .i64 0, .int .i64 0, .slice none 0 0, .slice none 0 0] #[.int .i64 O.a0, .int .i64 O.a1, .int .i64 O.a2, .int .i64 O.a3, .int .i64 O.a4, .slice p1 O.l1.length c1, .slice p2 O.l2.length c2] 28
   have hB4 := hB3.below b3
   have q1 := q1.below b3
   have q2 := q2.below b3
   have HC := hid (And.intro hB4 (And.intro q1 (And.intro q2 (And.intro hl1 (And.intro hl2 hga2)))))
   have HR3 := hid r3
   clear k3 hB3 hB4 q1 q2 b3 r3 ex0 l1 hO HI2 hr1 hr2 hF hca hl1 hl2 hga2
   go_upto_region 15 with (refine wpList_store_row rfl 28 _ _ rfl w3.heap.size _ rfl rfl 28 #[.int .i64 0, .int .i64 0, .int .i64 0, .int .i64 0, .int .i64 0, .slice none 0 0, .slice none 0 0] z3 (by exact sizeO) (by rfl) (by simp [Value.oneCell']) ?_)
   generalize hW4 : (w3.alloc (.cells #[.int .i64 0, .int .i64 0, .int .i64 0, .int .i64 0, .int .i64 0, .slice none 0 0, .slice none 0 0] 28)).setRow w3.heap.size #[.int .i64 O.a0, .int .i64 O.a1, .int .i64 O.a2, .int .i64 O.a3, .int .i64 O.a4, .slice p1 O.l1.length c1, .slice p2 O.l2.length c2] = W4 at *
   obtain ⟨bo, hbo⟩ : ∃ bo, bo = w3.heap.size := ⟨_, rfl⟩
   rw [<- hbo] at HR3 ⊢
   clear hW4 z3 hbo
   have hr3 := HR3.out
   refine D.wp_region_drop [] (S := fun wz : World => wz.cell? ⟨bo, 0, none⟩ = some (.int .i64 O.a0) /\ wz.cell? ⟨bo, 1, none⟩ = some (.int .i64 O.a1) /\ wz.cell? ⟨bo, 2, none⟩ = some (.int .i64 O.a2) /\ wz.cell? ⟨bo, 3, none⟩ = some (.int .i64 O.a3) /\ wz.cell? ⟨bo, 4, none⟩ = some (.int .i64 O.a4) /\ wz.cell? ⟨bo, 5, none⟩ = some (.slice p1 O.l1.length c1) /\ wz.cell? ⟨bo, 6, none⟩ = some (.slice p2 O.l2.length c2)) (by kernel_rfl) (show (fun wz : World => wz.cell? ⟨bo, 0, none⟩ = some (.int .i64 O.a0) /\ wz.cell? ⟨bo, 1, none⟩ = some (.int .i64 O.a1) /\ wz.cell? ⟨bo, 2, none⟩ = some (.int .i64 O.a2) /\ wz.cell? ⟨bo, 3, none⟩ = some (.int .i64 O.a3) /\ wz.cell? ⟨bo, 4, none⟩ = some (.int .i64 O.a4) /\ wz.cell? ⟨bo, 5, none⟩ = some (.slice p1 O.l1.length c1) /\ wz.cell? ⟨bo, 6, none⟩ = some (.slice p2 O.l2.length c2)) W4.drew from ⟨S.cell_of W4.drew _ 0 _ _ _ hr3 rfl, S.cell_of W4.drew _ 1 _ _ _ hr3 rfl, S.cell_of W4.drew _ 2 _ _ _ hr3 rfl, S.cell_of W4.drew _ 3 _ _ _ hr3 rfl, S.cell_of W4.drew _ 4 _ _ _ hr3 rfl, S.cell_of W4.drew _ 5 _ _ _ hr3 rfl, S.cell_of W4.drew _ 6 _ _ _ hr3 rfl⟩) (fun hHeld => ?_)
   have HD := hid (show Below W4.heap.size W4 W4.drew from (Below.refl _ _).drew)
   have hr3 : W4.drew.heap[bo]? = _ := HR3.out
   generalize W4.drew = y3 at *
   have HC3 := hid (And.intro (HC.out.1.below HD.out) (And.intro (HC.out.2.1.below HD.out) (HC.out.2.2.1.below HD.out)))
   have k9 := copied_any O.a0 O.a1 O.a2 O.a3 O.a4 p1 p2 c1 c2 O.l1 O.l2 HC.out.2.2.2.1 HC.out.2.2.2.2.1 y3 HC3.out.2.1.1 HC3.out.2.2.1
   have HR4 := hid hr3
   clear hr3
   refine D.zD (is := [0, 1, 2]) ?_
   iterate 3
    refine D.yD (v := ?_) rfl (by kernel_rfl) (fun c a w h => h) (by rfl) ?_ hHeld ?_
    rotate_left
    ·(intro w hSw; (try dsimp only at hSw); go_simp; try with_reducible rfl)
    simp only [D.pts]
   refine D.eD ?_
   refine D.wpD_ready (rs := [3]) (by kernel_rfl) (by simp) ?_
   refine D.AllD.cons rfl (fun K hK => ?_) D.AllD.nil
   go_simp
   refine k9.mono ?_
   rintro e' w9 ⟨p3, c3, p4, c4, rfl, h31, h32, h9⟩
   obtain ⟨c9, hB9, pw9, q3, q4⟩ := HC3.out.1.copies h9 h31 h32
   have hNR : NR W0 w9 c9 es.length ⟨O.a0, O.a1, O.a2, O.a3, O.a4, .slice p1 O.l1.length c1, .slice p2 O.l2.length c2, .slice p3 O.l1.length c3, .slice p4 O.l2.length c4, O.l1, O.l2, O.l1, O.l2⟩ := ⟨HC3.out.2.1.sp pw9 (by omega), HC3.out.2.2.sp pw9 (by omega), q3, q4⟩
   have hr9 := (h9.block _ (S.lt_of HR4.out)).trans HR4.out
   have HN9 := hid (And.intro hB9 (And.intro hNR hr9))
   clear k9 h31 h32 hB9 pw9 q3 q4 hNR h9
   refine hK.out _ _ ⟨S.cell_of w9 _ 0 _ _ _ hr9 rfl, S.cell_of w9 _ 1 _ _ _ hr9 rfl, S.cell_of w9 _ 2 _ _ _ hr9 rfl, S.cell_of w9 _ 3 _ _ _ hr9 rfl, S.cell_of w9 _ 4 _ _ _ hr9 rfl, S.cell_of w9 _ 5 _ _ _ hr9 rfl, S.cell_of w9 _ 6 _ _ _ hr9 rfl⟩ (fun hHeld => ?_)
   clear hK K
   try simp only [D.pts]
   refine D.xP 4 (v := ?_) rfl (by kernel_rfl) (fun c a w h => h) (by rfl) ?_ (fun _ => hHeld) ?_
   rotate_left
   ·(intro w hSw; clear hSw; go_simp; try with_reducible rfl)
   simp only [D.pts]
   refine D.wpD_ready (rs := [5]) (by kernel_rfl) (by simp) ?_
   refine D.AllD.cons rfl (fun K hK => ?_) D.AllD.nil
   go_simp
   have kk : Below w9.heap.size w9 (w9.alloc (.cells #[.int .i64 O.a0, .int .i64 O.a1, .int .i64 O.a2, .int .i64 O.a3, .int .i64 O.a4, .slice p1 O.l1.length c1, .slice p2 O.l2.length c2, .int .i64 O.a0, .int .i64 O.a1, .int .i64 O.a2, .int .i64 O.a3, .int .i64 O.a4, .slice p3 O.l1.length c3, .slice p4 O.l2.length c4] 68)) := P.bel_alloc _ _
   have hz := heap_alloc_new w9 (.cells #[.int .i64 O.a0, .int .i64 O.a1, .int .i64 O.a2, .int .i64 O.a3, .int .i64 O.a4, .slice p1 O.l1.length c1, .slice p2 O.l2.length c2, .int .i64 O.a0, .int .i64 O.a1, .int .i64 O.a2, .int .i64 O.a3, .int .i64 O.a4, .slice p3 O.l1.length c3, .slice p4 O.l2.length c4] 68)
   generalize w9.alloc (.cells #[.int .i64 O.a0, .int .i64 O.a1, .int .i64 O.a2, .int .i64 O.a3, .int .i64 O.a4, .slice p1 O.l1.length c1, .slice p2 O.l2.length c2, .int .i64 O.a0, .int .i64 O.a1, .int .i64 O.a2, .int .i64 O.a3, .int .i64 O.a4, .slice p3 O.l1.length c3, .slice p4 O.l2.length c4] 68) = z5 at *
   obtain ⟨gn, hgn⟩ : ∃ bn, w9.heap.size = bn := ⟨_, rfl⟩
   rw [hgn] at hz ⊢
   have HN5 := hid (And.intro (HN9.out.1.below kk) (And.intro (HN9.out.2.1.below kk) ((kk.block _ (S.lt_of HN9.out.2.2)).trans HN9.out.2.2)))
   have hr5 := HN5.out.2.2
   have hcs : S.Cs z5 (.slice (some ⟨gn, 0, none⟩) 1 1) 14 1 [.int .i64 O.a0, .int .i64 O.a1, .int .i64 O.a2, .int .i64 O.a3, .int .i64 O.a4, .slice p1 O.l1.length c1, .slice p2 O.l2.length c2, .int .i64 O.a0, .int .i64 O.a1, .int .i64 O.a2, .int .i64 O.a3, .int .i64 O.a4, .slice p3 O.l1.length c3, .slice p4 O.l2.length c4] := .inr ⟨_, _, rfl, rfl, fun j u hj => by rw [Addr.add_lit, Nat.zero_add]; exact S.cell_of z5 _ j _ _ u hz hj, by intro u hu; simp only [List.mem_cons, List.not_mem_nil, or_false] at hu; rcases hu with rfl | rfl | rfl | rfl | rfl | rfl | rfl | rfl | rfl | rfl | rfl | rfl | rfl | rfl <;> rfl⟩
   have ho5 := HN5.out.1.o.1
   have hzl : W0.heap.size <= z5.heap.size := HN5.out.1.z.ti.bel.size
   clear hgn hz kk
   refine hK.out _ _ ⟨S.cell_of z5 _ 0 _ _ _ hr5 rfl, S.cell_of z5 _ 1 _ _ _ hr5 rfl, S.cell_of z5 _ 2 _ _ _ hr5 rfl, S.cell_of z5 _ 3 _ _ _ hr5 rfl, S.cell_of z5 _ 4 _ _ _ hr5 rfl, S.cell_of z5 _ 5 _ _ _ hr5 rfl, S.cell_of z5 _ 6 _ _ _ hr5 rfl⟩ (fun hHeld => ?_)
   clear hK K
   try simp only [D.pts]
   refine D.wpD_ready (rs := [6]) (by kernel_rfl) (by simp) ?_
   refine D.AllD.cons rfl (fun K hK => ?_) D.AllD.nil
   rw [if_pos (by rfl)]
   refine S.wp_append_row z5 (.tmp 77) (.tmp 82) 64 68 _ 14 176 Tryz.underlying64 infoKept rfl (by decide) rfl W0.heap.size (.slice po es.length co) es.length (S.en eKE es) (by simp [Act.eval]) ho5 _ 1 _ (by simp [Act.eval]) hcs (by have := HL10.out; unfold S.room; omega) (by have := HL10.out; unfold maxLen; omega) hzl (fun v6 w6 hr6 hg6 => ?_)
   have hB6 := HN5.out.1.push (e := ⟨O.a0, O.a1, O.a2, O.a3, O.a4, .slice p1 O.l1.length c1, .slice p2 O.l2.length c2, .slice p3 O.l1.length c3, .slice p4 O.l2.length c4, O.l1, O.l2, O.l1, O.l2⟩) HN5.out.2.1 hg6 hr6
   have hr6' : w6.heap[bo]? = _ := (hg6.block bo (S.lt_of hr5) (fun e => by
    have h1 := HN5.out.1.o.1
    obtain ⟨cur, hcur⟩ := M.own_block h1 bo e.symm
    rw [hr5] at hcur; simp at hcur)).trans hr5
   obtain ⟨p6, c6, rfl⟩ := own_form hr6
   have HN6 := hid hB6
   clear hcs ho5 hr6 hg6 hB6 hr5
   refine hK.out _ _ ⟨S.cell_of w6 _ 0 _ _ _ hr6' rfl, S.cell_of w6 _ 1 _ _ _ hr6' rfl, S.cell_of w6 _ 2 _ _ _ hr6' rfl, S.cell_of w6 _ 3 _ _ _ hr6' rfl, S.cell_of w6 _ 4 _ _ _ hr6' rfl, S.cell_of w6 _ 5 _ _ _ hr6' rfl, S.cell_of w6 _ 6 _ _ _ hr6' rfl⟩ (fun hHeld => ?_)
   clear hK K
   try simp only [D.pts]
   refine D.xP 7 (v := ?_) rfl (by kernel_rfl) (fun c a w h => h) (by rfl) ?_ (fun _ => hHeld) ?_
   rotate_left
   ·(intro w hSw; clear hSw; go_simp; try with_reducible rfl)
   simp only [D.pts]
   refine D.wpD_done (by kernel_rfl) ?_ _
   clear hHeld hr6'
   have hlen : (es ++ [(⟨O.a0, O.a1, O.a2, O.a3, O.a4, .slice p1 O.l1.length c1, .slice p2 O.l2.length c2, .slice p3 O.l1.length c3, .slice p4 O.l2.length c4, O.l1, O.l2, O.l1, O.l2⟩ : KE)]).length = es.length + 1 := by simp
   generalize hes1 : es ++ [(⟨O.a0, O.a1, O.a2, O.a3, O.a4, .slice p1 O.l1.length c1, .slice p2 O.l2.length c2, .slice p3 O.l1.length c3, .slice p4 O.l2.length c4, O.l1, O.l2, O.l1, O.l2⟩ : KE)] = es1 at *
   have HES := hid (And.intro hes1 hlen)
   have HLD := hid (show dl.length = 2 * k /\ ul.length = 2 * k /\ dl.map DE.l = ul.map DE.l /\ (∀ d ∈ dl, d.l.length <= 256) from ⟨HBD.out.2.2.1.nd, HBD.out.2.2.1.nu, HBD.out.2.2.1.l, HBD.out.2.2.1.l8⟩)
   clear hes1 hlen
   go_wp2
   go_loopw [10, 11, 17] (fun vd vw j w5 => ∃ (m : Nat) (c : Nat -> Nat) (dl ul : List DE), m <= 2 /\ j = .int .i64 (m : Int) /\ BK W0 w5 c a2 b (nxv u0 x B) v0 (.slice p6 (es.length + 1) c6) vd vw es1 dl ul /\ Hid (dl.length = 2 * k + m /\ ul.length = 2 * k + m /\ dl.map DE.l = ul.map DE.l /\ (∀ d ∈ dl, d.l.length <= 256))) (fun _ _ j _ => 2 - (intOf j).toNat)
   case atStart => exact ⟨0, _, dl, ul, by omega, rfl, HN6.out, hid (And.intro HLD.out.1 (And.intro HLD.out.2.1 HLD.out.2.2))⟩
   case round =>
    clear HN6 HLD
    obtain ⟨m, cm, dm, um, hm2, rfl, hB, HLM⟩ := hrel
    obtain ⟨pd, cd, rfl⟩ := hB.d.ex
    obtain ⟨pw, cw, rfl⟩ := hB.q.ex
    by_cases hml : m < 2
    ·have i2 : (m : Int) < 2 := by omega
     have kd := data_any wr hB.z.ti.two.ma
     have hgx : a2.g = g := HC.out.2.2.2.2.2
     rw [hgx] at kd
     have hd256 : (nxv u0 x B).D.length <= 256 := (MV.ps hB.z.ti.two.ma).d.2
     have HB6 := hid hB
     have HD6 := hid hd256
     clear hB hgx hd256
     go_wp2_with fail
     refine kd.mono ?_
     rintro e wd ⟨dv5, rfl, hrd, hbd⟩
     obtain ⟨pdv, cdv, rfl⟩ := own_form hrd
     obtain ⟨hB7, r7⟩ := HB6.out.row hbd hrd (16 * dm.length + 8)
     obtain ⟨WA, hWA⟩ : ∃ WA, wd.alloc (.cells #[.slice pdv (nxv u0 x B).D.length cdv] 37) = WA := ⟨_, rfl⟩
     have bA : Below wd.heap.size wd WA := by rw [<- hWA]; exact P.bel_alloc _ _
     have nA : WA.heap[wd.heap.size]? = some (.cells [.slice pdv (nxv u0 x B).D.length cdv].toArray 37 (0, 0)) := by rw [<- hWA]; exact heap_alloc_new wd _
     have hB8 := hB7.below bA
     have r8 := r7.below bA
     have hcs : S.Cs WA (.slice (some ⟨wd.heap.size, 0, none⟩) 1 1) 1 1 [.slice pdv (nxv u0 x B).D.length cdv] := .inr ⟨_, _, rfl, rfl, fun j u hj => by rw [Addr.add_lit, Nat.zero_add]; exact S.cell_of WA _ j _ _ u nA hj, by intro u hu; simp at hu; subst hu; rfl⟩
     have hod := hB8.d.1
     have hzA : W0.heap.size <= WA.heap.size := hB8.z.ti.bel.size
     have hdl : dm.length <= 20 := by have := HLM.out.1; have := hk10; omega
     have HB8 := hid (And.intro hB8 r8)
     have HWA := hid hWA
     have HDL := hid hdl
     have rm1 : (dm.length + 1) * 24 <= S.room /\ dm.length + 1 <= maxLen := by unfold S.room maxLen; omega
     clear hB7 r7 bA nA hB8 r8 hWA hrd hbd hdl kd
     go_upto_region 21 with (at_builtin; rw [HWA.out]; refine S.wpList_append_row WA rfl _ _ 65 37 _ 1 24 Tryz.underlying65 infoUs rfl (by decide) rfl W0.heap.size (.slice pd dm.length cd) dm.length (dm.map DE.v) rfl hod (.slice (some ⟨wd.heap.size, 0, none⟩) 1 1) 1 [.slice pdv (nxv u0 x B).D.length cdv] rfl hcs rm1.1 rm1.2 hzA (fun v7 w7 r9 g9 => ?_); have hB9 := HB8.out.1.pushd (x := ⟨.slice pdv (nxv u0 x B).D.length cdv, .slice none 0 0, (nxv u0 x B).D, []⟩) HB8.out.2 g9 r9; have r10 := HB8.out.2.sp (HB8.out.1.d.grew g9 r9).2 (by omega); obtain ⟨p7, c7, rfl⟩ := own_form r9; clear r9 g9)
     obtain ⟨WB, hWB⟩ : ∃ WB, w7.alloc (.cells #[] 57) = WB := ⟨_, rfl⟩
     have bB : Below w7.heap.size w7 WB := by rw [<- hWB]; exact P.bel_alloc _ _
     have oe : WB.ownsRow w7.heap.size 57 1 (.slice (some ⟨w7.heap.size, 0, none⟩) 0 0) 0 [] := by rw [<- hWB]; exact S.own_empty w7 _ 1
     have cd7 : S.Cs WB (.slice pdv (nxv u0 x B).D.length cdv) 1 (nxv u0 x B).D.length (S.en S.eU (nxv u0 x B).D) := S.Ls.cs S.hU (by decide) S.oneU ((S.own_sl S.hU r10.1).below bB)
     have HB9 := hid hB9
     have HWB := hid hWB
     have HBB7 := hid bB
     have rm2 : (0 + (nxv u0 x B).D.length) * 2 <= S.room /\ 0 + (nxv u0 x B).D.length <= maxLen := by have := HD6.out; unfold S.room maxLen; omega
     have hzB : w7.heap.size <= WB.heap.size := bB.size
     have hul : um.length <= 20 := by have := HLM.out.2.1; have := hk10; omega
     have rm3 : (um.length + 1) * 24 <= S.room /\ um.length + 1 <= maxLen := by unfold S.room maxLen; omega
     clear hB9 hWB bB r10 hul
     go_wp2_with (first | (at_builtin; rw [HWB.out]; refine S.wpList_append_row WB rfl _ _ 37 57 (.int .u16 0) 1 2 Tryz.underlying37 infoU16 rfl (by decide) rfl w7.heap.size (.slice (some ⟨w7.heap.size, 0, none⟩) 0 0) 0 [] rfl oe (.slice pdv (nxv u0 x B).D.length cdv) (nxv u0 x B).D.length (S.en S.eU (nxv u0 x B).D) rfl cd7 rm2.1 rm2.2 hzB (fun v8 w8 r11 g11 => ?_); rw [Nat.zero_add, List.nil_append] at r11; obtain ⟨p8, c8, rfl⟩ := own_form r11; have b8 : Below w7.heap.size w7 w8 := HBB7.out.trans (g11.below (fun g e => by simp [Value.ownBlock] at e; omega) hzB); obtain ⟨hB10, r12⟩ := HB9.out.row b8 r11 (16 * um.length + 9); obtain ⟨WC, hWC⟩ : ∃ WC, w8.alloc (.cells #[.slice p8 (nxv u0 x B).D.length c8] 37) = WC := ⟨_, rfl⟩; have bC : Below w8.heap.size w8 WC := (by rw [<- hWC]; exact P.bel_alloc _ _); have nC : WC.heap[w8.heap.size]? = some (.cells [.slice p8 (nxv u0 x B).D.length c8].toArray 37 (0, 0)) := (by rw [<- hWC]; exact heap_alloc_new w8 _); have hB11 := hB10.below bC; have r13 := r12.below bC; have hcs2 : S.Cs WC (.slice (some ⟨w8.heap.size, 0, none⟩) 1 1) 1 1 [.slice p8 (nxv u0 x B).D.length c8] := (.inr ⟨_, _, rfl, rfl, fun j u hj => by rw [Addr.add_lit, Nat.zero_add]; exact S.cell_of WC _ j _ _ u nC hj, by intro u hu; simp at hu; subst hu; rfl⟩); have hoq := hB11.q.1; have hzC : W0.heap.size <= WC.heap.size := hB11.z.ti.bel.size; have HB11 := hid (And.intro hB11 r13); have HWC := hid hWC; clear hB10 r12 bC nC hB11 r13 hWC r11 g11 b8 oe cd7) | (at_builtin; rw [HWC.out]; refine S.wpList_append_row WC rfl _ _ 65 37 _ 1 24 Tryz.underlying65 infoUs rfl (by decide) rfl W0.heap.size (.slice pw um.length cw) um.length (um.map DE.v) rfl hoq (.slice (some ⟨w8.heap.size, 0, none⟩) 1 1) 1 [.slice p8 (nxv u0 x B).D.length c8] rfl hcs2 rm3.1 rm3.2 hzC (fun v9 w9 r14 g14 => ?_); have hB12 := HB11.out.1.pushw (x := ⟨.slice p8 (nxv u0 x B).D.length c8, .slice none 0 0, (nxv u0 x B).D, []⟩) HB11.out.2 g14 r14; obtain ⟨p9, c9', rfl⟩ := own_form r14; have HF := hid hB12; clear r14 g14 hB12 hoq hcs2))
     have w1' : wrap64 ((m : Int) + 1) = ((m + 1 : Nat) : Int) := w1k m (by omega)
     have HG := hid (show (dm ++ [(⟨.slice pdv (nxv u0 x B).D.length cdv, .slice none 0 0, (nxv u0 x B).D, []⟩ : DE)]).length = 2 * k + (m + 1) /\ (um ++ [(⟨.slice p8 (nxv u0 x B).D.length c8, .slice none 0 0, (nxv u0 x B).D, []⟩ : DE)]).length = 2 * k + (m + 1) /\ (dm ++ [(⟨.slice pdv (nxv u0 x B).D.length cdv, .slice none 0 0, (nxv u0 x B).D, []⟩ : DE)]).map DE.l = (um ++ [(⟨.slice p8 (nxv u0 x B).D.length c8, .slice none 0 0, (nxv u0 x B).D, []⟩ : DE)]).map DE.l /\ (∀ d ∈ dm ++ [(⟨.slice pdv (nxv u0 x B).D.length cdv, .slice none 0 0, (nxv u0 x B).D, []⟩ : DE)], d.l.length <= 256) from
      ⟨by rw [List.length_append, HLM.out.1]; rfl, by rw [List.length_append, HLM.out.2.1]; rfl, by rw [List.map_append, List.map_append, HLM.out.2.2.1]; rfl, fun d hd => by
       rcases List.mem_append.1 hd with q | q
       ·exact HLM.out.2.2.2 d q
       ·rw [List.mem_singleton] at q; rw [q]; exact HD6.out⟩)
     go_roundw
     case rel => exact ⟨m + 1, _, _, _, hml, (by first | rw [w1'] | simp), HF.out, HG⟩
     case measure => exact msr2 2 _ _ m (by first | rw [w1'] | simp) rfl hml
    ·obtain rfl : m = 2 := by omega
     have hBf := hB
     have hvk := HV.out
     have HBf := hid hB
     clear hB hBf hvk
     have w1' : wrap64 ((k : Int) + 1) = ((k + 1 : Nat) : Int) := w1k k (by omega)
     go_wp2
     go_roundw
     case rel =>
      have hQ0 := HBD.out.2.2.1
      have hQ1 : LQ v0 zs ps (k + 1) es1 dm um := by
       rw [<- HES.out.1]
       refine ⟨hk10, by rw [List.length_append, hQ0.n]; rfl, by rw [HLM.out.1]; omega, by rw [HLM.out.2.1]; omega, HLM.out.2.2.1, HLM.out.2.2.2, fun i e y he hy => ?_, fun e he => ?_⟩
       ·revert hy
        refine fam_snoc (Q := fun i e => ps[i]? = some y -> EF (fo (hv v0 zs ps i) y (bud zs i).1) e) (fun i e he hy => hQ0.ef i e y he hy) ?_ i e he
        rw [hQ0.n, HU0.out]
        exact fun hy => HEF.out _ ⟨rfl, rfl, rfl, rfl, rfl, rfl, rfl⟩ y hy
       ·rcases List.mem_append.1 he with q | q
        ·exact hQ0.fm e q
        ·rw [List.mem_singleton] at q; rw [q]; exact ⟨rfl, rfl, HC.out.2.2.2.1, HC.out.2.2.2.2.1⟩
      first
       | exact ⟨k + 1, a2, b, cm, es1, dm, um, hk1, (by first | rw [w1'] | simp), HC.out.2.2.2.2.2, HBD.out.2.2.2, by rw [HV.out]; exact HBf.out, hQ1⟩
       | ((repeat apply Exists.intro); exact ⟨⟨hk1, (by first | rw [w1'] | simp), HC.out.2.2.2.2.2, HBD.out.2.2.2, by rw [HV.out]; exact HBf.out, hQ1⟩, rfl⟩)
     case measure => exact msr2 ps.length _ _ k (by first | rw [w1'] | simp) rfl hk1
end Go.Proofs.YtoemoiehjdmheaaGreat.Z
