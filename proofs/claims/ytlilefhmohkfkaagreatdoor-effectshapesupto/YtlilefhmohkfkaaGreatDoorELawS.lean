import Derived.Test.YtlilefhmohkfkaaGreatDoorERfU
import Derived.Test.YtlilefhmohkfkaaGreatDoorETpb
import Derived.Test.YtlilefhmohkfkaaGreatDoorYWhoP
import Derived.Test.YtlilefhmohkfkaaGreatDoorSKit
namespace Go.Proofs.YtlilefhmohkfkaaGreatDoor.E
open Go.RowKit
open Go.Proofs
open Go.Proofs.YtlilefhmohkfkaaGreatDoor.Y (Nd Df Ps ndc dfc hid NV DV D1 cells6 BV QD OWN WN nl own_prog whole_prog)
open R (En cks MP dsE dfE chk Bk)
set_option linter.unusedVariables false
set_option linter.unusedSimpArgs false
set_option maxHeartbeats 2000000
set_option maxRecDepth 100000
def tls (ds : List Df) (bs : List Bk) : List Ty := if chk ds bs = 0 then tys [] (wordsOf ds) else []
theorem so_tls {W w' : World} {ds : List Df} {bs : List Bk} {e : Ending} (h : SO W ds bs e w') : ∃ p c, e = .returned (.tuple #[.slice p (tls ds bs).length c, .int .i64 (chk ds bs)]) /\ w'.ownsRow W.heap.size 47 9 (.slice p (tls ds bs).length c) (tls ds bs).length (S.en tyc (tls ds bs)) /\ Below W.heap.size W w' := by
 obtain ⟨hb, h⟩ := h
 unfold tls
 by_cases hz : chk ds bs = 0
 ·rw [if_pos hz] at h
  obtain ⟨g, c, he, hr⟩ := h
  rw [if_pos hz, hz]
  rw [shs_is ds (chk_ds hz)] at hr
  have hl : (tys [] (wordsOf ds)).length = (wordsOf ds).length := by rw [tys_len]; simp
  rw [hl]
  exact ⟨_, c, he, hr, hb⟩
 ·rw [if_neg hz] at h
  rw [if_neg hz]
  exact ⟨none, 0, h, World.ownsRow_nil _ _ _ _, hb⟩
theorem rso_tls {W w' : World} {ds : List Df} {bs : List Bk} {e : Ending} (h : RSO W ds bs e w') : ∃ p c, e = .returned (.tuple #[.slice p (tls ds bs).length c, .int .i64 (chk ds bs)]) /\ w'.ownsRow W.heap.size 81 9 (.slice p (tls ds bs).length c) (tls ds bs).length (S.en tyc (tls ds bs)) /\ Below W.heap.size W w' := by
 obtain ⟨hb, h⟩ := h
 unfold tls
 by_cases hz : chk ds bs = 0
 ·rw [if_pos hz] at h
  obtain ⟨g, c, he, hr⟩ := h
  rw [if_pos hz, hz]
  have hl : (tys [] (wordsOf ds)).length = (wordsOf ds).length := by rw [tys_len]; simp
  rw [hl]
  exact ⟨_, c, he, hr, hb⟩
 ·rw [if_neg hz] at h
  rw [if_neg hz]
  exact ⟨none, 0, h, World.ownsRow_nil _ _ _ _, hb⟩
theorem tls_len (ds : List Df) (bs : List Bk) : (tls ds bs).length <= ds.length := by
 unfold tls
 split
 ·rw [tys_len, List.length_nil, Nat.zero_add]; exact List.length_filter_le _ _
 ·simp
theorem own_dv {W w : World} {U : Nat -> Prop} {b c : Nat} {bkv : Value} {ds : List Df} {bs : List Bk} (h : OWN W w U b c bkv ds bs) : DV w (fun i => W.heap.size <= i /\ i < w.heap.size) (.slice (some ⟨b, 0, none⟩) ds.length c) ds /\ BV w (fun i => W.heap.size <= i /\ i < w.heap.size) bkv bs := by
 refine ⟨⟨some ⟨b, 0, none⟩, c, rfl, by have := h.d.len; omega, fun i d hi => ?_⟩, h.k.kept (fun _ _ => rfl) fun i hi => ⟨hi.1, hi.2.1⟩⟩
 obtain ⟨bv, h1, h2⟩ := h.d.d i d hi
 exact ⟨b, 0, rfl, h.bb, bv, fun j x hx => by rw [Nat.zero_add]; exact h1 j x hx, (h2.nv).kept (fun _ _ => rfl) fun i hi => ⟨(h.u i hi).1, (h.u i hi).2.1⟩⟩
theorem shapes_walk (ds : List Df) (bs : List Bk) (hd : ds.length <= 1048575) (hnm : ∀ d ∈ ds, d.nm.size <= maxLen) (hnl : ∀ d ∈ ds, nl d.body <= 1048576) (hlb : bs.length <= 1048576) (hbl : ∀ d ∈ bs, d.2.length <= 1048576) (dv bv : Value) (O : Nat -> Prop) (W : World) (hO : ∀ j, O j -> j < W.heap.size) (hD : DV W O dv ds) (hK : BV W O bv bs) (hG : V.GW W) :
  Calls Tryz.prog 5 #[.agg #[dv, bv]] W fun e w' => e = .returned (.bool true) /\ Below W.heap.size W w' := by
 obtain ⟨p1, c1, e1, hl1, _⟩ := id hD
 obtain ⟨p2, c2, e2, _⟩ := id hK
 subst e1 e2
 obtain ⟨W0, hW0⟩ : ∃ W0, W.alloc (.cells #[.slice p1 ds.length c1, .slice p2 bs.length c2] 35) = W0 := ⟨_, rfl⟩
 have hB : Below W.heap.size W W0 := by rw [<- hW0]; exact (Below.refl _ _).alloc (Nat.le_refl _) _
 have v0 : W0.heap[W.heap.size]? = some (.cells [.slice p1 ds.length c1, .slice p2 bs.length c2].toArray 35 (0, 0)) := by rw [<- hW0]; exact heap_alloc_new W _
 have x0 := S.cell_of W0 _ 0 _ 35 _ v0 rfl
 have x1 := S.cell_of W0 _ 1 _ 35 _ v0 rfl
 have hO0 : ∀ j, O j -> j < W0.heap.size := fun j hj => Nat.lt_of_lt_of_le (hO j hj) hB.size
 have hc0 := own_prog ds bs _ _ O W0 hO0 (hD.below hB hO) (hK.below hB hO) (by omega) hnl hlb hbl
 have HH := hid (And.intro hB (And.intro v0 (And.intro hO (And.intro hD (And.intro hK hG)))))
 have HNM := hid hnm
 clear hB v0 hO hD hK hG hO0 hnm hnl hbl
 go_enter Tryz.func5, Tryz.ntmps5
 go_wp2_with fail
 refine hc0.mono ?_
 rintro e w1 ⟨U, b, c, bk, rfl, hown⟩
 clear hc0 hW0 x0 x1
 obtain ⟨hdv, hbv⟩ := own_dv hown
 obtain ⟨pk, ckk, hbk, _⟩ := id hbv
 subst hbk
 obtain ⟨w2, hw2⟩ : ∃ w2, w1.alloc (.cells #[.slice (some ⟨b, 0, none⟩) ds.length c, .slice pk bs.length ckk] 35) = w2 := ⟨_, rfl⟩
 have k2 : Below w1.heap.size w1 w2 := by rw [<- hw2]; exact (Below.refl _ _).alloc (Nat.le_refl _) _
 have v2 : w2.heap[w1.heap.size]? = some (.cells [.slice (some ⟨b, 0, none⟩) ds.length c, .slice pk bs.length ckk].toArray 35 (0, 0)) := by rw [<- hw2]; exact heap_alloc_new w1 _
 have x0 := S.cell_of w2 _ 0 _ 35 _ v2 rfl
 have x1 := S.cell_of w2 _ 1 _ 35 _ v2 rfl
 have hcs := shapes_any ds bs (by omega) HNM.out (by omega) _ _ (fun i => W0.heap.size <= i /\ i < w1.heap.size) w2 (fun j hj => Nat.lt_of_lt_of_le hj.2 k2.size) (hdv.kept (fun i hi => k2.block i hi.2) fun _ h => h) (hbv.kept (fun i hi => k2.block i hi.2) fun _ h => h)
 have H2 := hid (And.intro hown (And.intro k2 (And.intro v2 (And.intro hdv hbv))))
 clear hown k2 v2 hdv hbv
 go_wp2_with fail
 refine hcs.mono ?_
 intro e w3 hs
 obtain ⟨pl, cl, rfl, oL, kL⟩ := so_tls hs
 clear hcs hs hw2 x0 x1
 have v3 := (kL.block _ (S.lt_of H2.out.2.2.1)).trans H2.out.2.2.1
 have x0 := S.cell_of w3 _ 0 _ 35 _ v3 rfl
 have x1 := S.cell_of w3 _ 1 _ 35 _ v3 rfl
 have b13 : Below w1.heap.size w1 w3 := H2.out.2.1.trans (kL.mono H2.out.2.1.size)
 have hcs := shapes_any ds bs (by omega) HNM.out (by omega) _ _ (fun i => W0.heap.size <= i /\ i < w1.heap.size) w3 (fun j hj => Nat.lt_of_lt_of_le hj.2 b13.size) (H2.out.2.2.2.1.kept (fun i hi => b13.block i hi.2) fun _ h => h) (H2.out.2.2.2.2.kept (fun i hi => b13.block i hi.2) fun _ h => h)
 have H3 := hid (And.intro oL (And.intro b13 (And.intro v3 kL)))
 clear oL b13 v3 kL
 go_wp2_with fail
 refine hcs.mono ?_
 intro e w4 hs
 obtain ⟨pm, cm, rfl, oM, kM⟩ := so_tls hs
 clear hcs hs x0 x1
 have b04 : Below W0.heap.size W0 w4 := H2.out.1.bel.trans ((H3.out.2.1.trans (kM.mono H3.out.2.1.size)).mono H2.out.1.bel.size)
 have bW4 : Below W.heap.size W w4 := HH.out.1.trans (b04.mono HH.out.1.size)
 have v4 := (b04.block _ (S.lt_of HH.out.2.1)).trans HH.out.2.1
 have x0 := S.cell_of w4 _ 0 _ 35 _ v4 rfl
 have x1 := S.cell_of w4 _ 1 _ 35 _ v4 rfl
 have hcr := shapes_r ds bs (by omega) HNM.out (by omega) _ _ O w4 (fun j hj => Nat.lt_of_lt_of_le (HH.out.2.2.1 j hj) bW4.size) (HH.out.2.2.2.1.below bW4 HH.out.2.2.1) (HH.out.2.2.2.2.1.below bW4 HH.out.2.2.1) (HH.out.2.2.2.2.2.below bW4)
 have H4 := hid (And.intro oM (And.intro kM (And.intro bW4 v4)))
 clear oM kM b04 bW4 v4
 go_wp2_with fail
 refine hcr.mono ?_
 intro e w5 hs
 obtain ⟨pn, cn, rfl, oN, kN⟩ := rso_tls hs
 clear hcr hs x0 x1
 have b35 : Below w3.heap.size w3 w5 := H4.out.2.1.trans (kN.mono H4.out.2.1.size)
 have b15 : Below w1.heap.size w1 w5 := H3.out.2.1.trans (b35.mono H3.out.2.1.size)
 have bW5 : Below W.heap.size W w5 := H4.out.2.2.1.trans (kN.mono H4.out.2.2.1.size)
 have oL5 : w5.ownsRow w2.heap.size 47 9 (.slice pl (tls ds bs).length cl) (tls ds bs).length (S.en tyc (tls ds bs)) := S.own_kept H3.out.1 fun g _ hg => b35.block g hg
 have oM5 : w5.ownsRow w3.heap.size 47 9 (.slice pm (tls ds bs).length cm) (tls ds bs).length (S.en tyc (tls ds bs)) := S.own_kept H4.out.1 fun g _ hg => kN.block g hg
 have vp5 := (kN.block _ (S.lt_of H4.out.2.2.2)).trans H4.out.2.2.2
 have vq5 := (b35.block _ (S.lt_of H3.out.2.2.1)).trans H3.out.2.2.1
 have hle := tls_len ds bs
 have HL : Y.Hd (w2.heap.size <= w3.heap.size /\ w3.heap.size <= w4.heap.size /\ w4.heap.size <= w5.heap.size /\ W.heap.size < w2.heap.size /\ (∀ g, Value.ownBlock (.slice pl (tls ds bs).length cl) = some g -> g < w3.heap.size)) := ⟨H3.out.2.2.2.size, H4.out.2.1.size, kN.size, by have := H2.out.2.1.size; have := H2.out.1.bel.size; have := S.lt_of HH.out.2.1; omega, fun g hg => (World.ownsRow.lt H3.out.1 g hg).2⟩
 have hsame := same_r (tls ds bs) (by omega) _ _ 47 81 0 0 w5 (QV.of_own (e := tyc) (fun _ => rfl) oL5 rfl (by have := HL.out; omega)) (QV.of_own (e := tyc) (fun _ => rfl) oN rfl (by have := HL.out; omega))
 have H5 := hid (And.intro oL5 (And.intro oM5 (And.intro oN (And.intro vp5 (And.intro vq5 (And.intro b15 bW5))))))
 clear oL5 oM5 oN vp5 vq5 b15 bW5 b35 kN
 generalize htl : tls ds bs = tl at *
 clear htl
 generalize chk ds bs = z at *
 go_upto_region 5 with fail
 go_cut [43] (fun s wc => s = .bool false /\ Below w5.heap.size w5 wc)
 case first =>
  go_wp2_with fail
  refine (num_any z w5).mono ?_
  rintro e wx ⟨rfl, hx⟩
  obtain rfl := hx.symm
  go_wp2_with fail
  refine hsame.mono ?_
  rintro e w6 ⟨rfl, k6⟩
  clear hsame
  have vp6 := (k6.block _ (S.lt_of H5.out.2.2.2.1)).trans H5.out.2.2.2.1
  have vq6 := (k6.block _ (S.lt_of H5.out.2.2.2.2.1)).trans H5.out.2.2.2.2.1
  have x0 := S.cell_of w6 _ 0 _ 35 _ vp6 rfl
  have x1 := S.cell_of w6 _ 1 _ 35 _ vp6 rfl
  have q0 := S.cell_of w6 _ 0 _ 35 _ vq6 rfl
  have q1 := S.cell_of w6 _ 1 _ 35 _ vq6 rfl
  have b16 : Below w1.heap.size w1 w6 := H5.out.2.2.2.2.2.1.trans (k6.mono H5.out.2.2.2.2.2.1.size)
  have bW6 : Below W.heap.size W w6 := H5.out.2.2.2.2.2.2.trans (k6.mono H5.out.2.2.2.2.2.2.size)
  have hkept := whole_prog ds bs _ _ _ b c U O (fun i => W0.heap.size <= i /\ i < w1.heap.size) w6 (fun j hj => Nat.lt_of_lt_of_le (HH.out.2.2.1 j hj) bW6.size) (fun j hj => Nat.lt_of_lt_of_le (H2.out.1.u j hj).2.1 b16.size) (fun j hj => Nat.lt_of_lt_of_le hj.2 b16.size) (Nat.lt_of_lt_of_le H2.out.1.bb.2 b16.size) (H2.out.1.d.kept (b16.block b H2.out.1.bb.2) (fun i hi => b16.block i (H2.out.1.u i hi).2.1) fun _ h => h) (HH.out.2.2.2.1.below bW6 HH.out.2.2.1) (H2.out.2.2.2.2.kept (fun i hi => b16.block i hi.2) fun _ h => h) (HH.out.2.2.2.2.1.below bW6 HH.out.2.2.1) hlb
  have HK6 := hid k6
  clear vp6 vq6 b16 bW6 k6
  go_wp2_with fail
  refine hkept.mono ?_
  rintro e w7 ⟨rfl, k7⟩
  have HT := hid (HK6.out.trans (k7.mono HK6.out.size))
  clear hkept x0 x1 q0 q1 k7
  go_wp2
  go_meet
  case rel => exact ⟨rfl, HT.out⟩
 case rest =>
  obtain ⟨rfl, k8⟩ := hcut
  clear hsame
  obtain ⟨w8, hw8⟩ : ∃ wb, wb = wc := ⟨_, rfl⟩
  rw [<- hw8] at k8 ⊢
  clear hw8
  have oL8 := S.own_kept H5.out.1 fun g _ hg => k8.block g hg
  have oM8 := S.own_kept H5.out.2.1 fun g _ hg => k8.block g hg
  have oN8 := S.own_kept H5.out.2.2.1 fun g _ hg => k8.block g hg
  have H8 := hid (And.intro oL8 (And.intro oM8 (And.intro oN8 (And.intro (H5.out.2.2.2.2.2.2.trans (k8.mono H5.out.2.2.2.2.2.2.size)) k8.size))))
  clear oL8 oM8 oN8 k8 H5 H4 H3 H2
  go_wp2
  go_loopw [46] (fun ix wr => ∃ (k : Nat) (xs : List Value), k <= tl.length /\ ix = .int .i64 (k : Int) /\ wr.ownsRow w2.heap.size 47 9 (.slice pl tl.length cl) tl.length xs /\ (∀ i, Value.ownBlock (.slice pl tl.length cl) ≠ some i -> wr.heap[i]? = w8.heap[i]?) /\ wr.heap.size = w8.heap.size /\ wr.os = w8.os /\ wr.tape = w8.tape /\ wr.output = w8.output) (fun ix _ => tl.length - (intOf ix).toNat)
  case atStart => exact ⟨0, _, by omega, rfl, H8.out.1, fun _ _ => rfl, rfl, rfl, rfl, rfl⟩
  case round =>
   obtain ⟨k, xs, hk, rfl, hR, hoth, hsz, ho1, ho2, ho3⟩ := hrel
   by_cases hlt : k < tl.length
   ·have i1 : (k : Int) < tl.length := by omega
    obtain ⟨gl, cl', hpl⟩ := S.own_pos hR (by omega)
    cases hpl
    have HE := hid (And.intro hoth (And.intro hsz (And.intro ho1 (And.intro ho2 ho3))))
    clear hoth hsz ho1 ho2 ho3
    go_wp2_with (refine Y.wpList_store_at rfl 47 _ _ rfl w2.heap.size 47 9 gl tl.length cl xs hR k hlt (tyc ⟨⟨#[115, 112, 111, 105, 108, 116]⟩, 0, 0, 0, 0, false, 0, (0, 0)⟩) rfl rfl rfl (by exact sizeT) (tyc_one _) (fun w9 hr9 h9 s9 a9 t9 u9 => ?_); have HN := hid (And.intro hr9 (And.intro h9 (And.intro s9 (And.intro a9 (And.intro t9 u9))))); clear hr9 h9 s9 a9 t9 u9)
    go_roundw
    case rel => exact ⟨k + 1, _, by omega, by go_num, HN.out.1, fun i hi => (HN.out.2.1 i (fun e => hi (by rw [e]; rfl))).trans (HE.out.1 i hi), HN.out.2.2.1.trans HE.out.2.1, HN.out.2.2.2.1.trans HE.out.2.2.1, HN.out.2.2.2.2.1.trans HE.out.2.2.2.1, HN.out.2.2.2.2.2.trans HE.out.2.2.2.2⟩
    case measure => simp [intOf]; omega
   ·have i1 : ¬ (k : Int) < tl.length := by omega
    obtain ⟨wa, hwa⟩ : ∃ wa, wr.alloc (.cells #[.string ⟨#[]⟩, .int .i64 0, .int .i64 0, .int .i64 0, .int .i64 0, .bool false, .int .i64 0, .int .i64 0, .int .i64 0, .string ⟨#[]⟩, .int .i64 0, .int .i64 0, .int .i64 0, .int .i64 0, .bool false, .int .i64 0, .int .i64 0, .int .i64 0] 47) = wa := ⟨_, rfl⟩
    have ka : Below wr.heap.size wr wa := by rw [<- hwa]; exact (Below.refl _ _).alloc (Nat.le_refl _) _
    have va : wa.heap[wr.heap.size]? = some (.cells (S.en tyc [t0, t0]).toArray 47 (0, 0)) := by rw [<- hwa]; exact heap_alloc_new wr _
    have hcs : S.Cs wa (.slice (some ⟨wr.heap.size, 0, none⟩) 2 2) 9 2 (S.en tyc [t0, t0]) := .inr ⟨_, _, rfl, rfl, fun j u hj => by rw [Addr.add_lit, Nat.zero_add]; exact S.cell_of wa _ j _ _ u va hj, tyc_one2 _⟩
    have oR : wa.ownsRow w2.heap.size 47 9 (.slice pl tl.length cl) tl.length xs := S.own_kept hR fun g _ hg => ka.block g hg
    have hsza : w2.heap.size <= wa.heap.size := by have := HL.out; have := H8.out.2.2.2.2; have := ka.size; omega
    have HE := hid (And.intro hoth (And.intro hsz (And.intro ho1 (And.intro ho2 (And.intro ho3 ka)))))
    have HWA := hid hwa
    clear hoth hsz ho1 ho2 ho3 ka va hR hwa
    go_upto_region 13 with (rw [HWA.out]; refine S.wpList_append_row wa rfl _ _ 39 47 _ 9 80 Tryz.underlying39 infoTy rfl (by decide) rfl w2.heap.size (.slice pl tl.length cl) tl.length xs rfl oR _ 2 _ rfl hcs (by unfold S.room; omega) (by unfold maxLen; omega) hsza (fun v5 wb hr1 hg1 => ?_); have HG := hid hg1; clear hr1 hg1)
    have hkp : ∀ i, w3.heap.size <= i -> i < w8.heap.size -> wb.heap[i]? = w8.heap[i]? := fun i h1 h2 => by
     have hne : Value.ownBlock (.slice pl tl.length cl) ≠ some i := fun e => by have := HL.out.2.2.2.2 i e; omega
     exact (HG.out.block i (by have := HE.out.2.2.2.2.2.size; have := HE.out.2.1; omega) (fun e => hne e.symm)).trans ((HE.out.2.2.2.2.2.block i (by have := HE.out.2.1; omega)).trans (HE.out.1 i hne))
    have oM : wb.ownsRow w3.heap.size 47 9 (.slice pm tl.length cm) tl.length (S.en tyc tl) := S.own_kept H8.out.2.1 fun g hg hlt => hkp g (q_ge H8.out.2.1 g hg) hlt
    have oN : wb.ownsRow w4.heap.size 81 9 (.slice pn tl.length cn) tl.length (S.en tyc tl) := S.own_kept H8.out.2.2.1 fun g hg hlt => hkp g (Nat.le_trans HL.out.2.1 (q_ge H8.out.2.2.1 g hg)) hlt
    have hbb : Below W.heap.size W wb := by
     have hb8 := H8.out.2.2.2.1
     refine ⟨HG.out.os.trans (HE.out.2.2.2.2.2.os.trans (HE.out.2.2.1.trans hb8.os)), HG.out.tape.trans (HE.out.2.2.2.2.2.tape.trans (HE.out.2.2.2.1.trans hb8.tape)), HG.out.output.trans (HE.out.2.2.2.2.2.output.trans (HE.out.2.2.2.2.1.trans hb8.output)), ?_, fun i hi => ?_⟩
     ·have := HG.out.size; have := HE.out.2.2.2.2.2.size; have := HE.out.2.1; have := hb8.size; omega
     ·have hne : Value.ownBlock (.slice pl tl.length cl) ≠ some i := fun e => by have := q_ge oR i e; have := HL.out; omega
      exact (HG.out.block i (by have := HE.out.2.2.2.2.2.size; have := HE.out.2.1; have := hb8.size; omega) (fun e => hne e.symm)).trans ((HE.out.2.2.2.2.2.block i (by have := HE.out.2.1; have := hb8.size; omega)).trans ((HE.out.1 i hne).trans (hb8.block i hi)))
    have hsame := same_r tl (by omega) _ _ 47 81 0 0 wb (QV.of_own (e := tyc) (fun _ => rfl) oM rfl (by have := HL.out; omega)) (QV.of_own (e := tyc) (fun _ => rfl) oN rfl (by have := HL.out; omega))
    have HB := hid hbb
    clear oM oN hbb hkp oR hcs HE HG H8
    go_wp2_with fail
    refine hsame.mono ?_
    rintro e wd ⟨rfl, kd⟩
    have HD := hid (HB.out.trans (kd.mono HB.out.size))
    clear hsame kd
    go_wp2_with fail
    refine (known_any wd).mono ?_
    rintro e we ⟨rfl, ke⟩
    have HE2 := hid (HD.out.trans (ke.mono HD.out.size))
    clear ke
    go_wp2
    go_ret
    exact ⟨rfl, HE2.out⟩
end Go.Proofs.YtlilefhmohkfkaaGreatDoor.E
