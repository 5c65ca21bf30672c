import Derived.Test.YtlljelfplffglabDoorHTon
import Derived.Test.YtlljelfplffglabDoorHRd
import Derived.Test.YtlljelfplffglabDoorHAp
/-! ShotNames: the walk. -/
namespace Go.Proofs.YtlljelfplffglabDoor.H
open Go.RowKit
open Go.Proofs
open Go.Proofs.YtlljelfplffglabDoor.K
set_option linter.unusedVariables false
set_option linter.unusedSimpArgs false
set_option maxHeartbeats 4000000
set_option maxRecDepth 100000
def L24 : List UInt8 := [255, 0, 255, 0, 255, 0, 255, 0, 255, 0, 255, 0, 255, 0, 255, 0, 255, 0, 255, 0, 255, 0, 255, 0]
theorem L24_len : L24.length = 24 := rfl
def pkd (k : Nat) : List UInt8 := (List.replicate k [255, 0]).flatten
theorem pkd_succ (k : Nat) : pkd (k + 1) = pkd k ++ [255, 0] := by unfold pkd; rw [List.replicate_succ', List.flatten_append]; rfl
theorem pkd_len (k : Nat) : (pkd k).length = 2 * k := by
  induction k with
  | zero => rfl
  | succ k ih => rw [pkd_succ, List.length_append, ih]; simp; omega
theorem pkd_12 : pkd 12 = L24 := rfl
theorem u24 : un L24 = some zs := by kernel_rfl
theorem u24L : unL L24 = zs := by rw [unL, u24]; rfl
theorem u24E : unE L24 = 0 := by rw [unE, u24]; rfl
theorem u22 : un (L24.take 22) = none := by kernel_rfl
theorem u22L : unL (L24.take 22) = [] := by rw [unL, u22]; rfl
theorem u22E : unE (L24.take 22) = 2 := by rw [unE, u22]; rfl
theorem u4 : un ([254, 0, 0, 0] ++ L24.drop 2) = none := by kernel_rfl
theorem u4L : unL ([254, 0, 0, 0] ++ L24.drop 2) = [] := by rw [unL, u4]; rfl
theorem u4E : unE ([254, 0, 0, 0] ++ L24.drop 2) = 2 := by rw [unE, u4]; rfl
theorem u0 : un [] = none := by kernel_rfl
theorem u0L : unL [] = [] := by rw [unL, u0]; rfl
theorem u0E : unE [] = 2 := by rw [unE, u0]; rfl
def ch1 : Ch := ⟨1, 0, 0, 171⟩
theorem zs_at (k : Nat) : zs.getD k 0 = 0 := by
  unfold zs
  rw [List.getD_eq_getElem?_getD, List.getElem?_replicate]
  split <;> rfl
theorem s1_one : s1.getD 1 0 = 171 := by
  unfold s1
  rw [List.getD_eq_getElem?_getD, List.getElem?_set_self (by rw [zs_len]; omega)]; rfl
theorem s1_oth (k : Nat) (h : k ≠ 1) : s1.getD k 0 = 0 := by
  unfold s1
  rw [List.getD_eq_getElem?_getD, List.getElem?_set_ne (Ne.symm h), ← List.getD_eq_getElem?_getD, zs_at]
theorem df_1 : ∀ k, dfTo zs s1 (k + 2) = [ch1]
  | 0 => by rw [dfTo, dfTo, dfTo, zs_at, zs_at, s1_one, s1_oth 0 (by omega)]; rfl
  | k + 1 => by rw [dfTo, df_1 k, zs_at, s1_oth (k + 2) (by omega)]; rfl
theorem dfE_1 : dfE zs s1 = [ch1] := by
  have h : bothS zs s1 = true := (bothS_is zs s1).2 ⟨zs_len, s1_len⟩
  rw [dfE, h]
  exact df_1 3070
theorem dfN_1 : dfN zs s1 = 0 := by
  have h : bothS zs s1 = true := (bothS_is zs s1).2 ⟨zs_len, s1_len⟩
  rw [dfN, h]; rfl
theorem ap_a : apO s1 [ch1] = none := by
  unfold apO ch1
  rw [if_pos s1_len, ap]
  refine if_neg fun h => ?_
  have h2 := h.2.2.2.2
  simp only at h2
  rw [show ((0 : Int) * 64 + 1).toNat = 1 from rfl, s1_one] at h2
  exact absurd h2 (by decide)
def ch2 : Ch := ⟨1, 0, 171, 0⟩
theorem ap_b : apO s1 [ch2] = some zs := by
  unfold apO ch2
  rw [if_pos s1_len, ap, if_pos ⟨by decide, by decide, by decide, by decide, by simp only; rw [show ((0 : Int) * 64 + 1).toNat = 1 from rfl, s1_one]⟩, ap]
  simp only
  rw [show ((0 : Int) * 64 + 1).toNat = 1 from rfl]
  congr 1
def ch3 : Ch := ⟨64, 0, 0, 1⟩
theorem ap_c : apO zs [ch3] = none := by
  unfold apO ch3
  rw [if_pos zs_len, ap]
  exact if_neg fun h => absurd h.2.1 (by decide)
def ch4 : Ch := ⟨0, 48, 0, 1⟩
theorem ap_d : apO zs [ch4] = none := by
  unfold apO ch4
  rw [if_pos zs_len, ap]
  exact if_neg fun h => absurd h.2.2.2.1 (by decide)
theorem ls_one (W : World) (c : Ch) : S.Ls eC 4 (W.alloc (.cells (eC c).toArray 32)) (.slice (some ⟨W.heap.size, 0, none⟩) 1 1) [c] := by
  refine .inr ⟨⟨W.heap.size, 0, none⟩, 1, rfl, by simp, fun i a hi => ?_⟩
  have hi0 : i = 0 := by
    cases i with
    | zero => rfl
    | succ n => simp at hi
  subst hi0
  simp at hi
  subst hi
  refine ⟨W.heap.size, 0, rfl, fun j u hj => ?_⟩
  simpa using S.cell_of _ _ j (eC c) 32 u (heap_alloc_new W _) hj
def tns : List Tn := [⟨0, 440, 9⟩, ⟨12, 65535, 0⟩]
theorem tns_in : ∀ t ∈ tns, inI t.c := by
  intro t ht
  simp only [tns, List.mem_cons, List.not_mem_nil, or_false] at ht
  rcases ht with rfl | rfl <;> (unfold inI; simp)
theorem tns_tl : tns.flatMap tl = [48, 32, 52, 52, 48, 32, 57, 10, 49, 50, 32, 54, 53, 53, 51, 53, 32, 48, 10] := by
  have e1 : (440 : UInt16).toNat = 440 := rfl
  have e2 : (65535 : UInt16).toNat = 65535 := rfl
  have e3 : (9 : UInt8).toNat = 9 := rfl
  have e4 : (0 : UInt8).toNat = 0 := rfl
  have d0 : Lib.decDigits 0 = [48] := by simp [Lib.decDigits]
  have d1 : Lib.decDigits 440 = [52, 52, 48] := by simp [Lib.decDigits]
  have d2 : Lib.decDigits 9 = [57] := by simp [Lib.decDigits]
  have d3 : Lib.decDigits 12 = [49, 50] := by simp [Lib.decDigits]
  have d4 : Lib.decDigits 65535 = [54, 53, 53, 51, 53] := by simp [Lib.decDigits]
  have i0 : Lib.itoa 0 = [48] := by rw [Lib.itoa, if_neg (by decide)]; exact d0
  have i1 : Lib.itoa 12 = [49, 50] := by rw [Lib.itoa, if_neg (by decide)]; exact d3
  simp only [tns, List.flatMap_cons, List.flatMap_nil, tl, e1, e2, e3, e4, d0, d1, d2, d4, i0, i1]
  rfl
theorem ls_tns (W : World) : S.Ls eT 3 (W.alloc (.cells (S.en eT tns).toArray 39)) (.slice (some ⟨W.heap.size, 0, none⟩) 2 2) tns := by
  refine .inr ⟨⟨W.heap.size, 0, none⟩, 2, rfl, by simp [tns], fun i a hi => ?_⟩
  refine ⟨W.heap.size, 0, rfl, fun j u hj => ?_⟩
  have hh := heap_alloc_new W (.cells (S.en eT tns).toArray 39)
  match i, hi with
  | 0, hi =>
    simp [tns] at hi; subst hi
    match j, hj with
    | 0, hj => simp [eT] at hj; subst hj; exact S.cell_of _ _ 0 (S.en eT tns) 39 _ hh rfl
    | 1, hj => simp [eT] at hj; subst hj; exact S.cell_of _ _ 1 (S.en eT tns) 39 _ hh rfl
    | 2, hj => simp [eT] at hj; subst hj; exact S.cell_of _ _ 2 (S.en eT tns) 39 _ hh rfl
    | j + 3, hj => simp [eT] at hj
  | 1, hi =>
    simp [tns] at hi; subst hi
    match j, hj with
    | 0, hj => simp [eT] at hj; subst hj; exact S.cell_of _ _ 3 (S.en eT tns) 39 _ hh rfl
    | 1, hj => simp [eT] at hj; subst hj; exact S.cell_of _ _ 4 (S.en eT tns) 39 _ hh rfl
    | 2, hj => simp [eT] at hj; subst hj; exact S.cell_of _ _ 5 (S.en eT tns) 39 _ hh rfl
    | j + 3, hj => simp [eT] at hj
  | i + 2, hi => simp [tns] at hi
/-- What the walk holds: the screens, the runs. -/
structure NM (w0 : World) (gz go : Nat) (pp : Option Addr) (cp : Nat) (W : World) : Prop where
  bel : Below w0.heap.size w0 W
  z : Row W w0.heap.size (.slice (some ⟨gz, 0, none⟩) 3072 3072) zs
  o : Row W w0.heap.size (.slice (some ⟨go, 0, none⟩) 3072 3072) s1
  p : Row W w0.heap.size (.slice pp 24 cp) L24
theorem NM.next {w0 : World} {gz go : Nat} {pp : Option Addr} {cp : Nat} {W W' : World} (h : NM w0 gz go pp cp W) (b : Below W.heap.size W W') : NM w0 gz go pp cp W' :=
  ⟨h.bel.trans (b.mono h.bel.size), h.z.below b, h.o.below b, h.p.below b⟩
theorem names_walk (w : World) (hT : P10 w) : Calls Tryd.prog 3 #[] w fun e w' => e = .returned (.bool true) ∧ Below w.heap.size w w' := by
  have HP := hid hT
  clear hT
  go_enter Tryd.func3, Tryd.ntmps3
  go_wp2_with fail
  refine (fixed_any w).mono ?_
  rintro e w1 ⟨rfl, hb1⟩
  obtain ⟨wz, hmk, hrz, hbz⟩ := make_full w1
  obtain ⟨wo, hmk2, hro, hbo⟩ := make_full wz
  have hst := row_store hro 1 (by rw [zs_len]; omega) 171
  have hc0 : wo.cell? ⟨wz.heap.size, 1, none⟩ = some (.int .u8 0) := rowAt hro 1 0 (by rw [zs, List.getElem?_replicate, if_pos (by omega)])
  have hf0 := row_fz hro 1
  have hBo := hb1.trans ((hbz.mono hb1.size).trans (hbo.mono (Nat.le_trans hb1.size hbz.size)))
  obtain ⟨ws, hws⟩ : ∃ ws, wo.setCell ⟨wz.heap.size, 1, none⟩ (.int .u8 171) = ws := ⟨_, rfl⟩
  have hso : Row ws w.heap.size (.slice (some ⟨wz.heap.size, 0, none⟩) 3072 3072) s1 := by rw [← hws]; exact hst.mono (Nat.le_trans hb1.size hbz.size)
  have hlz := hrz.lt w1.heap.size rfl
  have hsz : Row ws w.heap.size (.slice (some ⟨w1.heap.size, 0, none⟩) 3072 3072) zs := by
    rw [← hws]
    exact ((hrz.below hbo).kept fun g e _ => heap_setCell_other wo ⟨wz.heap.size, 1, none⟩ g _ (by
      have e2 : w1.heap.size = g := by simpa [Value.ownBlock] using e
      simp; omega)).mono hb1.size
  have hbs : Below w.heap.size w ws := by rw [← hws]; exact hBo.setCell (p := ⟨wz.heap.size, 1, none⟩) (by show w.heap.size ≤ wz.heap.size; have := hb1.size; have := hbz.size; omega) _
  have HN0 := hid (And.intro hbs (And.intro hsz hso))
  obtain ⟨gz, hgz⟩ : ∃ gz, w1.heap.size = gz := ⟨_, rfl⟩
  obtain ⟨go, hgo⟩ : ∃ go, wz.heap.size = go := ⟨_, rfl⟩
  rw [hgz, hgo] at HN0
  rw [hgz] at hmk
  rw [hgo] at hmk2 hc0 hf0 hws
  clear hst hBo hso hlz hsz hbs hrz hro hbz hbo hb1
  go_upto_region 6 with fail
  try rw [hws]
  clear hws hmk hmk2 hc0 hf0 hgz hgo
  go_wp2
  go_loopw [3, 4] (fun v i wr => ∃ k : Nat, k ≤ 12 ∧ i = .int .i64 (k : Int) ∧ Row wr ws.heap.size v (pkd k) ∧ Below ws.heap.size ws wr) (fun _ i _ => 12 - (intOf i).toNat)
  case atStart => exact ⟨0, by omega, rfl, row_nil _ _, Below.refl _ _⟩
  case round =>
    obtain ⟨k, hk, rfl, hr, hb⟩ := hrel
    by_cases hlt : k < 12
    · have i1 : (k : Int) < 12 := by omega
      have hpl := pkd_len k
      have hps := pkd_succ k
      have hr6 : Row (wr.alloc (.cells (bv [255, 0]).toArray 5)) ws.heap.size u3 (pkd k) := hr.below ((Below.refl _ _).alloc (Nat.le_refl _) _)
      have hb6 : Below ws.heap.size ws (wr.alloc (.cells (bv [255, 0]).toArray 5)) := hb.alloc hb.size _
      have hs6 := (row_of_alloc wr ws.heap.size hb.size [255, 0] (by decide)).sl
      have HH := hid (And.intro hr6 (And.intro hb6 hs6))
      have HPS := hid (And.intro hps hpl)
      clear hr6 hb6 hs6 hr hb hps hpl
      go_wp2_with (first | (at_builtin; refine wpList_append_bytes _ rfl _ _ rfl ws.heap.size _ (pkd k) rfl HH.out.1 _ [255, 0] rfl HH.out.2.2 (by rw [HPS.out.2]; unfold room; simp; omega) HH.out.2.1.size ?_))
      intro v1 w2 hr1 hg1
      have hb1 := HH.out.2.1.trans (below_append HH.out.1 hg1 HH.out.2.1.size)
      rw [← HPS.out.1] at hr1
      have HE := hid (And.intro hr1 hb1)
      clear hr1 hg1 hb1 HH
      go_wp2
      go_roundw
      case rel => exact ⟨k + 1, by omega, by go_num, HE.out.1, HE.out.2⟩
      case measure => simp [intOf]; omega
    · obtain rfl : k = 12 := by omega
      rw [pkd_12] at hr
      obtain ⟨pp, cp, hv⟩ := own_val hr
      rw [L24_len] at hv
      subst hv
      have hcp : 24 ≤ cp := by
        rcases hr.2 with ⟨h, _⟩ | ⟨_, _, _, h, _, _, h2, _⟩
        · simp at h
        · simp only [Value.slice.injEq] at h; rw [h.2.2]; simpa [L24_len] using h2
      have hnm : NM w gz go pp cp wr := ⟨HN0.out.1.trans (hb.mono HN0.out.1.size), HN0.out.2.1.below hb, HN0.out.2.2.below hb, hr.mono HN0.out.1.size⟩
      have HM := hid hnm
      clear hnm hr hb HN0
      have h1 := unpack_any _ L24 (by rw [L24_len]; unfold room; omega) wr HM.out.p.sl
      rw [u24L, u24E, zs_len] at h1
      go_wp2_with fail
      refine (h1).mono ?_
      rintro e w2 ⟨p1, c1, rfl, hr1, hbn⟩
      have HM := hid (HM.out.next hbn)
      have HU := hid hr1
      clear hr1 h1
      clear hbn
      have hsl := Sl.take HM.out.p.sl 22 (by rw [L24_len]; omega)
      have h1 := unpack_any _ (L24.take 22) (by rw [List.length_take]; unfold room; omega) w2 hsl
      rw [u22L, u22E] at h1
      have hsx := fun W => slice_to W pp 24 cp 22 22 rfl (by omega)
      clear hsl
      go_wp2_with fail
      refine (h1).mono ?_
      rintro e w3 ⟨p2, c2, rfl, hr2, hbn⟩
      have HM := hid (HM.out.next hbn)
      have HU := hid (HU.out.below hbn)
      clear hr2 h1 hsx
      clear hbn
      obtain ⟨x, hx⟩ : ∃ x : Addr, pp = some x := by
        rcases HM.out.p.sl with ⟨h, _⟩ | ⟨x, c, h, _⟩
        · simp at h
        · simp only [Value.slice.injEq] at h; exact ⟨x, h.1⟩
      subst hx
      have hdr := (sl_drop HM.out.p.sl 2 (by rw [L24_len]; omega)).2.2
      have hsx := fun W => slice_from W (some x) 24 cp 2 2 rfl (by omega)
      have hcp2 : ¬ cp = 2 := by omega
      simp only [hcp2, if_false, Option.map_some] at hsx
      have hbz : Below w3.heap.size w3 (w3.alloc (.cells (bv [254, 0, 0, 0]).toArray 5)) := (Below.refl _ _).alloc (Nat.le_refl _) _
      have HH := hid (And.intro (row_of_alloc w3 w3.heap.size (Nat.le_refl _) [254, 0, 0, 0] (by decide)) (And.intro (hdr.below hbz) hbz))
      clear hdr hbz
      go_wp2_with (first | (at_builtin; refine wpList_append_bytes _ rfl _ _ rfl w3.heap.size _ [254, 0, 0, 0] rfl HH.out.1 _ (L24.drop 2) rfl HH.out.2.1 (by rw [List.length_drop, L24_len]; unfold room; simp) HH.out.2.2.size ?_))
      intro v4 w4 hr4 hg4
      have hb4 : Below w3.heap.size w3 w4 := hg4.belowAll (fun g e => (HH.out.1.lt g e).1) HH.out.2.2 (Nat.le_refl _)
      have HM := hid (HM.out.next hb4)
      have HU := hid (HU.out.below hb4)
      obtain ⟨p4, c4', hv4⟩ := own_val hr4
      have h1 := unpack_any _ ([254, 0, 0, 0] ++ L24.drop 2) (by rw [List.length_append, List.length_drop, L24_len]; unfold room; simp) w4 hr4.sl
      rw [u4L, u4E] at h1
      rw [hv4] at h1
      subst hv4
      generalize ([254, 0, 0, 0] ++ L24.drop 2).length = n4 at *
      clear hr4 hg4 hb4 HH hsx
      go_wp2_with fail
      refine (h1).mono ?_
      rintro e w5 ⟨p5, c5, rfl, hr5, hbn⟩
      have HM := hid (HM.out.next hbn)
      have HU := hid (HU.out.below hbn)
      clear hr5 h1
      clear hbn
      have h1 := unpack_any (.slice none 0 0) [] (by unfold room; simp) w5 (.inl ⟨rfl, rfl⟩)
      rw [u0L, u0E] at h1
      go_wp2_with fail
      refine (h1).mono ?_
      rintro e w6 ⟨p6, c6, rfl, hr6, hbn⟩
      have HM := hid (HM.out.next hbn)
      have HU := hid (HU.out.below hbn)
      clear hr6 h1
      clear hbn
      have h1 := diff_any _ _ zs s1 w6 HM.out.z.sl HM.out.o.sl
      rw [dfE_1, dfN_1] at h1
      go_wp2_with fail
      refine (h1).mono ?_
      rintro e w7 ⟨p7, c7, rfl, hr7, hbn⟩
      have HM := hid (HM.out.next hbn)
      have HU := hid (HU.out.below hbn)
      have HD := hid hr7
      clear hr7 h1
      clear hbn
      have h1 := apply_any _ _ s1 [ch1] (by simp) w7 HM.out.o.sl (S.own_sl hC HD.out)
      rw [show apL s1 [ch1] = [] by rw [apL, ap_a]; rfl, show apN s1 [ch1] = 2 by rw [apN, ap_a]; rfl] at h1
      go_wp2_with fail
      refine (h1).mono ?_
      rintro e w8 ⟨p8, c8, rfl, hr8, hbn⟩
      have HM := hid (HM.out.next hbn)
      have HU := hid (HU.out.below hbn)
      have HD := hid (S.own_kept HD.out (fun g _ hg => hbn.block g hg))
      clear hr8 h1
      clear hbn
      obtain ⟨wx, hwx⟩ : ∃ wx, w8.alloc (.cells #[.int .i64 1, .int .i64 0, .int .u8 171, .int .u8 0] 32) = wx := ⟨_, rfl⟩
      have hbx : Below w8.heap.size w8 wx := by rw [← hwx]; exact (Below.refl _ _).alloc (Nat.le_refl _) _
      have hlx : S.Ls eC 4 wx (.slice (some ⟨w8.heap.size, 0, none⟩) 1 1) [ch2] := by rw [← hwx]; exact ls_one w8 ch2
      have HM := hid (HM.out.next hbx)
      have HU := hid (HU.out.below hbx)
      have HD := hid (S.own_kept HD.out (fun g _ hg => hbx.block g hg))
      have h1 := apply_any _ _ s1 [ch2] (by simp) wx HM.out.o.sl hlx
      rw [show apL s1 [ch2] = zs by rw [apL, ap_b]; rfl, show apN s1 [ch2] = 0 by rw [apN, ap_b]; rfl, zs_len] at h1
      clear hbx hlx
      go_wp2_with fail
      refine (h1).mono ?_
      rintro e w9 ⟨p9, c9, rfl, hr9, hbn⟩
      have HM := hid (HM.out.next hbn)
      have HU := hid (HU.out.below hbn)
      have HD := hid (S.own_kept HD.out (fun g _ hg => hbn.block g hg))
      have HK := hid hr9
      clear hr9 h1 hwx
      clear hbn
      obtain ⟨wx, hwx⟩ : ∃ wx, w9.alloc (.cells #[.int .i64 64, .int .i64 0, .int .u8 0, .int .u8 1] 32) = wx := ⟨_, rfl⟩
      have hbx : Below w9.heap.size w9 wx := by rw [← hwx]; exact (Below.refl _ _).alloc (Nat.le_refl _) _
      have hlx : S.Ls eC 4 wx (.slice (some ⟨w9.heap.size, 0, none⟩) 1 1) [ch3] := by rw [← hwx]; exact ls_one w9 ch3
      have HM := hid (HM.out.next hbx)
      have HU := hid (HU.out.below hbx)
      have HD := hid (S.own_kept HD.out (fun g _ hg => hbx.block g hg))
      have HK := hid (HK.out.below hbx)
      have h1 := apply_any _ _ zs [ch3] (by simp) wx HM.out.z.sl hlx
      rw [show apL zs [ch3] = [] by rw [apL, ap_c]; rfl, show apN zs [ch3] = 2 by rw [apN, ap_c]; rfl] at h1
      clear hbx hlx
      go_wp2_with fail
      refine (h1).mono ?_
      rintro e w10 ⟨p10, c10, rfl, hr10, hbn⟩
      have HM := hid (HM.out.next hbn)
      have HU := hid (HU.out.below hbn)
      have HD := hid (S.own_kept HD.out (fun g _ hg => hbn.block g hg))
      have HK := hid (HK.out.below hbn)
      clear hr10 h1 hwx
      clear hbn
      obtain ⟨wx, hwx⟩ : ∃ wx, w10.alloc (.cells #[.int .i64 0, .int .i64 48, .int .u8 0, .int .u8 1] 32) = wx := ⟨_, rfl⟩
      have hbx : Below w10.heap.size w10 wx := by rw [← hwx]; exact (Below.refl _ _).alloc (Nat.le_refl _) _
      have hlx : S.Ls eC 4 wx (.slice (some ⟨w10.heap.size, 0, none⟩) 1 1) [ch4] := by rw [← hwx]; exact ls_one w10 ch4
      have HM := hid (HM.out.next hbx)
      have HU := hid (HU.out.below hbx)
      have HD := hid (S.own_kept HD.out (fun g _ hg => hbx.block g hg))
      have HK := hid (HK.out.below hbx)
      have h1 := apply_any _ _ zs [ch4] (by simp) wx HM.out.z.sl hlx
      rw [show apL zs [ch4] = [] by rw [apL, ap_d]; rfl, show apN zs [ch4] = 2 by rw [apN, ap_d]; rfl] at h1
      clear hbx hlx
      go_wp2_with fail
      refine (h1).mono ?_
      rintro e w11 ⟨p11, c11, rfl, hr11, hbn⟩
      have HM := hid (HM.out.next hbn)
      have HU := hid (HU.out.below hbn)
      have HD := hid (S.own_kept HD.out (fun g _ hg => hbn.block g hg))
      have HK := hid (HK.out.below hbn)
      clear hr11 h1 hwx
      clear hbn
      have hdr := (sl_drop HM.out.z.sl 1 (by rw [zs_len]; omega)).2.2
      have hsx := fun W => slice_from W (some ⟨gz, 0, none⟩) 3072 3072 1 1 rfl (by omega)
      simp only [show ¬ (3072 : Nat) = 1 by decide, if_false, Option.map_some, Addr.add_lit, Nat.zero_add] at hsx
      have h1 := art_any _ (zs.drop 1) w11 hdr
      have hl1 : ¬ (zs.drop 1).length = 3072 := by rw [List.length_drop, zs_len]; omega
      simp only [hl1, if_false, Addr.add_lit, Nat.zero_add] at h1
      clear hdr hl1
      go_wp2_with fail
      refine (h1).mono ?_
      rintro e w12 ⟨rfl, hbn⟩
      have HM := hid (HM.out.next hbn)
      have HU := hid (HU.out.below hbn)
      have HD := hid (S.own_kept HD.out (fun g _ hg => hbn.block g hg))
      have HK := hid (HK.out.below hbn)
      clear h1 hsx
      clear hbn
      have h1 : Calls Tryd.prog 10 #[.string ⟨#[]⟩] w12 fun e w' => e = .returned (.tuple #[.slice none 0 0, .int .i64 2]) ∧ Below w12.heap.size w12 w' := by
        refine (read_any ⟨#[]⟩ w12).mono ?_
        rintro e w' ⟨⟨u, h⟩, hb⟩
        rcases h with ⟨h, _⟩ | ⟨_, h⟩
        · exact absurd h.1 (by decide)
        · exact ⟨h, hb⟩
      go_wp2_with fail
      refine (h1).mono ?_
      rintro e w13 ⟨rfl, hbn⟩
      have HM := hid (HM.out.next hbn)
      have HU := hid (HU.out.below hbn)
      have HD := hid (S.own_kept HD.out (fun g _ hg => hbn.block g hg))
      have HK := hid (HK.out.below hbn)
      clear h1
      clear hbn
      have cu := HU.out.sl.conv (by rw [zs_len]; decide)
      have cz := HM.out.z.sl.conv (by rw [zs_len]; decide)
      have ck := HK.out.sl.conv (by rw [zs_len]; decide)
      obtain ⟨gd, cd, hgd⟩ := own_pos HD.out (by simp)
      simp only [Value.slice.injEq] at hgd
      obtain ⟨rfl, _, rfl⟩ := hgd
      have hdc := fun j u hj => World.ownsRow.cells HD.out (g := gd) rfl j u hj
      have d0 : w13.cell? ⟨gd, 0, none⟩ = some (.int .i64 1) := by simpa [Addr.add_lit] using hdc 0 (.int .i64 1) rfl
      have d1 : w13.cell? ⟨gd, 1, none⟩ = some (.int .i64 0) := by simpa [Addr.add_lit] using hdc 1 (.int .i64 0) rfl
      have d2 : w13.cell? ⟨gd, 2, none⟩ = some (.int .u8 0) := by simpa [Addr.add_lit] using hdc 2 (.int .u8 0) rfl
      have d3 : w13.cell? ⟨gd, 3, none⟩ = some (.int .u8 171) := by simpa [Addr.add_lit] using hdc 3 (.int .u8 171) rfl
      generalize (⟨zs.toArray⟩ : ByteArray) = ZZ at *
      have hbW := HM.out.bel
      obtain ⟨wt, hwt⟩ : ∃ wt, w13.alloc (.cells #[.int .i64 0, .int .u16 440, .int .u8 9, .int .i64 12, .int .u16 65535, .int .u8 0] 39) = wt := ⟨_, rfl⟩
      have hbt : Below w13.heap.size w13 wt := by rw [← hwt]; exact (Below.refl _ _).alloc (Nat.le_refl _) _
      have hlt : S.Ls eT 3 wt (.slice (some ⟨w13.heap.size, 0, none⟩) 2 2) tns := by rw [← hwt]; exact ls_tns w13
      have hbWt := hbW.trans (hbt.mono hbW.size)
      have h1 := tones_any _ tns tns_in (by unfold room; simp [tns]) wt hlt (HP.out.below hbWt)
      rw [tns_tl] at h1
      have HF := hid hbWt
      clear hdc hbW hbt hlt hbWt HU HM HK HD
      go_wp2_with fail
      refine h1.mono ?_
      rintro e w14 ⟨rfl, hbn⟩
      have HE := hid (HF.out.trans (hbn.mono HF.out.size))
      clear hbn h1 cu cz ck d0 d1 d2 d3 hwt
      go_wp2
      go_ret
      exact ⟨rfl, HE.out⟩
end Go.Proofs.YtlljelfplffglabDoor.H
