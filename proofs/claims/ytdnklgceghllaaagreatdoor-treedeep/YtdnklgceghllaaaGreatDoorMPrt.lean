import Derived.Test.YtdnklgceghllaaaGreatDoorMPDef
import Derived.Test.YtdnklgceghllaaaGreatDoorRDefs
namespace Go.Proofs.YtdnklgceghllaaaGreatDoor.M
open Go.RowKit
open Go.Proofs
open Go.Proofs.YtdnklgceghllaaaGreatDoor.Y (Nd Df Ps Bk BS DV BV D1 B1 NV dfc cells6 hid)
open Go.Proofs.YtdnklgceghllaaaGreatDoor.R (chk)
set_option linter.unusedVariables false
set_option linter.unusedSimpArgs false
set_option maxHeartbeats 4000000
set_option maxRecDepth 100000
def dtx (t : List UInt8) (ds : List Df) : List UInt8 := ds.foldl (fun t d => endL (puts t (dw d))) t
def btx (t : List UInt8) (bs : List Bk) : List UInt8 := bs.foldl (fun t b => endL (puts t (bw b))) t
theorem dtx_take (t : List UInt8) (ds : List Df) (k : Nat) (d : Df) (h : ds[k]? = some d) : dtx t (ds.take (k + 1)) = endL (puts (dtx t (ds.take k)) (dw d)) := by
 unfold dtx
 rw [List.take_add_one, h, List.foldl_append]
 rfl
theorem btx_take (t : List UInt8) (ds : List Bk) (k : Nat) (d : Bk) (h : ds[k]? = some d) : btx t (ds.take (k + 1)) = endL (puts (btx t (ds.take k)) (bw d)) := by
 unfold btx
 rw [List.take_add_one, h, List.foldl_append]
 rfl
def ptx (ds : List Df) (bs : List Bk) : List UInt8 := btx (dtx [] ds) bs
def prn (ds : List Df) (bs : List Bk) : ByteArray × Int := if chk ds bs = 0 then (if 65536 < (ptx ds bs).length then (⟨#[]⟩, 90) else (⟨(ptx ds bs).toArray⟩, 0)) else (⟨#[]⟩, chk ds bs)
theorem en_bz (l : List UInt8) : S.en Y.eb l = bz l := by
 induction l with
 | nil => rfl
 | cons a r ih => rw [S.en_cons, ih]; rfl
theorem print_any (ds : List Df) (bs : List Bk) (hnm : ∀ d ∈ ds, d.nm.size <= maxLen) (hlb : bs.length <= 140737488355328) (hwd : chk ds bs = 0 -> ∀ d ∈ ds, ∀ w ∈ dw d, w.size <= 100) (hwb : chk ds bs = 0 -> ∀ b ∈ bs, b.2.length <= 140737488355328 /\ ∀ w ∈ bw b, w.size <= 100) (dv bv : Value) (O : Nat -> Prop) (W : World) (hO : ∀ j, O j -> j < W.heap.size) (hD : DV W O dv ds) (hK : BV W O bv bs) (hT : P10 W) :
  Calls Tryz.prog 11 #[.agg #[dv, bv]] W fun e w' => e = .returned (.tuple #[.string (prn ds bs).1, .int .i64 (prn ds bs).2]) /\ Below W.heap.size W w' := by
 obtain ⟨p1, c1, e1, hl1, _⟩ := id hD
 obtain ⟨p2, c2, e2, _⟩ := id hK
 obtain ⟨W1, hW1⟩ : ∃ W1, W.alloc (.cells #[dv, bv] 26) = W1 := ⟨_, rfl⟩
 have v1 : W1.heap[W.heap.size]? = some (.cells [dv, bv].toArray 26 (0, 0)) := by rw [<- hW1]; exact heap_alloc_new W _
 have hB : Below W.heap.size W W1 := by rw [<- hW1]; exact (Below.refl _ _).alloc (Nat.le_refl _) _
 have hlt1 : W.heap.size < W1.heap.size := (Array.getElem?_eq_some_iff.1 v1).1
 have hck := R.check_any ds bs hnm hlb _ _ O W1 (fun j hj => Nat.lt_of_lt_of_le (hO j hj) hB.size) (hD.below hB hO) (hK.below hB hO)
 have x0 := S.cell_of W1 _ 0 _ 26 _ v1 rfl
 have x1 := S.cell_of W1 _ 1 _ 26 _ v1 rfl
 have HO := hid (fun (w : World) (hb : Below W1.heap.size W1 w) => show Below W.heap.size W w /\ (∀ j, O j -> j < w.heap.size) /\ DV w O dv ds /\ BV w O bv bs /\ P10 w from by
  have h := hB.trans (hb.mono hB.size)
  exact ⟨h, fun j hj => Nat.lt_of_lt_of_le (hO j hj) h.size, hD.below h hO, hK.below h hO, hT.below h⟩)
 have HV := hid v1
 have HW := hid (And.intro hwd hwb)
 have HL := hid (And.intro hl1 (And.intro hlb hlt1))
 clear hD hK hT hO hB hnm hwd hwb v1 hl1 hlb hlt1
 subst e1 e2
 obtain ⟨RES, hRES⟩ : ∃ R, prn ds bs = R := ⟨_, rfl⟩
 rw [hRES]
 have HRES := hid hRES
 clear hRES
 go_enter Tryz.func11, Tryz.ntmps11
 go_wp2_with fail
 try rw [hW1]
 refine hck.mono ?_
 rintro e w2 ⟨rfl, hb2⟩
 obtain ⟨hW2, hO2, hD2, hK2, hT2⟩ := HO.out w2 hb2
 have v2 := (hb2.block _ HL.out.2.2).trans HV.out
 have HB2 := hid hW2
 clear hck x0 x1 HO HV hW1
 by_cases hz : chk ds bs = 0
 case neg =>
  have hE : RES = (⟨#[]⟩, chk ds bs) := by rw [<- HRES.out]; unfold prn; rw [if_neg hz]
  have b1 : (chk ds bs != 0) = true := by simpa using hz
  clear HRES HW
  generalize chk ds bs = c at *
  go_wp2
  go_ret2
  exact ⟨by rw [hE]; rfl, HB2.out⟩
 have hP := show prn ds bs = if 65536 < (ptx ds bs).length then (⟨#[]⟩, 90) else (⟨(ptx ds bs).toArray⟩, 0) from by unfold prn; rw [if_pos hz]
 rw [HRES.out] at hP
 have HRE := hid hP
 clear hP HRES
 have hwd := HW.out.1 hz
 have hwb := HW.out.2 hz
 rw [hz]
 obtain ⟨g, hg⟩ : ∃ g, w2.heap.size = g := ⟨_, rfl⟩
 obtain ⟨W3, hW3⟩ : ∃ W3, w2.alloc (.cells #[.slice none 0 0] 67) = W3 := ⟨_, rfl⟩
 have hb3 : Below w2.heap.size w2 W3 := by rw [<- hW3]; exact (Below.refl _ _).alloc (Nat.le_refl _) _
 have hP3 : PS w2 g W3 [] := ⟨⟨.slice none 0 0, by rw [<- hW3, <- hg]; exact heap_alloc_new w2 _, World.ownsRow_nil _ _ _ _⟩, by rw [<- hg]; exact hb3, by simp⟩
 have hlt : W.heap.size < g := by rw [<- hg]; exact (Array.getElem?_eq_some_iff.1 v2).1
 have v3 := (hb3.block _ (by omega)).trans v2
 have hBX : ∀ w, KP g W3 w -> w.cell? ⟨W.heap.size, 0, none⟩ = some (.slice p1 ds.length c1) /\ w.cell? ⟨W.heap.size, 1, none⟩ = some (.slice p2 bs.length c2) := fun w k => by
  have v4 := k _ _ v3 (by omega) (by intro cs e; simp only [Obj.cells.injEq] at e; exact absurd e.2.1 (by decide))
  exact ⟨S.cell_of w _ 0 _ 26 _ v4 rfl, S.cell_of w _ 1 _ 26 _ v4 rfl⟩
 obtain ⟨x0, x1⟩ := hBX W3 (KP.refl g W3)
 have HX := hid hBX
 have HC := hid (And.intro hg (And.intro hT2 (And.intro (show ∀ i, O i -> i < g from fun i hi => by rw [<- hg]; exact hO2 i hi) (And.intro hD2 (And.intro hK2 (And.intro hwd hwb))))))
 have HP3 := hid hP3
 have Hlt := hid hlt
 clear hb2 hb3 hP3 v2 v3 hBX hT2 hO2 hD2 hK2 hwd hwb hW2 hlt hz HW
 go_wp2_with fail
 try rw [HC.out.1]
 try rw [hW3]
 go_loopw [18] (fun i wr => ∃ k : Nat, k <= ds.length /\ i = .int .i64 (k : Int) /\ PS w2 g wr (dtx [] (ds.take k)) /\ KP g W3 wr) (fun i _ => ds.length - (intOf i).toNat)
 case atStart => exact ⟨0, by omega, rfl, HP3.out, KP.refl g W3⟩
 case round =>
  obtain ⟨k, hk, rfl, hP, hKp⟩ := hrel
  have hl := HL.out.1
  by_cases hlt : k < ds.length
  ·have i1 : (k : Int) < ds.length := by omega
   have ea := List.getElem?_eq_getElem hlt
   obtain ⟨hg', hT', hO', hD', hK', hwd', hwb'⟩ := HC.out
   have hwm := hwd' ds[k] (List.getElem_mem _)
   have htk := dtx_take [] ds k ds[k] ea
   generalize ds[k] = d at *
   obtain ⟨p0, c0, e0, _, hp⟩ := hD'
   simp only [Value.slice.injEq] at e0
   obtain ⟨rfl, _, rfl⟩ := e0
   obtain ⟨b, o, rfl, hOb, hN⟩ := hp k d ea
   obtain ⟨tv, hc, ht⟩ := hN
   obtain ⟨q1, d1, rfl, _, _⟩ := ht.ex
   have k1 := hP.bel.block b (hO' b hOb)
   obtain ⟨g0, g1, g2, g3, g4, g5⟩ := cells6 fun j x hx => (World.cell?_of_block (w := w2) (a := ⟨b, o + k * 6 + j, none⟩) k1).trans (hc j x hx)
   obtain ⟨W5, hW5, hP5, hK5, v5, hbg⟩ := box_def hP d (.slice q1 d.body.length d1)
   have hcall := def_any d _ w2 g W5 (dtx [] (ds.take k)) O hg' hT' hP5 hO' ht hwm
   obtain ⟨y0, y1, y2, y3, y4, y5⟩ := boxd_cells v5 hbg (KP.refl g W5)
   unfold dfc at hcall
   have HH := hid (And.intro (hKp.trans hK5) htk)
   clear hP5 hK5 v5 hbg hP hKp htk hc ht k1 hp hOb ea hg' hT' hO' hK' hwd' hwb' hwm
   go_wp2_with fail
   try rw [hW5]
   refine hcall.mono ?_
   rintro e w6 ⟨rfl, h6, k6⟩
   have HR := hid (show PS w2 g w6 (dtx [] (ds.take (k + 1))) /\ KP g W3 w6 from ⟨by rw [HH.out.2]; exact h6, HH.out.1.trans k6⟩)
   clear hcall h6 k6 y0 y1 y2 y3 y4 y5 g0 g1 g2 g3 g4 g5 hW5
   go_wp2
   go_roundw
   case rel => first | exact ⟨k + 1, by omega, by go_num, HR.out.1, HR.out.2⟩ | ((repeat apply Exists.intro); refine ⟨⟨k + 1, by omega, ?_, HR.out.1, HR.out.2⟩, rfl⟩; go_num)
   case measure => simp [intOf]; omega
  ·obtain rfl : k = ds.length := by omega
   have i1 : ¬ ((ds.length : Nat) : Int) < ds.length := by omega
   rw [List.take_length] at hP
   obtain ⟨y0, y1⟩ := HX.out wr hKp
   have HQ := hid (And.intro hP hKp)
   clear hP hKp x0 x1
   go_wp2_with fail
   go_loopw [28] (fun i wr => ∃ k : Nat, k <= bs.length /\ i = .int .i64 (k : Int) /\ PS w2 g wr (btx (dtx [] ds) (bs.take k)) /\ KP g W3 wr) (fun i _ => bs.length - (intOf i).toNat)
   case atStart => exact ⟨0, by omega, rfl, HQ.out.1, HQ.out.2⟩
   case round =>
    obtain ⟨k, hk, rfl, hP, hKp⟩ := hrel
    have hl := HL.out.2.1
    by_cases hlt : k < bs.length
    ·have i1 : (k : Int) < bs.length := by omega
     have ea := List.getElem?_eq_getElem hlt
     obtain ⟨hg', hT', hO', hD', hK', hwd', hwb'⟩ := HC.out
     have hwm := hwb' bs[k] (List.getElem_mem _)
     have htk := btx_take (dtx [] ds) bs k bs[k] ea
     generalize bs[k] = d at *
     obtain ⟨p0, c0, e0, hp⟩ := hK'
     simp only [Value.slice.injEq] at e0
     obtain ⟨rfl, _, rfl⟩ := e0
     obtain ⟨b, o, rfl, hOb, hN⟩ := hp k d ea
     obtain ⟨tv, hc, ht⟩ := hN
     obtain ⟨q1, d1, rfl⟩ := ht.ex
     have k1 := hP.bel.block b (hO' b hOb)
     have g0 := (World.cell?_of_block (w := w2) (a := ⟨b, o + k * 2, none⟩) k1).trans hc.1
     have g1 := (World.cell?_of_block (w := w2) (a := ⟨b, o + k * 2 + 1, none⟩) k1).trans hc.2
     obtain ⟨W5, hW5⟩ : ∃ W5, wr.alloc (.cells #[.int .i64 d.1, .slice q1 d.2.length d1] 63) = W5 := ⟨_, rfl⟩
     have hb5 : Below wr.heap.size wr W5 := by rw [<- hW5]; exact (Below.refl _ _).alloc (Nat.le_refl _) _
     have v5 : W5.heap[wr.heap.size]? = some (.cells [.int .i64 d.1, .slice q1 d.2.length d1].toArray 63 (0, 0)) := by rw [<- hW5]; exact heap_alloc_new wr _
     have z0 := S.cell_of W5 _ 0 _ 63 _ v5 rfl
     have z1 := S.cell_of W5 _ 1 _ 63 _ v5 rfl
     have hcall := bank_any d _ w2 g W5 (btx (dtx [] ds) (bs.take k)) O hg' hT' (hP.next hb5) hO' ht hwm.1 hwm.2
     have HH := hid (And.intro (hKp.trans (KP.of hb5)) htk)
     clear hb5 v5 hP hKp htk hc ht k1 hp hOb ea hg' hT' hO' hD' hwd' hwb' hwm
     go_wp2_with fail
     try rw [hW5]
     refine hcall.mono ?_
     rintro e w6 ⟨rfl, h6, k6⟩
     have HR := hid (show PS w2 g w6 (btx (dtx [] ds) (bs.take (k + 1))) /\ KP g W3 w6 from ⟨by rw [HH.out.2]; exact h6, HH.out.1.trans k6⟩)
     clear hcall h6 k6 z0 z1 g0 g1 hW5
     go_wp2
     go_roundw
     case rel => first | exact ⟨k + 1, by omega, by go_num, HR.out.1, HR.out.2⟩ | ((repeat apply Exists.intro); refine ⟨⟨k + 1, by omega, ?_, HR.out.1, HR.out.2⟩, rfl⟩; go_num)
     case measure => simp [intOf]; omega
    ·obtain rfl : k = bs.length := by omega
     have i1 : ¬ ((bs.length : Nat) : Int) < bs.length := by omega
     rw [List.take_length] at hP
     have hpt : btx (dtx [] ds) bs = ptx ds bs := rfl
     rw [hpt] at hP
     have hRE := HRE.out
     clear HRE
     generalize ptx ds bs = T at *
     obtain ⟨v, hv, hr⟩ := hP.blk
     have hBel : Below W.heap.size W wr := HB2.out.trans (hP.bel.mono (Nat.le_of_lt Hlt.out))
     have hcv := (Y.own_bs (O := fun _ => True) (l := T) (by rw [en_bz]; exact hr) (fun _ _ => trivial)).conv
     have hfew := hP.few
     obtain ⟨pv, cv, rfl⟩ := row_val hr
     have z0 : wr.cell? ⟨g, 0, none⟩ = some (.slice pv T.length cv) := S.cell_of wr g 0 _ PRT _ hv rfl
     have HBe := hid hBel
     clear hP hv hr hKp hpt hBel
     by_cases hlong : 65536 < T.length
     ·have i2 : (65536 : Int) < (T.length : Int) := by omega
      rw [if_pos hlong] at hRE
      have HRF := hid hRE
      clear hRE
      go_wp2
      go_ret2
      exact ⟨by rw [HRF.out]; rfl, HBe.out⟩
     ·have i2 : ¬ (65536 : Int) < (T.length : Int) := by omega
      rw [if_neg hlong] at hRE
      have HRF := hid hRE
      clear hRE
      go_wp2
      go_ret2
      exact ⟨by rw [HRF.out]; rfl, HBe.out⟩
end Go.Proofs.YtdnklgceghllaaaGreatDoor.M
namespace Go.Proofs.YtdnklgceghllaaaGreatDoor.M
open Go.RowKit
open Go.Proofs
open Go.Proofs.YtdnklgceghllaaaGreatDoor.Y (Nd Df Ps Bk)
open Go.Proofs.YtdnklgceghllaaaGreatDoor.R (chk ck cks dfE dsE bkE isNm own1 fits inn)
set_option linter.unusedVariables false
theorem dd_len : ∀ (k u : Nat), u < 10 ^ (k + 1) -> (Lib.decDigits u).length <= k + 1
 | k, u, h => by
  rw [Lib.decDigits]
  split
  ·simp
  ·rename_i h1
   cases k with
   | zero => simp at h; omega
   | succ k =>
    have := dd_len k (u / 10) (by rw [Nat.pow_succ] at h; omega)
    simp only [List.length_append, List.length_cons, List.length_nil]
    omega
theorem dcm_size (v : Int) : (dcm v).size <= 100 := by
 have h : (dcm v).size = (Lib.itoa (wrap64 v)).length := by simp [dcm, ByteArray.size]
 rw [h]
 unfold Lib.itoa
 split
 ·have := dd_len 19 (wrap64 v).natAbs (by unfold wrap64; omega)
  simp only [List.length_cons]
  omega
 ·have := dd_len 19 (wrap64 v).toNat (by unfold wrap64; omega)
  omega
theorem nm_size {s : ByteArray} (h : isNm s = true) : s.size <= 31 := by
 unfold isNm at h
 rw [Bool.and_eq_true] at h
 have h1 := h.1
 unfold T.nameB at h1
 simp only [Bool.and_eq_true, decide_eq_true_eq] at h1
 have := h1.2.1
 rwa [T.size_list] at this
theorem cks_mem {names : List ByteArray} {i : Nat × Bool} : ∀ {l : List Nd}, cks names l i = 0 -> ∀ m ∈ l, ck names m i = 0
 | [], _, m, hm => by cases hm
 | n :: r, h, m, hm => by
  rw [R.cks_cons] at h
  have hn : ck names n i = 0 := by
   by_cases e : ck names n i = 0
   ·exact e
   ·rw [if_neg e] at h; exact absurd h e
  rw [if_pos hn] at h
  rcases List.mem_cons.1 hm with rfl | hm
  ·exact hn
  ·exact cks_mem h m hm
theorem ck_own {names : List ByteArray} {n : Nd} {i : Nat × Bool} (h : ck names n i = 0) : own1 names n i = 0 /\ cks names n.th (inn n i) = 0 /\ cks names n.el (inn n i) = 0 := by
 rw [R.ck_is] at h
 by_cases h0 : own1 names n i = 0
 ·rw [if_pos h0] at h
  by_cases h1 : cks names n.th (inn n i) = 0
  ·rw [if_pos h1] at h
   exact ⟨h0, h1, h⟩
  ·rw [if_neg h1] at h; exact absurd h h1
 ·rw [if_neg h0] at h; exact absurd h h0
theorem own_is {names : List ByteArray} {n : Nd} {i : Nat × Bool} (h : own1 names n i = 0) : R.uses n = true /\ fits names n = true /\ ¬ (n.k = 9 /\ i.2 = true) /\ ¬ (R.strc n.k = true /\ i.1 = 32) := by
 unfold own1 at h
 by_cases h1 : R.uses n = false
 ·rw [if_pos h1] at h; omega
 ·rw [if_neg h1] at h
  by_cases h2 : fits names n = false
  ·rw [if_pos h2] at h; omega
  ·rw [if_neg h2] at h
   by_cases h3 : n.k = 9 /\ i.2 = true
   ·rw [if_pos h3] at h; omega
   ·rw [if_neg h3] at h
    by_cases h4 : R.strc n.k = true /\ i.1 = 32
    ·rw [if_pos h4] at h; omega
    ·exact ⟨by simpa using h1, by simpa using h2, h3, h4⟩
theorem fits_nm {names : List ByteArray} {n : Nd} (h : fits names n = true) (hk : n.k = 3) : n.nm ∈ names := by
 unfold fits at h
 rw [if_neg (by omega), if_pos hk, List.any_eq_true] at h
 obtain ⟨s, hs, e⟩ := h
 rw [decide_eq_true_eq] at e
 exact e ▸ hs
theorem nwf_small (k op v : Int) (nm : ByteArray) (has : Bool) (a b : List ByteArray) (hn : k = 3 -> nm.size <= 100) (ha : ∀ w ∈ a, w.size <= 100) (hb : ∀ w ∈ b, w.size <= 100) : ∀ w ∈ nwf k op v nm has a b, w.size <= 100 := by
 have c1 : ∀ x : ByteArray, x.size <= 100 -> ∀ w ∈ [x], w.size <= 100 := fun x hx w hw => by rw [List.mem_singleton] at hw; rw [hw]; exact hx
 have c2 : ∀ (p q : List ByteArray), (∀ w ∈ p, w.size <= 100) -> (∀ w ∈ q, w.size <= 100) -> ∀ w ∈ p ++ q, w.size <= 100 := fun p q hp hq w hw => by
  rcases List.mem_append.1 hw with h | h
  ·exact hp w h
  ·exact hq w h
 unfold nwf
 split
 ·exact c1 _ (pn_size op)
 ·split
  ·exact c1 _ (dcm_size v)
  ·split
   ·rename_i h; exact c1 _ (hn h)
   ·split
    ·exact c1 _ (by decide)
    ·split
     ·split
      ·exact c2 _ _ (c2 _ _ (c2 _ _ (c2 _ _ (c1 _ (by decide)) ha) (c1 _ (by decide))) hb) (c1 _ (by decide))
      ·exact c2 _ _ (c2 _ _ (c1 _ (by decide)) ha) (c1 _ (by decide))
     ·split
      ·exact c2 _ _ (c2 _ _ (c2 _ _ (c2 _ _ (c1 _ (by decide)) ha) (c1 _ (by decide))) hb) (c1 _ (by decide))
      ·split
       ·exact c2 _ _ (c2 _ _ (c1 _ (by decide)) ha) (c1 _ (by decide))
       ·split
        ·exact c2 _ _ (c2 _ _ (c1 _ (by decide)) ha) (c1 _ (by decide))
        ·split
         ·exact c2 _ _ (c2 _ _ (c1 _ (by decide)) ha) (c1 _ (by decide))
         ·intro w hw; cases hw
theorem nws_small {l : List Nd} (h : ∀ m ∈ l, ∀ w ∈ nw m, w.size <= 100) : ∀ w ∈ nws l, w.size <= 100 := fun w hw => by
 unfold nws at hw
 obtain ⟨x, hx, hw⟩ := List.mem_flatten.1 hw
 obtain ⟨m, hm, rfl⟩ := List.mem_map.1 hx
 exact h m hm w hw
theorem nw_small {names : List ByteArray} (hN : ∀ s ∈ names, s.size <= 100) (n : Nd) : ∀ i, ck names n i = 0 -> ∀ w ∈ nw n, w.size <= 100 := by
 refine Y.Nd.ind (P := fun n => ∀ i, ck names n i = 0 -> ∀ w ∈ nw n, w.size <= 100) ?_ n
 intro n h1 h2 i h
 obtain ⟨ho, ht, he⟩ := ck_own h
 obtain ⟨_, hf, _, _⟩ := own_is ho
 rw [nw_is]
 exact nwf_small _ _ _ _ _ _ _ (fun hk => hN _ (fits_nm hf hk)) (nws_small fun m hm => h1 m hm _ (cks_mem ht m hm)) (nws_small fun m hm => h2 m hm _ (cks_mem he m hm))
theorem dsE_cons {ns : List ByteArray} {d : Df} {r : List Df} (h : dsE ns (d :: r) = 0) : dfE ns d = 0 /\ dsE (ns ++ [d.nm]) r = 0 := by
 rw [dsE] at h
 by_cases e : dfE ns d = 0
 ·rw [if_pos e] at h; exact ⟨e, h⟩
 ·rw [if_neg e] at h; exact absurd h e
theorem dfE_is {ns : List ByteArray} {d : Df} (h : dfE ns d = 0) : R.fieldsF d.k d.v d.body.isEmpty = true /\ isNm d.nm = true /\ ns.any (fun s => decide (s = d.nm)) = false /\ ¬ (d.k = 3 /\ 16384 < d.v) /\ cks ns d.body (0, false) = 0 := by
 unfold dfE at h
 by_cases h1 : R.fieldsF d.k d.v d.body.isEmpty = false
 ·rw [if_pos h1] at h; omega
 ·rw [if_neg h1] at h
  by_cases h2 : isNm d.nm = false
  ·rw [if_pos h2] at h; omega
  ·rw [if_neg h2] at h
   by_cases h3 : ns.any (fun s => decide (s = d.nm)) = true
   ·rw [if_pos h3] at h; omega
   ·rw [if_neg h3] at h
    by_cases h4 : d.k = 3 /\ 16384 < d.v
    ·rw [if_pos h4] at h; omega
    ·rw [if_neg h4] at h
     exact ⟨by simpa using h1, by simpa using h2, by cases hh : ns.any (fun s => decide (s = d.nm)) with | false => rfl | true => exact absurd hh h3, h4, h⟩
theorem dw_small {ns : List ByteArray} (hN : ∀ s ∈ ns, s.size <= 100) {d : Df} (h : dfE ns d = 0) : ∀ w ∈ dw d, w.size <= 100 := by
 obtain ⟨_, h2, _, _, h5⟩ := dfE_is h
 have hn := nm_size h2
 have hb := nws_small fun m hm => nw_small hN m _ (cks_mem h5 m hm)
 intro w hw
 unfold dw at hw
 split at hw
 ·simp only [List.mem_append, List.mem_cons, List.not_mem_nil, or_false] at hw
  rcases hw with ((rfl | rfl) | hw) | rfl
  ·decide
  ·omega
  ·exact hb w hw
  ·decide
 ·split at hw
  ·simp only [List.mem_cons, List.not_mem_nil, or_false] at hw
   rcases hw with rfl | rfl | rfl
   ·exact dcm_size _
   ·decide
   ·omega
  ·split at hw
   ·simp only [List.mem_cons, List.not_mem_nil, or_false] at hw
    rcases hw with rfl | rfl
    ·decide
    ·omega
   ·simp only [List.mem_cons, List.not_mem_nil, or_false] at hw
    rcases hw with rfl | rfl | rfl
    ·exact dcm_size _
    ·decide
    ·omega
theorem dws_small : ∀ {ds : List Df} {ns : List ByteArray}, (∀ s ∈ ns, s.size <= 100) -> dsE ns ds = 0 -> ∀ d ∈ ds, ∀ w ∈ dw d, w.size <= 100
 | [], _, _, _, d, hd => by cases hd
 | d0 :: r, ns, hN, h, d, hd => by
  obtain ⟨h1, h2⟩ := dsE_cons h
  rcases List.mem_cons.1 hd with rfl | hd
  ·exact dw_small hN h1
  ·refine dws_small (ns := ns ++ [d0.nm]) (fun s hs => ?_) h2 d hd
   rcases List.mem_append.1 hs with hs | hs
   ·exact hN s hs
   ·rw [List.mem_singleton] at hs
    have := nm_size (dfE_is h1).2.1
    rw [hs]; omega
theorem bkE_cons {z : Int} {b : Bk} {r : List Bk} (h : bkE z (b :: r) = 0) : 0 <= b.1 /\ b.1 < 16 /\ b.2.length <= 16384 /\ z < b.1 /\ bkE b.1 r = 0 := by
 rw [bkE] at h
 by_cases h1 : b.1 < 0 \/ 16 <= b.1 \/ 16384 < b.2.length
 ·rw [if_pos h1] at h; omega
 ·rw [if_neg h1] at h
  by_cases h2 : b.1 <= z
  ·rw [if_pos h2] at h; omega
  ·rw [if_neg h2] at h
   exact ⟨by omega, by omega, by omega, by omega, h⟩
theorem bws_small : ∀ {bs : List Bk} {z : Int}, bkE z bs = 0 -> ∀ b ∈ bs, b.2.length <= 140737488355328 /\ ∀ w ∈ bw b, w.size <= 100
 | [], _, _, b, hb => by cases hb
 | b0 :: r, z, h, b, hb => by
  obtain ⟨_, _, h3, _, h5⟩ := bkE_cons h
  rcases List.mem_cons.1 hb with rfl | hb
  ·refine ⟨by omega, fun w hw => ?_⟩
   unfold bw at hw
   simp only [List.mem_append, List.mem_cons, List.mem_map, List.not_mem_nil, or_false] at hw
   rcases hw with ((rfl | rfl | rfl) | ⟨x, _, rfl⟩) | rfl
   ·exact dcm_size _
   ·decide
   ·decide
   ·exact dcm_size _
   ·decide
  ·exact bws_small h5 b hb
theorem chk_is {ds : List Df} {bs : List Bk} (h : chk ds bs = 0) : dsE [] ds = 0 /\ bkE (-1) bs = 0 /\ ds.any R.isMain = true := by
 unfold chk at h
 by_cases h1 : dsE [] ds = 0
 ·rw [if_pos h1] at h
  by_cases h2 : bkE (-1) bs = 0
  ·rw [if_pos h2] at h
   by_cases h3 : ds.any R.isMain = true
   ·exact ⟨h1, h2, h3⟩
   ·rw [if_neg h3] at h; omega
  ·rw [if_neg h2] at h; exact absurd h h2
 ·rw [if_neg h1] at h; exact absurd h h1
open Go.RowKit in
theorem print_is (ds : List Df) (bs : List Bk) (hnm : ∀ d ∈ ds, d.nm.size <= maxLen) (hlb : bs.length <= 140737488355328) (dv bv : Value) (O : Nat -> Prop) (W : World) (hO : ∀ j, O j -> j < W.heap.size) (hD : Y.DV W O dv ds) (hK : Y.BV W O bv bs) (hT : P10 W) :
  Calls Tryz.prog 11 #[.agg #[dv, bv]] W fun e w' => e = .returned (.tuple #[.string (prn ds bs).1, .int .i64 (prn ds bs).2]) /\ Below W.heap.size W w' :=
 print_any ds bs hnm hlb (fun h => dws_small (ns := []) (fun s hs => by cases hs) (chk_is h).1) (fun h => bws_small (chk_is h).2.1) dv bv O W hO hD hK hT
end Go.Proofs.YtdnklgceghllaaaGreatDoor.M
