import Derived.Test.YtmlpijjjkpnioaaDoorCThree
/-! readEffects. -/
namespace Go.Proofs.YtmlpijjjkpnioaaDoor.C
open Go.RowKit
open Go.Proofs
open Go.Proofs.YtmlpijjjkpnioaaDoor.K
set_option linter.unusedVariables false
set_option linter.unusedSimpArgs false
set_option maxHeartbeats 2000000
set_option maxRecDepth 100000
theorem rcell2 (br gr : Nat) (v : Value) (l : List UInt8) (hl : 2 ≤ l.length) (W : World) (h : Rd W br gr v l 0) :
    Calls Tryd.prog 38 #[.pointer (some ⟨br, 0, none⟩)] W fun r w' => r = .returned (.int .u16 (numL (l.take 2) : Int)) ∧ ∃ v', Rd w' br gr v' (l.drop 2) 0 ∧ RStep br W w' := by
  have e : tk l 0 2 = (l.take 2, l.drop 2, 0) := tk_in 2 hl
  have := rcell_any br gr v l 0 (by decide) W h
  rw [e] at this
  exact this
theorem rbyte1 (br gr : Nat) (v : Value) (l : List UInt8) (hl : 1 ≤ l.length) (W : World) (h : Rd W br gr v l 0) :
    Calls Tryd.prog 37 #[.pointer (some ⟨br, 0, none⟩)] W fun r w' => r = .returned (.int .u8 ((l.getD 0 0).toNat : Int)) ∧ ∃ v', Rd w' br gr v' (l.drop 1) 0 ∧ RStep br W w' := by
  have e : tk l 0 1 = (l.take 1, l.drop 1, 0) := tk_in 1 hl
  have := rbyte_any br gr v l 0 (by decide) W h
  rw [e] at this
  have e2 : numL (l.take 1) = (l.getD 0 0).toNat := by
    match l, hl with
    | x :: r, _ => simp [numL]
  simp only [e2] at this
  exact this
theorem rwordN (br gr : Nat) (v : Value) (l : List UInt8) (hl : 4 ≤ l.length) (W : World) (h : Rd W br gr v l 0) :
    Calls Tryd.prog 53 #[.pointer (some ⟨br, 0, none⟩)] W fun r w' => r = .returned (.int .u32 (numL (l.take 4) : Int)) ∧ ∃ v', Rd w' br gr v' (l.drop 4) 0 ∧ RStep br W w' := by
  have e : tk l 0 4 = (l.take 4, l.drop 4, 0) := tk_in 4 hl
  have := rword_any br gr v l 0 (by decide) W h
  rw [e] at this
  exact this
theorem rd_st3 {W : World} {br gr : Nat} {v : Value} {l : List UInt8} {e : Nat} (h : Rd W br gr v l e) (g i : Nat) (x : V3) (hb : br ≠ g) (hg : gr ≠ g) : Rd (st3 W g i x) br gr v l e := by
  refine ⟨(st3_other W g i x br hb).trans h.blk, h.sl.kept fun a u e1 e2 => ?_, h.own, h.len⟩
  have ha : a.block ≠ g := by
    rcases h.own with o | o
    · rw [o] at e2; cases e2
    · rw [o] at e2; cases e2; exact hg
  exact (World.cell?_of_block (w := W) (st3_other W g i x a.block ha)).trans e1
theorem R3.step {W W' : World} {g br : Nat} {t : TypeId} {l : List V3} (h : R3 W g t l) (s : RStep br W W') (hb : br ≠ g) : R3 W' g t l := (s.block g (lt_of h) (Ne.symm hb)).trans h
def e3 (b : List UInt8) : Ef := (numL (b.take 2), (numL ((b.drop 2).take 2) : Int), (numL ((b.drop 4).take 2) : Int))
theorem effD_get : ∀ (n k : Nat) (b : List UInt8), k < n → (effD n b)[k]? = some (e3 (b.drop (6 * k)))
  | n + 1, 0, b, _ => rfl
  | n + 1, k + 1, b, h => by
    simp only [effD, List.getElem?_cons_succ]
    rw [effD_get n k (b.drop 6) (by omega), List.drop_drop]
    rw [show 6 + 6 * k = 6 * (k + 1) by omega]
theorem take_set (L M : List Ef) (k : Nat) (x : Ef) (h : L.take k = M.take k) (hk : k < L.length) (hx : M[k]? = some x) : (L.set k x).take (k + 1) = M.take (k + 1) := by
  have hm : k < M.length := (List.getElem?_eq_some_iff.1 hx).1
  have e1 : M[k] = x := (List.getElem?_eq_some_iff.1 hx).2
  rw [List.take_succ_eq_append_getElem (by simpa using hk), List.take_succ_eq_append_getElem hm, e1]
  congr 1
  · rw [List.take_set_of_le (Nat.le_refl _)]; exact h
  · simp
theorem readEffects_any (v : Value) (l : List UInt8) (hl : l.length ≤ room) (w : World) (h : Sl w v l) :
    Calls Tryd.prog 59 #[v] w fun e w' => (if esOk l then ∃ g, e = .returned (.slice (some ⟨g, 0, none⟩) (l.length / 6) (l.length / 6)) ∧ w.heap.size ≤ g ∧ R3 w' g 80 ((effD (l.length / 6) l).map encE) else e = .panicked refused) ∧ Below w.heap.size w w' := by
  have hnr := newreader_any v l hl w h
  obtain ⟨p, c, rfl, _⟩ := h.ex
  have hq : (l.length : Int) / 6 = ((l.length / 6 : Nat) : Int) := by omega
  have mf := must_false w
  have mt := must_true w
  unfold room at hl
  by_cases h6 : l.length % 6 = 0
  case neg =>
    have hf : esOk l = false := by simp [esOk]; omega
    have i1 : ((l.length : Int) % 6 == 0) = false := by simp; omega
    simp only [hf, Bool.false_eq_true, if_false]
    clear hq mt hnr
    go_enter Tryd.func59, Tryd.ntmps59
    go_wp2_with (first | (go_at_call 63; refine mf.mono ?_; rintro e w1 ⟨rfl, rfl⟩))
    simp [bodyPost]
    exact Below.refl _ _
  have i1 : ((l.length : Int) % 6 == 0) = true := by simp; omega
  by_cases h4 : l.length ≤ 49152
  case neg =>
    have hf : esOk l = false := by simp [esOk]; omega
    have i2 : decide ((l.length : Int) ≤ 49152) = false := by simp; omega
    simp only [hf, Bool.false_eq_true, if_false]
    clear hq mt hnr
    go_enter Tryd.func59, Tryd.ntmps59
    go_wp2_with (first | (go_at_call 63; refine mf.mono ?_; rintro e w1 ⟨rfl, rfl⟩))
    simp [bodyPost]
    exact Below.refl _ _
  have i2 : decide ((l.length : Int) ≤ 49152) = true := by simp; omega
  have hE : esOk l = effsB (effD (l.length / 6) l) := by simp [esOk, h6, h4]
  rw [hE]
  obtain ⟨n, hn⟩ : ∃ n, l.length / 6 = n := ⟨_, rfl⟩
  have hln : l.length = 6 * n := by omega
  have hHD := hid (effD_len n l)
  rw [hn] at hq ⊢
  have hmk := fun W => make_effs n (by omega) W
  have HLN := hid hln
  have hn0 : n ≤ 8192 := by omega
  clear hE h6 h4 hn hln
  go_enter Tryd.func59, Tryd.ntmps59
  go_wp2_with (first | (go_at_call 63; refine mt.mono ?_; rintro e w0 ⟨rfl, hw0⟩; obtain rfl := hw0.symm))
  refine hnr.mono ?_
  rintro r w1 ⟨br, gr, vr, rfl, q1, q2, q3, hR, hb1, q4⟩
  have hg0 : 0 < n → gr ≠ w1.heap.size := by
    intro h0
    rcases q4 with q4 | q4
    · omega
    · exfalso
      rcases hR.sl with ⟨_, e⟩ | ⟨x, _, e, _, _⟩
      · have := HLN.out; rw [e] at this; simp at this; omega
      · rw [e] at q4; cases q4
  have hbr : br ≠ w1.heap.size := Nat.ne_of_lt hR.lt
  have hba : Below w1.heap.size w1 (w1.alloc (.cells (t3 ((List.replicate n ((0, 0, 0) : Ef)).map encE)).toArray 80)) := (Below.refl _ _).alloc (Nat.le_refl _) _
  have H0 : Hid (R3 (w1.alloc (.cells (t3 ((List.replicate n ((0, 0, 0) : Ef)).map encE)).toArray 80)) w1.heap.size 80 ((List.replicate n ((0, 0, 0) : Ef)).map encE)) := hid (heap_alloc_new w1 _)
  have HR0 := hid (hR.below hba)
  have HB0 := hid (hb1.trans (hba.mono hb1.size))
  have HB1 := hid hb1
  have HG0 := hid hg0
  have HBR := hid hbr
  clear hnr hR hb1 q2 q3 q4 hba mf mt hg0 hbr i1 i2
  generalize hMC : (t3 ((List.replicate n ((0, 0, 0) : Ef)).map encE)).toArray = MC at *
  go_wp2_with fail
  clear hmk
  go_loopw [24] (fun i wr => ∃ (k : Nat) (L : List Ef) (vr : Value), k ≤ n ∧ i = .int .i64 (k : Int) ∧ L.length = n ∧ L.take k = (effD n l).take k ∧ R3 wr w1.heap.size 80 (L.map encE) ∧ Rd wr br gr vr (l.drop (6 * k)) 0 ∧ Below w.heap.size w wr) (fun i _ => n - (intOf i).toNat)
  case atStart => exact ⟨0, List.replicate n (0, 0, 0), vr, by omega, rfl, by simp, by simp, H0.out, by simpa using HR0.out, HB0.out⟩
  case round =>
    clear H0 HR0 HB0
    obtain ⟨k, L, vr, hk, rfl, hL, hT, hM, hR, hB⟩ := hrel
    by_cases hlt : k < n
    case neg =>
      obtain rfl : k = n := by omega
      have hLD : L = effD k l := by
        have e1 : L.take k = L := List.take_of_length_le (by omega)
        have e2 : (effD k l).take k = effD k l := List.take_of_length_le (by rw [effD_len]; exact Nat.le_refl _)
        rw [e1, e2] at hT; exact hT
      rw [hLD] at hM
      clear hT hL hLD L
      have hem := effectsMay_any (some ⟨w1.heap.size, 0, none⟩) k (effD k l) (by rw [effD_len]; unfold room; omega) wr hM.efs
      rw [effD_len] at hem
      have HM := hid hM
      have HB := hid hB
      have hz1 := HB1.out.size
      clear hM hB hR
      by_cases he : effsB (effD k l) = true
      · rw [he] at hem
        have mt := fun W => must_true W
        go_wp2_with (first | (go_at_call 32; refine hem.mono ?_; rintro e w2 ⟨rfl, hb2⟩) | (go_at_call 63; refine (mt _).mono ?_; rintro e w3 ⟨rfl, rfl⟩))
        go_ret
        simp only [he, if_true]
        exact ⟨⟨w1.heap.size, rfl, hz1, (hb2.block _ (lt_of HM.out)).trans HM.out⟩, HB.out.trans (hb2.mono HB.out.size)⟩
      · have he : effsB (effD k l) = false := by simpa using he
        rw [he] at hem
        have mf := fun W => must_false W
        go_wp2_with (first | (go_at_call 32; refine hem.mono ?_; rintro e w2 ⟨rfl, hb2⟩) | (go_at_call 63; refine (mf _).mono ?_; rintro e w3 ⟨rfl, rfl⟩))
        simp only [bodyPost, he, Bool.false_eq_true, if_false]
        exact ⟨by trivial, by trivial, HB.out.trans (hb2.mono HB.out.size)⟩
    have i1 : (k : Int) < n := by omega
    have hxk := effD_get n k l hlt
    have hld : (l.drop (6 * k)).length = 6 * n - 6 * k := by rw [List.length_drop, HLN.out]
    have hnext : l.drop (6 * (k + 1)) = (((l.drop (6 * k)).drop 2).drop 2).drop 2 := by simp only [List.drop_drop]; congr 1
    have hex : e3 (l.drop (6 * k)) = (numL ((l.drop (6 * k)).take 2), (numL (((l.drop (6 * k)).drop 2).take 2) : Int), (numL ((((l.drop (6 * k)).drop 2).drop 2).take 2) : Int)) := by simp only [e3, List.drop_drop]
    rw [hex] at hxk
    have HNX := hid hnext
    have hts := take_set L _ k _ hT (by omega) hxk
    have HTS := hid hts
    have HL := hid hL
    clear hnext hex hxk hts hT
    generalize l.drop (6 * k) = lk at *
    have c1 := rcell2 br gr vr lk (by omega) wr hR
    have HM := hid hM
    have HB := hid hB
    have hgr := HG0.out (by omega)
    have b1 := numL_lt (lk.take 2)
    have b2 := numL_lt ((lk.drop 2).take 2)
    have b3 := numL_lt (((lk.drop 2).drop 2).take 2)
    have l1 : (lk.take 2).length = 2 := by simp; omega
    have l2 : ((lk.drop 2).take 2).length = 2 := by simp; omega
    have l3 : (((lk.drop 2).drop 2).take 2).length = 2 := by simp; omega
    rw [l1] at b1; rw [l2] at b2; rw [l3] at b3
    have hl2 : 2 ≤ (lk.drop 2).length := by simp; omega
    have hl3 : 2 ≤ ((lk.drop 2).drop 2).length := by simp; omega
    clear hR hM hB l1 l2 l3 hL hld
    generalize numL (lk.take 2) = n1 at *
    obtain ⟨n2, hN2⟩ : ∃ n2, n2 = numL ((lk.drop 2).take 2) := ⟨_, rfl⟩
    obtain ⟨n3, hN3⟩ : ∃ n3, n3 = numL (((lk.drop 2).drop 2).take 2) := ⟨_, rfl⟩
    rw [← hN2] at b2 HTS
    rw [← hN3] at b3 HTS
    have HN2 := hid hN2
    have HN3 := hid hN3
    clear hN2 hN3
    go_wp2_with fail
    refine c1.mono ?_
    rintro r w2 ⟨rfl, v2, hR2, s2⟩
    have c2 := rcell2 br gr v2 (lk.drop 2) hl2 w2 hR2
    rw [← HN2.out] at c2
    have HM2 := hid (HM.out.step s2 HBR.out)
    have HB2 := hid (HB.out.trans (s2.belowB (Nat.le_trans q1 (Nat.le_refl _)) HB.out.size))
    clear c1 hR2 s2 HM HB
    go_wp2_with fail
    refine c2.mono ?_
    rintro r w3 ⟨rfl, v3, hR3, s3⟩
    have c3 := rcell2 br gr v3 ((lk.drop 2).drop 2) hl3 w3 hR3
    rw [← HN3.out] at c3
    have HM3 := hid (HM2.out.step s3 HBR.out)
    have HB3 := hid (HB2.out.trans (s3.belowB q1 HB2.out.size))
    clear c2 hR3 s3 HM2 HB2
    go_wp2_with fail
    refine c3.mono ?_
    rintro r w4 ⟨rfl, v4, hR4, s4⟩
    have hM4 := HM3.out.step s4 HBR.out
    have hB4 := HB3.out.trans (s4.belowB q1 HB3.out.size)
    clear c3 s4 HM3 HB3
    obtain ⟨x0, hx0⟩ : ∃ x0, (L.map encE)[k]? = some x0 := ⟨_, List.getElem?_eq_getElem (by rw [List.length_map, HL.out]; omega)⟩
    obtain ⟨k0, k1, k2⟩ := hM4.cell k x0 hx0
    have f0 := hM4.fz (k * 3)
    have f1 := hM4.fz (k * 3 + 1)
    have f2 := hM4.fz (k * 3 + 2)
    have hM5 := hM4.store k (by rw [List.length_map, HL.out]; omega) (encE (n1, (n2 : Int), (n3 : Int)))
    have hR5 := rd_st3 hR4 w1.heap.size k (encE (n1, (n2 : Int), (n3 : Int))) HBR.out hgr
    have hB5 := st3_below w1.heap.size k (encE (n1, (n2 : Int), (n3 : Int))) hB4 HB1.out.size
    rw [← HNX.out] at hR5
    rw [← List.map_set] at hM5
    have HM5 := hid hM5
    have HR5 := hid hR5
    have HB5 := hid hB5
    clear hM4 hB4 hR4 hM5 hR5 hB5 hx0
    generalize x0.1 = y0 at *
    generalize x0.2.1 = y1 at *
    generalize x0.2.2 = y2 at *
    simp only [st3, encE] at HM5 HR5 HB5
    go_wp2
    go_roundw
    case rel =>
      first
        | exact ⟨k + 1, L.set k (n1, (n2 : Int), (n3 : Int)), v4, by omega, by go_num, by simpa using HL.out, HTS.out, HM5.out, HR5.out, HB5.out⟩
        | ((repeat apply Exists.intro); refine ⟨⟨k + 1, L.set k (n1, (n2 : Int), (n3 : Int)), v4, by omega, ?_, by simpa using HL.out, HTS.out, HM5.out, HR5.out, HB5.out⟩, rfl⟩; go_num)
    case measure => simp [intOf]; omega
end Go.Proofs.YtmlpijjjkpnioaaDoor.C
