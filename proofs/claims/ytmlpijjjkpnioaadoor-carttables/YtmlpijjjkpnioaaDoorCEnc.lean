import Derived.Test.YtmlpijjjkpnioaaDoorCLay
/-! 7.2, 7.4: Encode, Sum. -/
namespace Go.Proofs.YtmlpijjjkpnioaaDoor.C
open Go.RowKit
open Go.Proofs
open Go.Proofs.YtmlpijjjkpnioaaDoor.K
set_option linter.unusedVariables false
set_option linter.unusedSimpArgs false
set_option maxHeartbeats 2000000
set_option maxRecDepth 100000
theorem sum_one (v : Value) (l : List UInt8) (hl : l.length ≤ room) (w : World) (h : Sl w v l) (hT : Tab w) :
    Calls Tryd.prog 14 #[.slice (some ⟨w.heap.size, 0, none⟩) 1 1] (w.alloc (.cells #[v] 22)) fun e w' => e = .returned (.int .u32 (crc l : Int)) ∧ w' = w.alloc (.cells #[v] 22) := by
  obtain ⟨hp, hb⟩ := parts_one w v l hl h
  have := sum_any (some ⟨w.heap.size, 0, none⟩) 1 [l] (by simp [maxLen]) _ hp (hT.below hb hT.pos)
  simpa using this
theorem lay_size {c : Ct} (h : may c = true) : (layB c).length ≤ 327868 := by have := enc_size h; rw [enc_len] at this; omega
theorem encode_any (v : Value) (c : Ct) (ep : Option Addr) (ec : Nat) (bp : Option Addr) (bc : Nat) (kv : Value) (w : World) (h : IsC w v c ep ec bp bc kv) (hT : Tab w) :
    Calls Tryd.prog 8 #[v] w fun e w' => (∃ u, e = .returned (.tuple #[u, .int .i64 (if may c then 0 else 74)]) ∧ Row w' w.heap.size u (if may c then encB c else [])) ∧ Below w.heap.size w w' := by
  obtain ⟨kp, kc, rfl, _⟩ := h.code.ex
  have hv := h.val
  subst hv
  obtain ⟨wb, hwb⟩ : ∃ wb, wb = w.alloc (.cells #[.slice kp c.code.length kc, .int .u16 (c.entry : Int), .slice ep c.effs.length ec, .slice bp c.banks.length bc] 27) := ⟨_, rfl⟩
  have hBb : Below w.heap.size w wb := by rw [hwb]; exact (Below.refl _ _).alloc (Nat.le_refl _) _
  have hNb : wb.heap[w.heap.size]? = some (.cells [.slice kp c.code.length kc, .int .u16 (c.entry : Int), .slice ep c.effs.length ec, .slice bp c.banks.length bc].toArray 27 (0, 0)) := by rw [hwb]; exact heap_alloc_new w _
  have hck := check_any _ c ep ec bp bc _ wb (h.below hBb)
  have HH := hid h
  have HN := hid hNb
  have HB := hid hBb
  unfold cv at *
  rw [hwb] at hck
  clear hNb hBb h
  by_cases hm : may c = true
  case neg =>
    have hm : may c = false := by simpa using hm
    rw [hm] at hck ⊢
    simp only [Bool.false_eq_true, if_false] at hck ⊢
    go_enter Tryd.func8, Tryd.ntmps8
    go_wp2_with fail
    refine hck.mono ?_
    rw [← hwb]
    rintro e w1 ⟨rfl, hb1⟩
    have HB1 := hid hb1
    clear hb1 hck hwb
    go_wp2
    go_ret2
    exact ⟨⟨_, rfl, row_nil _ _⟩, HB.out.trans (HB1.out.mono HB.out.size)⟩
  rw [hm] at hck
  simp only [hm, if_true] at hck ⊢
  have hls := lay_size hm
  go_enter Tryd.func8, Tryd.ntmps8
  go_wp2_with fail
  refine hck.mono ?_
  rw [← hwb]
  rintro e w1 ⟨rfl, hb1⟩
  have hn1 := (hb1.block _ (lt_of HN.out)).trans HN.out
  have hBw : Below w.heap.size w w1 := HB.out.trans (hb1.mono HB.out.size)
  have hly := lay_any _ c ep ec bp bc _ w1 (HH.out.below hBw) hm
  unfold cv at hly
  have k0 := cell_of w1 w.heap.size 0 _ _ _ hn1 rfl
  have k1 := cell_of w1 w.heap.size 1 _ _ _ hn1 rfl
  have k2 := cell_of w1 w.heap.size 2 _ _ _ hn1 rfl
  have k3 := cell_of w1 w.heap.size 3 _ _ _ hn1 rfl
  have HBw := hid hBw
  clear hb1 hck hwb hn1 hBw HB
  go_wp2_with fail
  refine hly.mono ?_
  rintro e w2 ⟨u, rfl, hu, hb2⟩
  have hB2 : Below w.heap.size w w2 := HBw.out.trans (hb2.mono HBw.out.size)
  have hT2 := hT.below hB2 hT.pos
  obtain ⟨up, uc, rfl, _⟩ := hu.sl.ex
  have hl0 := lw_new w2
  have hbA : Below w2.heap.size w2 (w2.alloc (.cells #[.slice none 0 0] 45)) := hl0.bel
  have c1 := lw_bytes hl0 _ (layB c) (hu.sl.below hbA) (by simp only [List.length_nil]; unfold room; omega)
  have HU := hid hu
  have HB2 := hid hB2
  have HT2 := hid hT2
  clear hly hu hB2 hT2 hl0 hbA k0 k1 k2 k3 hT hb2 HBw
  go_wp2_with fail
  refine c1.mono ?_
  rintro e w3 ⟨rfl, v3, hL3, _⟩
  rw [List.nil_append] at hL3
  have hT3 := HT2.out.below hL3.bel HT2.out.pos
  have hs3 := HU.out.sl.below hL3.bel
  have c2 := sum_one _ (layB c) (by unfold room; omega) w3 hs3 hT3
  have hbS : Below w3.heap.size w3 (w3.alloc (.cells #[.slice up (layB c).length uc] 22)) := (Below.refl _ _).alloc (Nat.le_refl _) _
  have hlt := crc_lt (layB c)
  have c3 := lw_word (hL3.next hbS) (crc (layB c)) (by omega) (by unfold room; omega)
  clear c1 hT3 hs3 hL3 hbS hlt
  go_wp2_with fail
  refine c2.mono ?_
  rintro e w4 ⟨rfl, rfl⟩
  go_wp2_with fail
  refine c3.mono ?_
  rintro e w5 ⟨rfl, v5, hL5, _⟩
  rw [show layB c ++ low 4 (crc (layB c)) = encB c from rfl] at hL5
  have c4 := lw_done hL5 (by rw [enc_len]; unfold room; omega)
  have HL5 := hid hL5
  clear c2 c3 hL5
  go_wp2_with fail
  refine c4.mono ?_
  rintro e w6 ⟨r, rfl, hr, hb6⟩
  obtain ⟨rp, rc, hrr, _⟩ := hr.sl.ex
  have HR := hid hr
  subst hrr
  clear c4 hr
  go_wp2
  go_ret2
  have hz := HL5.out.bel.size
  exact ⟨⟨_, rfl, HR.out.mono (Nat.le_trans HB2.out.size hz)⟩, HB2.out.trans ((HL5.out.bel.trans (hb6.mono hz)).mono HB2.out.size)⟩
theorem csum_any (v : Value) (c : Ct) (ep : Option Addr) (ec : Nat) (bp : Option Addr) (bc : Nat) (kv : Value) (w : World) (h : IsC w v c ep ec bp bc kv) (hT : Tab w) :
    Calls Tryd.prog 26 #[v] w fun e w' => e = .returned (.tuple #[.int .u32 ((if may c then crc (layB c) else 0 : Nat) : Int), .int .i64 (if may c then 0 else 74)]) ∧ Below w.heap.size w w' := by
  obtain ⟨kp, kc, rfl, _⟩ := h.code.ex
  have hv := h.val
  subst hv
  obtain ⟨wb, hwb⟩ : ∃ wb, wb = w.alloc (.cells #[.slice kp c.code.length kc, .int .u16 (c.entry : Int), .slice ep c.effs.length ec, .slice bp c.banks.length bc] 27) := ⟨_, rfl⟩
  have hBb : Below w.heap.size w wb := by rw [hwb]; exact (Below.refl _ _).alloc (Nat.le_refl _) _
  have hNb : wb.heap[w.heap.size]? = some (.cells [.slice kp c.code.length kc, .int .u16 (c.entry : Int), .slice ep c.effs.length ec, .slice bp c.banks.length bc].toArray 27 (0, 0)) := by rw [hwb]; exact heap_alloc_new w _
  have hck := check_any _ c ep ec bp bc _ wb (h.below hBb)
  have HH := hid h
  have HN := hid hNb
  have HB := hid hBb
  unfold cv at *
  rw [hwb] at hck
  clear hNb hBb h
  by_cases hm : may c = true
  case neg =>
    have hm : may c = false := by simpa using hm
    rw [hm] at hck ⊢
    simp only [Bool.false_eq_true, if_false] at hck ⊢
    go_enter Tryd.func26, Tryd.ntmps26
    go_wp2_with fail
    refine hck.mono ?_
    rw [← hwb]
    rintro e w1 ⟨rfl, hb1⟩
    have HB1 := hid hb1
    clear hb1 hck hwb
    go_wp2
    go_ret2
    exact ⟨rfl, HB.out.trans (HB1.out.mono HB.out.size)⟩
  rw [hm] at hck
  simp only [hm, if_true] at hck ⊢
  have hls := lay_size hm
  go_enter Tryd.func26, Tryd.ntmps26
  go_wp2_with fail
  refine hck.mono ?_
  rw [← hwb]
  rintro e w1 ⟨rfl, hb1⟩
  have hn1 := (hb1.block _ (lt_of HN.out)).trans HN.out
  have hBw : Below w.heap.size w w1 := HB.out.trans (hb1.mono HB.out.size)
  have hly := lay_any _ c ep ec bp bc _ w1 (HH.out.below hBw) hm
  unfold cv at hly
  have k0 := cell_of w1 w.heap.size 0 _ _ _ hn1 rfl
  have k1 := cell_of w1 w.heap.size 1 _ _ _ hn1 rfl
  have k2 := cell_of w1 w.heap.size 2 _ _ _ hn1 rfl
  have k3 := cell_of w1 w.heap.size 3 _ _ _ hn1 rfl
  have HBw := hid hBw
  clear hb1 hck hwb hn1 hBw HB
  go_wp2_with fail
  refine hly.mono ?_
  rintro e w2 ⟨u, rfl, hu, hb2⟩
  have hB2 : Below w.heap.size w w2 := HBw.out.trans (hb2.mono HBw.out.size)
  have hT2 := hT.below hB2 hT.pos
  obtain ⟨up, uc, rfl, _⟩ := hu.sl.ex
  have c2 := sum_one _ (layB c) (by unfold room; omega) w2 hu.sl hT2
  have HBS := hid (hB2.alloc hB2.size (.cells #[.slice up (layB c).length uc] 22))
  clear hly hu hB2 hT2 k0 k1 k2 k3 hT hb2 HBw
  go_wp2_with fail
  refine c2.mono ?_
  rintro e w4 ⟨rfl, rfl⟩
  go_wp2
  go_ret2
  exact ⟨rfl, HBS.out⟩
end Go.Proofs.YtmlpijjjkpnioaaDoor.C
