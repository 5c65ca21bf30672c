import Derived.Test.YtmlpijjjkpnioaaDoorCRBody
import Derived.Test.YtmlpijjjkpnioaaDoorCEnc
/-! The reference's Encode. -/
namespace Go.Proofs.YtmlpijjjkpnioaaDoor.C
open Go.RowKit
open Go.Proofs
open Go.Proofs.YtmlpijjjkpnioaaDoor.K
set_option linter.unusedVariables false
set_option linter.unusedSimpArgs false
set_option maxHeartbeats 4000000
set_option maxRecDepth 100000
def REn (w w' : World) (c : Ct) (e : Ending) : Prop := ∃ u, e = .returned (.tuple #[u, .int .i64 (if may c then 0 else 74)]) ∧ (may c = true → Row w' w.heap.size u (encB c)) ∧ (may c = false → u = .slice none 0 0) ∧ Below w.heap.size w w'
theorem dat_le {c : Ct} (h : may c = true) : (datB (secs c)).length ≤ 400000 := by
  have := lay_size h
  unfold layB bodyB at this
  rw [List.length_append] at this
  omega
theorem crc_lt64 (l : List UInt8) : crc l < 18446744073709551616 := Nat.lt_trans (crc_lt l) (by decide)
theorem rencode_any (v : Value) (c : Ct) (ep : Option Addr) (ec : Nat) (bp : Option Addr) (bc : Nat) (kv : Value) (w : World) (h : IsC w v c ep ec bp bc kv) :
    Calls Tryd.prog 25 #[v] w fun e w' => REn w w' c e := by
  obtain ⟨kp, kc, rfl, _⟩ := h.code.ex
  have hv := h.val
  subst hv
  obtain ⟨wb, hwb⟩ : ∃ wb, wb = w.alloc (.cells #[.slice kp c.code.length kc, .int .u16 (c.entry : Int), .slice ep c.effs.length ec, .slice bp c.banks.length bc] 27) := ⟨_, rfl⟩
  have hBb : Below w.heap.size w wb := by rw [hwb]; exact (Below.refl _ _).alloc (Nat.le_refl _) _
  have hNb : wb.heap[w.heap.size]? = some (.cells [.slice kp c.code.length kc, .int .u16 (c.entry : Int), .slice ep c.effs.length ec, .slice bp c.banks.length bc].toArray 27 (0, 0)) := by rw [hwb]; exact heap_alloc_new w _
  have kc1 := rcheck_any _ c ep ec bp bc _ wb (h.below hBb)
  have a0 := cell_of wb w.heap.size 0 _ _ _ hNb rfl
  have a1 := cell_of wb w.heap.size 1 _ _ _ hNb rfl
  have a2 := cell_of wb w.heap.size 2 _ _ _ hNb rfl
  have a3 := cell_of wb w.heap.size 3 _ _ _ hNb rfl
  have HI := hid h
  have HN := hid hNb
  have HB := hid hBb
  unfold cv at kc1 ⊢
  clear h hNb hBb
  go_enter Tryd.func25, Tryd.ntmps25
  go_upto_region 1 with fail
  try simp only [Act.put, List.getElem_toArray, List.getElem_cons_zero, List.getElem_cons_succ, List.setIfInBounds_toArray, List.set_cons_zero, List.set_cons_succ]
  rw [← hwb]
  clear hwb
  go_wp2_with fail
  refine kc1.mono ?_
  rintro e w1 ⟨rfl, hb1⟩
  have hN1 := (hb1.block _ (lt_of HN.out)).trans HN.out
  have HB1 := hid (HB.out.trans (hb1.mono HB.out.size))
  have HN1 := hid hN1
  clear kc1 hb1 hN1 a0 a1 a2 a3 HN HB
  by_cases hm : may c = true
  case neg =>
    as_aux_lemma =>
      have hm' : may c = false := by simpa using hm
      rw [hm']
      clear HI HN1
      go_wp2
      go_ret2
      refine ⟨_, (by rw [hm'] <;> rfl), (fun e => by rw [hm'] at e; cases e), (fun _ => rfl), HB1.out⟩
  rw [hm]
  have hsA : ∀ W', Below w1.heap.size w1 W' → (fun w' : World => w'.cell? ⟨w.heap.size, 0, none⟩ = some (.slice kp c.code.length kc) ∧ w'.cell? ⟨w.heap.size, 1, none⟩ = some (.int .u16 (c.entry : Int)) ∧ w'.cell? ⟨w.heap.size, 2, none⟩ = some (.slice ep c.effs.length ec) ∧ w'.cell? ⟨w.heap.size, 3, none⟩ = some (.slice bp c.banks.length bc)) W' := fun W' j => by
    have hn := (j.block _ (lt_of HN1.out)).trans HN1.out
    exact ⟨cell_of _ _ 0 _ _ _ hn rfl, cell_of _ _ 1 _ _ _ hn rfl, cell_of _ _ 2 _ _ _ hn rfl, cell_of _ _ 3 _ _ _ hn rfl⟩
  have s0 := hsA _ ((Below.refl _ w1).drew)
  have HSA := hid hsA
  have HBd := hid ((Below.refl w1.heap.size w1).drew)
  have ks := rsections_any _ c ep ec bp bc _ w1.drew (HI.out.below HB1.out.drew) hm
  unfold cv at ks
  clear hsA
  simp only [↓reduceIte]
  go_upto_region 4 with fail
  try simp only [Act.put, List.getElem_toArray, List.getElem_cons_zero, List.getElem_cons_succ, List.setIfInBounds_toArray, List.set_cons_zero, List.set_cons_succ]
  refine wp_region_held_drew (S := (fun w' : World => w'.cell? ⟨w.heap.size, 0, none⟩ = some (.slice kp c.code.length kc) ∧ w'.cell? ⟨w.heap.size, 1, none⟩ = some (.int .u16 (c.entry : Int)) ∧ w'.cell? ⟨w.heap.size, 2, none⟩ = some (.slice ep c.effs.length ec) ∧ w'.cell? ⟨w.heap.size, 3, none⟩ = some (.slice bp c.banks.length bc))) (by kernel_rfl) s0 (fun hHeld => ?_)
  clear s0
  refine wpAnyH_take (i := 0) (v := ?_) rfl (by kernel_rfl) (by kernel_rfl) (by kernel_rfl) (fun c a w h => h) (Or.inl ⟨by rfl, ?_⟩) hHeld ?_
  rotate_left
  · (intro w hSw; (try dsimp only at hSw); go_simp; try with_reducible rfl)
  simp only [Act.put, List.getElem_toArray, List.getElem_cons_zero, List.getElem_cons_succ, List.setIfInBounds_toArray, List.set_cons_zero, List.set_cons_succ]
  refine wpAnyH_take (i := 1) (v := ?_) rfl (by kernel_rfl) (by kernel_rfl) (by kernel_rfl) (fun c a w h => h) (Or.inl ⟨by rfl, ?_⟩) hHeld ?_
  rotate_left
  · (intro w hSw; (try dsimp only at hSw); go_simp; try with_reducible rfl)
  simp only [Act.put, List.getElem_toArray, List.getElem_cons_zero, List.getElem_cons_succ, List.setIfInBounds_toArray, List.set_cons_zero, List.set_cons_succ]
  refine wpAnyH_take (i := 2) (v := ?_) rfl (by kernel_rfl) (by kernel_rfl) (by kernel_rfl) (fun c a w h => h) (Or.inl ⟨by rfl, ?_⟩) hHeld ?_
  rotate_left
  · (intro w hSw; (try dsimp only at hSw); go_simp; try with_reducible rfl)
  simp only [Act.put, List.getElem_toArray, List.getElem_cons_zero, List.getElem_cons_succ, List.setIfInBounds_toArray, List.set_cons_zero, List.set_cons_succ]
  refine wpAnyH_ready (rs := [3]) (by kernel_rfl) (by simp) ?_
  refine AllReadyH.cons rfl (fun K hK => ?_) AllReadyH.nil
  go_simp
  refine ks.mono ?_
  rintro e w2 ⟨u, prs, rfl, hP, hY⟩
  have hbw : Below w1.heap.size w1 w2 := HBd.out.trans hY.bel
  have s2 := HSA.out w2 hbw
  obtain ⟨pu, cu, hu, hS⟩ := hY.ses
  subst hu
  have hlen : prs.length = (secs c).length := by rw [← hP, List.length_map]
  rw [hP] at hS
  have h18 : (secs c).length ≤ 18 := by have := may_many hm; simp only [secs, List.length_cons, List.length_map]; omega
  have kb := rbody_any c.entry HI.out.fit.entry pu cu (secs c) h18 (dat_le hm) w2 hS
  rw [hlen]
  have HB2 := hid (HB1.out.trans (hbw.mono HB1.out.size))
  have HBW := hid hbw
  clear ks hP hY hS hlen hbw
  refine hK.out _ _ s2 (fun hHeld => ?_)
  clear hK K
  try simp only [Act.put, List.getElem_toArray, List.getElem_cons_zero, List.getElem_cons_succ, List.setIfInBounds_toArray, List.set_cons_zero, List.set_cons_succ]
  refine wpAnyH_ready (rs := [4]) (by kernel_rfl) (by simp) ?_
  refine AllReadyH.cons rfl (fun K hK => ?_) AllReadyH.nil
  go_simp
  refine kb.mono ?_
  rintro e w3 ⟨r, rfl, hr, hb3⟩
  have hbw3 := HBW.out.trans (hb3.mono HBW.out.size)
  have s3 := HSA.out w3 hbw3
  have hB3 := HB2.out.trans (hb3.mono HB2.out.size)
  have hr3 : Row w3 w.heap.size r (layB c) := own_mono hr HB2.out.size
  obtain ⟨pr, cr, hpr, hbs⟩ := hr3.sl.ex
  subst hpr
  have HR3 := hid hr3
  have HB3 := hid hB3
  have HBS := hid hbs
  clear kb hr hb3 hbw3 hB3 hr3 hbs s2
  refine hK.out _ _ s3 (fun hHeld => ?_)
  clear hK K
  try simp only [Act.put, List.getElem_toArray, List.getElem_cons_zero, List.getElem_cons_succ, List.setIfInBounds_toArray, List.set_cons_zero, List.set_cons_succ]
  refine wpAnyH_ready (rs := [5]) (by kernel_rfl) (by simp) ?_
  refine AllReadyH.cons rfl (fun K hK => ?_) AllReadyH.nil
  go_simp
  refine hK.out _ _ s3 (fun hHeld => ?_)
  clear hK K
  refine wpAnyH_done (by kernel_rfl) ?_ _
  clear hHeld s3 HSA HBW HBd HB2
  try simp only [Act.put, List.getElem_toArray, List.getElem_cons_zero, List.getElem_cons_succ, List.setIfInBounds_toArray, List.set_cons_zero, List.set_cons_succ]
  have hl := lay_size hm
  have ksum := rsum_any pr cr (layB c) (by unfold maxLen; omega) w3 HBS.out
  have z1 : (crc (layB c) : Int) % 18446744073709551616 = (crc (layB c) : Int) := by have := crc_lt64 (layB c); omega
  have l4 := low_any (crc (layB c)) (crc_lt64 _) 4 (by omega) w3
  have HL4 := hid (show encB c = layB c ++ low 4 (crc (layB c)) from rfl)
  generalize layB c = L at *
  generalize crc L = X at *
  go_wp2_with fail
  refine ksum.mono ?_
  rintro e w4 ⟨rfl, hw4⟩
  subst hw4
  clear ksum
  go_wp2_with fail
  refine l4.mono ?_
  rintro e w5 ⟨u5, rfl, hu5, hb5⟩
  have hr5 := HR3.out.below hb5
  have hB5 := HB3.out.trans (hb5.mono HB3.out.size)
  have hs5 := hu5.sl
  obtain ⟨up5, uc5, huu5, _⟩ := hu5.sl.ex
  subst huu5
  clear l4 hb5 hu5 HR3 HB3
  go_wp2_with (first | (at_builtin; refine wpList_append_bytes _ rfl _ _ rfl w.heap.size _ L rfl hr5 _ (low 4 X) rfl hs5 (by simp only [low_len]; unfold room; omega) hB5.size ?_))
  intro v6 w6 hr6 hg6
  rw [← HL4.out] at hr6
  obtain ⟨vp6, vc6, hvv6, _⟩ := hr6.sl.ex
  subst hvv6
  have HF := hid (And.intro hr6 (hg6.belowAll (fun g e => (hr5.lt g e).1) hB5 (Nat.le_refl _)))
  clear hr5 hB5 hs5 hg6 hr6
  go_wp2
  go_ret2
  exact ⟨_, (by rw [hm] <;> rfl), (fun _ => HF.out.1), (fun e => by rw [hm] at e; cases e), HF.out.2⟩
end Go.Proofs.YtmlpijjjkpnioaaDoor.C
