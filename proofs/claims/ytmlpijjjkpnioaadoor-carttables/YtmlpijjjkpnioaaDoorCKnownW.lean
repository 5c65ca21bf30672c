import Derived.Test.YtmlpijjjkpnioaaDoorCKnown
/-! known. -/
namespace Go.Proofs.YtmlpijjjkpnioaaDoor.C
open Go.RowKit
open Go.Proofs
open Go.Proofs.YtmlpijjjkpnioaaDoor.K
set_option linter.unusedVariables false
set_option linter.unusedSimpArgs false
set_option maxHeartbeats 2000000
set_option maxRecDepth 100000
theorem enc0_len : (encB ct0).length ≤ 1000 := by have := enc_size may0; decide
theorem dec_ok {w w' : World} {e : Ending} {c : Ct} (h : DecO w w' (encB c) e) (hm : may c = true) (hf : Fit c) : ∃ v kv ev bv prs, e = .returned (.tuple #[v, .int .i64 0]) ∧ OwC w' w.heap.size v c kv ev bv prs := by
  obtain ⟨v, he, kv, ev, bv, prs, ho⟩ := h
  rw [dec_enc hm hf] at he ho
  exact ⟨v, kv, ev, bv, prs, he, ho⟩
theorem OwC.form {W : World} {B : Nat} {v : Value} {c : Ct} {kv ev bv : Value} {prs : List (Bk × Value)} (h : OwC W B v c kv ev bv prs) : ∃ kp kn kc ep en ec bp bn bc, kv = .slice kp kn kc ∧ ev = .slice ep en ec ∧ bv = .slice bp bn bc := by
  obtain ⟨kp, kc, e1, _⟩ := h.code.sl.ex
  obtain ⟨ep, ec, e2⟩ := own_form h.effs
  obtain ⟨bp, bc, e3⟩ := own_form h.banks
  exact ⟨_, _, _, _, _, _, _, _, _, e1, e2, e3⟩
theorem known_any (w : World) (hT : Tab w) : Calls Tryd.prog 13 #[] w fun e w' => e = .returned (.bool true) ∧ Below w.heap.size w w' := by
  have hen := encode_any _ ct0 none 0 none 0 _ w (isc0 w) hT
  simp only [may0, if_true] at hen
  have hll := enc0_len
  have hIc : Ints ct0 := may_ints may0 fit0
  have HIc := hid hIc
  have HT := hid hT
  have nm := num_any
  go_enter Tryd.func13, Tryd.ntmps13
  go_wp2_with fail
  refine hen.mono ?_
  rintro e w1 ⟨⟨u1, rfl, hu1⟩, hb1⟩
  have hti := tiny_any w1
  obtain ⟨p1, c1, hpp, _⟩ := hu1.sl.ex
  have HU1 := hid hu1
  have HB1 := hid hb1
  subst hpp
  clear hen hu1 hb1 hIc hT
  go_wp2_with fail
  refine hti.mono ?_
  rintro e w2 ⟨u2, rfl, hu2, hb2⟩
  have hB2 := HB1.out.trans (hb2.mono HB1.out.size)
  have hde := decode_any u2 (encB ct0) (by unfold room; omega) w2 hu2.sl (HT.out.below hB2 HT.out.pos)
  obtain ⟨p2, c2, hpp, _⟩ := hu2.sl.ex
  have HU12 := hid (HU1.out.below hb2)
  have HB2 := hid hB2
  subst hpp
  clear hti hu2 hb2 hB2
  go_wp2_with fail
  refine hde.mono ?_
  rintro e w3 ⟨hD, hb3⟩
  obtain ⟨v3, kv, ev, bv, prs, rfl, hO⟩ := dec_ok hD may0 fit0
  obtain ⟨kp, kn, kc, ep, en, ec, bp, bn, bc, rfl, rfl, rfl⟩ := hO.form
  have hB3 := HB2.out.trans (hb3.mono HB2.out.size)
  have hv3 := hO.val
  subst hv3
  obtain ⟨W4, hW4⟩ : ∃ W4, W4 = w3.alloc (.cells #[.slice kp kn kc, .int .u16 (ct0.entry : Int), .slice ep en ec, .slice bp bn bc] 27) := ⟨_, rfl⟩
  have hb4 : Below w3.heap.size w3 W4 := by rw [hW4]; exact (Below.refl _ _).alloc (Nat.le_refl _) _
  have hn4 : W4.heap[w3.heap.size]? = some (.cells [.slice kp kn kc, .int .u16 (ct0.entry : Int), .slice ep en ec, .slice bp bn bc].toArray 27 (0, 0)) := by rw [hW4]; exact heap_alloc_new w3 _
  have hc4 : ∀ W, Below W4.heap.size W4.drew W → ((convert 22 9 (.slice p1 (encB ct0).length c1)).run Tryd.prog W = .ok (.string ⟨(encB ct0).toArray⟩) W ∧ W.cell? ⟨w3.heap.size, 0, none⟩ = some (.slice kp kn kc) ∧ W.cell? ⟨w3.heap.size, 1, none⟩ = some (.int .u16 (ct0.entry : Int)) ∧ W.cell? ⟨w3.heap.size, 2, none⟩ = some (.slice ep en ec) ∧ W.cell? ⟨w3.heap.size, 3, none⟩ = some (.slice bp bn bc)) := fun W hW => by
    have hs : Sl W (.slice p1 (encB ct0).length c1) (encB ct0) := ((HU12.out.sl.below hb3).below (hb4.drew)).below hW
    have hn := (hW.block _ (lt_of hn4)).trans (show W4.drew.heap[w3.heap.size]? = _ from hn4)
    exact ⟨hs.conv (by unfold maxLen; omega), cell_of _ _ 0 _ _ _ hn rfl, cell_of _ _ 1 _ _ _ hn rfl, cell_of _ _ 2 _ _ _ hn rfl, cell_of _ _ 3 _ _ _ hn rfl⟩
  have s0 := hc4 W4.drew (Below.refl _ _)
  have hti2 := tiny_any W4.drew
  have HC4 := hid hc4
  have HO4 := hid (hO.below hb4.drew)
  have HB4 := hid (hB3.trans (hb4.mono hB3.size))
  clear hde hO hb3 hb4 hn4 hc4 hD hB3
  generalize hs : (⟨(encB ct0).toArray⟩ : ByteArray) = s at *
  have HS := hid hs
  clear hs
  go_wp2_with fail
  rw [← hW4]
  clear hW4
  go_region_held (fun w' => (convert 22 9 (.slice p1 (encB ct0).length c1)).run Tryd.prog w' = .ok (.string s) w' ∧ w'.cell? ⟨w3.heap.size, 0, none⟩ = some (.slice kp kn kc) ∧ w'.cell? ⟨w3.heap.size, 1, none⟩ = some (.int .u16 (ct0.entry : Int)) ∧ w'.cell? ⟨w3.heap.size, 2, none⟩ = some (.slice ep en ec) ∧ w'.cell? ⟨w3.heap.size, 3, none⟩ = some (.slice bp bn bc))
    (first | (with_reducible exact s0) | (with_reducible exact s1) | (with_reducible exact s2))
    (first
      | (go_at_call 11; refine (nm _ _).mono ?_; rintro e w9 ⟨rfl, hw9⟩; obtain rfl := hw9.symm)
      | (go_at_call 41; refine hti2.mono ?_; rintro e w5 ⟨u5, rfl, hu5, hb5⟩; obtain ⟨p5, c5, hpp, _⟩ := hu5.sl.ex; have s1 := HC4.out w5 hb5; have cv5 := hu5.sl.conv (by unfold maxLen; omega); rw [HS.out] at cv5; subst hpp; obtain ⟨fep, fec, fbp, fbc, hIs⟩ := (HO4.out.below hb5).isC HIc.out; have hsm := same_true _ _ ct0 fep none fec 0 fbp none fbc 0 _ _ w5 hIs (isc0 w5); have HB5 := hid hb5; clear hu5 hb5 hIs)
      | (go_at_call 12; refine hsm.mono ?_; rintro e w6 ⟨rfl, hb6⟩; have s2 := HC4.out w6 (HB5.out.trans (hb6.mono HB5.out.size)); have HB6 := hid (HB4.out.drew.trans ((HB5.out.trans (hb6.mono HB5.out.size)).mono HB4.out.size)); clear hb6))
  all_goals
    go_wp2
    go_ret
    exact ⟨rfl, HB6.out⟩
end Go.Proofs.YtmlpijjjkpnioaaDoor.C
