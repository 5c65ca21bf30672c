import Derived.Test.YtmlpijjjkpnioaaDoorCDecA
/-! sumFits. -/
namespace Go.Proofs.YtmlpijjjkpnioaaDoor.C
open Go.RowKit
open Go.Proofs
open Go.Proofs.YtmlpijjjkpnioaaDoor.K
set_option linter.unusedVariables false
set_option linter.unusedSimpArgs false
set_option maxHeartbeats 2000000
set_option maxRecDepth 100000
theorem sum_at (nb : Nat) (W : World) (q : Option Addr) (l : List UInt8) (c : Nat) (hc : W.cell? ⟨nb, 0, none⟩ = some (.slice q l.length c)) (hs : Sl W (.slice q l.length c) l) (hl : l.length ≤ room) (hT : Tab W) :
    Calls Tryd.prog 14 #[.slice (some ⟨nb, 0, none⟩) 1 1] W fun e w' => e = .returned (.int .u32 (crc l : Int)) ∧ w' = W := by
  have hp : Parts W (some ⟨nb, 0, none⟩) [l] := by
    intro i m hi
    match i, hi with
    | 0, hi =>
      simp at hi; subst hi
      obtain ⟨p, c', e, hbs⟩ := hs.ex
      cases e
      exact ⟨_, q, c, rfl, by simp only [Addr.add, if_pos]; exact hc, hbs, by unfold maxLen; unfold room at hl; omega⟩
    | n + 1, hi => simp at hi
  have := sum_any (some ⟨nb, 0, none⟩) 1 [l] (by simp [maxLen]) _ hp hT
  simpa using this
theorem tk_four (l : List UInt8) (h : l.length = 4) : (tk l 0 4).1 = l := by
  have := tk_in (l := l) 4 (by omega)
  have e : tk l 0 4 = (l.take 4, l.drop 4, 0) := this
  rw [e, List.take_of_length_le (by omega)]
theorem rword4 (br gr : Nat) (v : Value) (l : List UInt8) (hl : l.length = 4) (W : World) (h : Rd W br gr v l 0) :
    Calls Tryd.prog 53 #[.pointer (some ⟨br, 0, none⟩)] W fun r w' => r = .returned (.int .u32 (numL l : Int)) ∧ RStep br W w' :=
  (rword_any br gr v l 0 (by decide) W h).mono fun r w' ⟨h1, v', _, h3⟩ => ⟨by rw [h1, tk_four l hl], h3⟩
theorem sumFits_any (v : Value) (l : List UInt8) (hl : l.length ≤ room) (w : World) (h : Sl w v l) (hT : Tab w) :
    Calls Tryd.prog 35 #[v] w fun e w' => e = .returned (.bool (sumOk l)) ∧ Below w.heap.size w w' := by
  have hs := h
  obtain ⟨p, c, rfl, _⟩ := h.ex
  have hlc : l.length ≤ c := by
    rcases hs with ⟨e, rfl⟩ | ⟨_, _, e, hc, _⟩
    · cases e; simp
    · cases e; exact hc
  unfold room at hl
  by_cases h1 : l.length < 12
  · have hf : sumOk l = false := by simp [sumOk]; omega
    have i1 : decide ((l.length : Int) < 12) = true := by simp; omega
    rw [hf]
    go_enter Tryd.func35, Tryd.ntmps35
    go_wp2
    go_ret
    exact ⟨rfl, Below.refl _ _⟩
  have i1 : decide ((l.length : Int) < 12) = false := by simp; omega
  by_cases h2 : 524288 < l.length
  · have hf : sumOk l = false := by simp [sumOk]; omega
    have i2 : decide ((524288 : Int) < l.length) = true := by simp; omega
    rw [hf]
    go_enter Tryd.func35, Tryd.ntmps35
    go_wp2
    go_ret
    exact ⟨rfl, Below.refl _ _⟩
  have i2 : decide ((524288 : Int) < l.length) = false := by simp; omega
  obtain ⟨e, he⟩ : ∃ e, e = l.length - 4 := ⟨_, rfl⟩
  have hw4 : IntKind.i64.wrap ((l.length : Int) - 4) = (e : Int) := by rw [show (l.length : Int) - 4 = (e : Int) by omega]; simp [IntKind.wrap, IntKind.bits, IntKind.signed]; omega
  have hsD := hs.drop e (by omega)
  have hsT := hs.take e (by omega)
  have s1 := fun W => slice_from W p l.length c e (e : Int) rfl (by omega)
  have s2 := fun W => slice_to W p l.length c e (e : Int) rfl (by omega)
  have htl : (l.take e).length = e := by simp; omega
  have hdl : (l.drop e).length = 4 := by simp; omega
  have hok : sumOk l = decide (numL (l.drop e) = crc (l.take e)) := by
    simp only [sumOk, ← he]
    have a1 : 12 ≤ l.length := by omega
    have a2 : l.length ≤ 524288 := by omega
    simp [a1, a2]
  rw [hok]
  have hnl := numL_lt (l.drop e)
  rw [hdl] at hnl
  generalize hP : (if c = e then p else p.map (·.add e)) = P' at *
  have hc4 : l.length - e = 4 := by omega
  rw [hc4] at hsD s1
  have hnr := fun W (hb : Below w.heap.size w W) => newreader_any _ (l.drop e) (by rw [hdl]; decide) W (hsD.below hb)
  have hsm := fun (nb : Nat) W (hc : W.cell? ⟨nb, 0, none⟩ = some (.slice p e c)) (hb : Below w.heap.size w W) => sum_at nb W p (l.take e) c (by rw [htl]; exact hc) (by rw [htl]; exact hsT.below hb) (by rw [htl]; unfold room; omega) (hT.below hb hT.pos)
  have hbd : Below w.heap.size w w.drew := (Below.refl _ _).drew
  have hba : Below w.heap.size w (w.drew.alloc (.cells #[.slice p e c] 22)) := hbd.alloc (Nat.le_refl _) _
  have hca : (w.drew.alloc (.cells #[.slice p e c] 22)).cell? ⟨w.heap.size, 0, none⟩ = some (.slice p e c) := cell_of _ _ 0 [.slice p e c] _ _ (heap_alloc_new w.drew _) rfl
  have HBD := hid hbd
  have HBA := hid hba
  have HCA := hid hca
  have i3 : (e : Int) ≤ l.length := by omega
  have i4 : (e : Int) ≤ c := by omega
  clear hsD hsT hok hbd hba hca hs h he htl hc4
  have hdl4 : 4 ≤ (l.drop e).length := by omega
  generalize l.drop e = lD at *
  generalize l.take e = lT at *
  by_cases hq : numL lD = crc lT
  · have d1 : ((numL lD : Int) == (crc lT : Int)) = true := by simp [hq]
    rw [decide_eq_true hq]
    clear hq
    go_enter Tryd.func35, Tryd.ntmps35
    go_wp2_with fail
    go_region_with (first
      | (go_at_call 36; refine (hnr _ ?_).mono ?_; (first | exact HBD.out | exact HBA.out); rintro r w1 ⟨br, gr, vr, rfl, q1, q2, q3, hR, hb1, q4⟩; have hB1 : Below w.heap.size w w1 := (by first | exact HBD.out.trans (hb1.mono (Nat.le_refl _)) | exact HBA.out.trans (hb1.mono HBA.out.size)); have hbr : w.heap.size ≤ br := (by first | exact q1 | exact Nat.le_trans HBA.out.size q1); (first | (have cA := hid (below_cell hb1 _ _ HCA.out); have nA : w.heap.size ≠ br := (by have q1' := q1; simp at q1'; omega)) | skip); have HR := hid hR; have HB1 := hid hB1; have HBR := hid hbr; clear hR q1 q2 q3 q4 hb1 hB1 hbr)
      | (go_at_call 53; first
          | (refine (rword4 br gr vr lD hdl w1 HR.out).mono ?_; rintro r w2 ⟨rfl, hS2⟩; have HB2 := hid (HB1.out.trans (hS2.belowB HBR.out HB1.out.size)); (first | (have cA2 := hid ((World.cell?_of_block (w := w1) (hS2.block _ (World.block_lt_of_cell? w1 _ cA.out) nA)).trans cA.out)) | skip); clear hS2)
          | (refine (rword4 br gr vr lD hdl (w1.alloc (.cells #[.slice p e c] 22)) (HR.out.below ((Below.refl _ _).alloc (Nat.le_refl _) _))).mono ?_; rintro r w2 ⟨rfl, hS2⟩; have hBx := HB1.out.alloc HB1.out.size (.cells #[.slice p e c] 22); have HB2 := hid (hBx.trans (hS2.belowB HBR.out hBx.size)); have cA2 := hid (cell_of w2 w1.heap.size 0 [.slice p e c] 22 (.slice p e c) ((hS2.block w1.heap.size (by simp) (by have := HR.out.lt; omega)).trans (heap_alloc_new w1 _)) rfl); clear hS2 hBx))
      | (go_at_call 14; first
          | (refine (hsm w.heap.size w2 cA2.out HB2.out).mono ?_; rintro r w3 ⟨rfl, rfl⟩)
          | (refine (hsm w1.heap.size w2 cA2.out HB2.out).mono ?_; rintro r w3 ⟨rfl, rfl⟩)
          | (refine (hsm w2.heap.size (w2.alloc (.cells #[.slice p e c] 22)) (cell_of _ _ 0 [.slice p e c] _ _ (heap_alloc_new w2 _) rfl) (HB2.out.alloc HB2.out.size _)).mono ?_; rintro r w3 ⟨rfl, rfl⟩)))
    all_goals
      go_wp2
      go_ret
      exact ⟨rfl, by first | exact HB2.out | exact HB2.out.alloc HB2.out.size _⟩
  · have d1 : ((numL lD : Int) == (crc lT : Int)) = false := by simp; omega
    rw [decide_eq_false hq]
    clear hq
    go_enter Tryd.func35, Tryd.ntmps35
    go_wp2_with fail
    go_region_with (first
      | (go_at_call 36; refine (hnr _ ?_).mono ?_; (first | exact HBD.out | exact HBA.out); rintro r w1 ⟨br, gr, vr, rfl, q1, q2, q3, hR, hb1, q4⟩; have hB1 : Below w.heap.size w w1 := (by first | exact HBD.out.trans (hb1.mono (Nat.le_refl _)) | exact HBA.out.trans (hb1.mono HBA.out.size)); have hbr : w.heap.size ≤ br := (by first | exact q1 | exact Nat.le_trans HBA.out.size q1); (first | (have cA := hid (below_cell hb1 _ _ HCA.out); have nA : w.heap.size ≠ br := (by have q1' := q1; simp at q1'; omega)) | skip); have HR := hid hR; have HB1 := hid hB1; have HBR := hid hbr; clear hR q1 q2 q3 q4 hb1 hB1 hbr)
      | (go_at_call 53; first
          | (refine (rword4 br gr vr lD hdl w1 HR.out).mono ?_; rintro r w2 ⟨rfl, hS2⟩; have HB2 := hid (HB1.out.trans (hS2.belowB HBR.out HB1.out.size)); (first | (have cA2 := hid ((World.cell?_of_block (w := w1) (hS2.block _ (World.block_lt_of_cell? w1 _ cA.out) nA)).trans cA.out)) | skip); clear hS2)
          | (refine (rword4 br gr vr lD hdl (w1.alloc (.cells #[.slice p e c] 22)) (HR.out.below ((Below.refl _ _).alloc (Nat.le_refl _) _))).mono ?_; rintro r w2 ⟨rfl, hS2⟩; have hBx := HB1.out.alloc HB1.out.size (.cells #[.slice p e c] 22); have HB2 := hid (hBx.trans (hS2.belowB HBR.out hBx.size)); have cA2 := hid (cell_of w2 w1.heap.size 0 [.slice p e c] 22 (.slice p e c) ((hS2.block w1.heap.size (by simp) (by have := HR.out.lt; omega)).trans (heap_alloc_new w1 _)) rfl); clear hS2 hBx))
      | (go_at_call 14; first
          | (refine (hsm w.heap.size w2 cA2.out HB2.out).mono ?_; rintro r w3 ⟨rfl, rfl⟩)
          | (refine (hsm w1.heap.size w2 cA2.out HB2.out).mono ?_; rintro r w3 ⟨rfl, rfl⟩)
          | (refine (hsm w2.heap.size (w2.alloc (.cells #[.slice p e c] 22)) (cell_of _ _ 0 [.slice p e c] _ _ (heap_alloc_new w2 _) rfl) (HB2.out.alloc HB2.out.size _)).mono ?_; rintro r w3 ⟨rfl, rfl⟩)))
    all_goals
      go_wp2
      go_ret
      exact ⟨rfl, by first | exact HB2.out | exact HB2.out.alloc HB2.out.size _⟩
end Go.Proofs.YtmlpijjjkpnioaaDoor.C
