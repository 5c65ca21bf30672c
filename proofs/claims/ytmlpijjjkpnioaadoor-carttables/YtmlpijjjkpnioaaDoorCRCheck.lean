import Derived.Test.YtmlpijjjkpnioaaDoorCCheckE
/-! 7.1 by the document's own answer. -/
namespace Go.Proofs.YtmlpijjjkpnioaaDoor.C
open Go.RowKit
open Go.Proofs
open Go.Proofs.YtmlpijjjkpnioaaDoor.K
set_option linter.unusedVariables false
set_option linter.unusedSimpArgs false
set_option maxHeartbeats 2000000
set_option maxRecDepth 100000
def pb (bs : List Bk) : Nat → Int
  | 0 => -1
  | k + 1 => (bs.getD k (0, [])).1
theorem bank_false {p : Int} {x : Bk} {l : List Bk} (h : ¬ p < x.1 ∨ ¬ x.1 < 16 ∨ 16384 < x.2.length) : bankG p (x :: l) = false := by
  simp only [bankG, datOk]
  rcases h with h | h | h
  · simp [h]
  · simp [h]
  · have : ¬ x.2.length ≤ 16384 := by omega
    simp [this]
theorem bank_true {p : Int} {x : Bk} {l : List Bk} (h1 : p < x.1) (h2 : x.1 < 16) (h3 : x.2.length ≤ 16384) : bankG p (x :: l) = bankG x.1 l := by
  simp [bankG, datOk, h1, h2, h3]
theorem rcheck_any (v : Value) (c : Ct) (ep : Option Addr) (ec : Nat) (bp : Option Addr) (bc : Nat) (kv : Value) (w : World) (h : IsC w v c ep ec bp bc kv) :
    Calls Tryd.prog 45 #[v] w fun e w' => e = .returned (.int .i64 (if may c then 0 else 74)) ∧ Below w.heap.size w w' := by
  obtain ⟨kp, kc, rfl, _⟩ := h.code.ex
  have hv := h.val
  subst hv
  unfold cv
  have hcl := h.clen
  have hel := h.elen
  have hbl := h.blen
  have hE := h.effs
  have hK := h.banks
  unfold room at hcl hel hbl
  obtain ⟨wb, hwb⟩ : ∃ wb, wb = w.alloc (.cells #[.slice kp c.code.length kc, .int .u16 (c.entry : Int), .slice ep c.effs.length ec, .slice bp c.banks.length bc] 27) := ⟨_, rfl⟩
  have hBb : Below w.heap.size w wb := by rw [hwb]; exact (Below.refl _ _).alloc (Nat.le_refl _) _
  have hNb : wb.heap[w.heap.size]? = some (.cells [.slice kp c.code.length kc, .int .u16 (c.entry : Int), .slice ep c.effs.length ec, .slice bp c.banks.length bc].toArray 27 (0, 0)) := by rw [hwb]; exact heap_alloc_new w _
  have hm : may c = (codeB c.code && effsB c.effs && bankG (-1) c.banks) := rfl
  have HM := hid hm
  have HB := hid hBb
  have HN := hid hNb
  clear hm hBb hNb h
  by_cases c1 : c.code.length % 2 = 0
  case neg =>
    have hf : may c = false := by rw [HM.out]; simp [codeB, c1]
    have i1 : ((c.code.length : Int) % 2 != 0) = true := by simp; omega
    rw [hf]
    simp only [Bool.false_eq_true, if_false]
    go_enter Tryd.func45, Tryd.ntmps45
    go_wp2
    go_ret
    rw [← hwb]
    exact ⟨rfl, HB.out⟩
  have i1 : ((c.code.length : Int) % 2 != 0) = false := by simp; omega
  by_cases c2 : c.code.length ≤ 16384
  case neg =>
    have hf : may c = false := by rw [HM.out]; simp [codeB, c2]
    have i2 : decide ((16384 : Int) < c.code.length) = true := by simp; omega
    rw [hf]
    simp only [Bool.false_eq_true, if_false]
    go_enter Tryd.func45, Tryd.ntmps45
    go_wp2
    go_ret
    rw [← hwb]
    exact ⟨rfl, HB.out⟩
  have i2 : decide ((16384 : Int) < c.code.length) = false := by simp; omega
  by_cases c3 : c.effs.length ≤ 8192
  case neg =>
    have hf : may c = false := by rw [HM.out]; simp [effsB, c3]
    have i3 : decide ((8192 : Int) < c.effs.length) = true := by simp; omega
    rw [hf]
    simp only [Bool.false_eq_true, if_false]
    go_enter Tryd.func45, Tryd.ntmps45
    go_wp2
    go_ret
    rw [← hwb]
    exact ⟨rfl, HB.out⟩
  have i3 : decide ((8192 : Int) < c.effs.length) = false := by simp; omega
  have hm2 : may c = (effG (-1) c.effs && bankG (-1) c.banks) := by rw [HM.out]; simp [codeB, effsB, c1, c2, c3]
  rw [hm2]
  obtain ⟨R, hR⟩ : ∃ R : Int, R = (if (effG (-1) c.effs && bankG (-1) c.banks) = true then 0 else 74) := ⟨_, rfl⟩
  rw [← hR]
  have HR := hid hR
  clear hR
  have HE := hid hE
  have HK := hid hK
  generalize c.effs = es at *
  generalize c.banks = bs at *
  generalize c.code.length = cn at *
  generalize (c.entry : Int) = ce at *
  clear HM hm2 hE hK
  go_enter Tryd.func45, Tryd.ntmps45
  go_wp2
  rw [← hwb]
  clear hwb i1 i2 i3 c1 c2
  go_loopw [3] (fun i wr => ∃ (k : Nat), k ≤ es.length ∧ i = .int .i64 (k : Int) ∧ effG (-1) es = effG (pv es k) (es.drop k) ∧ wr.heap[w.heap.size]? = some (.cells [.slice kp cn kc, .int .u16 ce, .slice ep es.length ec, .slice bp bs.length bc].toArray 27 (0, 0)) ∧ Below w.heap.size w wr) (fun i _ => es.length - (intOf i).toNat)
  case atStart => exact ⟨0, by omega, rfl, rfl, HN.out, HB.out⟩
  case round =>
    clear HN HB
    obtain ⟨k, hk, rfl, hG0, hN, hB⟩ := hrel
    have hG := hid hG0
    clear hG0
    have a2 := cell_of wr w.heap.size 2 _ _ _ hN rfl
    by_cases hlt : k < es.length
    case neg =>
      obtain rfl : k = es.length := by omega
      have hf : effG (-1) es = true := by rw [hG.out, List.drop_length]; rfl
      have HF := hid hf
      have HN := hid hN
      have HB := hid hB
      clear hG hf hN hB
      go_wp2_with fail
      clear a2
      go_loopw [5] (fun i wr => ∃ (k : Nat), k ≤ bs.length ∧ i = .int .i64 (k : Int) ∧ bankG (-1) bs = bankG (pb bs k) (bs.drop k) ∧ -1 ≤ pb bs k ∧ wr.heap[w.heap.size]? = some (.cells [.slice kp cn kc, .int .u16 ce, .slice ep es.length ec, .slice bp bs.length bc].toArray 27 (0, 0)) ∧ Below w.heap.size w wr) (fun i _ => bs.length - (intOf i).toNat)
      case atStart => exact ⟨0, by omega, rfl, rfl, by simp [pb], HN.out, HB.out⟩
      case round =>
        clear HN HB
        obtain ⟨k, hk, rfl, hG0, hp1, hN, hB⟩ := hrel
        have hG := hid hG0
        clear hG0
        have a3 := cell_of wr w.heap.size 3 _ _ _ hN rfl
        by_cases hlt : k < bs.length
        case neg =>
          obtain rfl : k = bs.length := by omega
          have HFF : Hid (bankG (-1) bs = true) := hid (by rw [hG.out, List.drop_length]; rfl)
          clear hG
          go_wp2
          go_ret
          exact ⟨by rw [HR.out, HF.out, HFF.out]; rfl, hB⟩
        have i1 : (k : Int) < bs.length := by omega
        obtain ⟨b, ob, dv, hbp, e1, e2, e3, e4⟩ := HK.out.below hB k bs[k] (List.getElem?_eq_getElem hlt)
        have hd : bs.drop k = bs[k] :: bs.drop (k + 1) := by rw [List.drop_eq_getElem_cons hlt]
        have hG := hG.out
        rw [hd] at hG
        have hP : pb bs (k + 1) = (bs[k]).1 := by simp [pb, List.getD, List.getElem?_eq_getElem hlt]
        have HFB : Hid ((¬ pb bs k < (bs[k]).1 ∨ ¬ (bs[k]).1 < 16 ∨ 16384 < (bs[k]).2.length) → bankG (-1) bs = false) := hid (fun x => hG.trans (bank_false x))
        have HT : Hid (∀ (x1 : pb bs k < (bs[k]).1) (x2 : (bs[k]).1 < 16) (x3 : (bs[k]).2.length ≤ 16384), bankG (-1) bs = bankG (pb bs (k + 1)) (bs.drop (k + 1)) ∧ -1 ≤ pb bs (k + 1)) := hid (fun x1 x2 x3 => by rw [hP]; exact ⟨hG.trans (bank_true x1 x2 x3), by omega⟩)
        have hprev : ∀ j, k = j + 1 → ∃ a0 : Int, pb bs k = a0 ∧ wr.cell? ⟨b, ob + j * 2, none⟩ = some (.int .i64 a0) := by
          intro j hj
          have hj2 : j < bs.length := by omega
          obtain ⟨b', ob', _, q1, q2, _⟩ := HK.out.below hB j bs[j] (List.getElem?_eq_getElem hj2)
          rw [hbp] at q1
          have q1' : b = b' ∧ ob = ob' := by simpa using q1
          obtain ⟨rfl, rfl⟩ := q1'
          exact ⟨(bs[j]).1, by subst hj; simp [pb, List.getD, List.getElem?_eq_getElem hj2], q2⟩
        clear hG hd hP
        generalize bs[k] = t at *
        obtain ⟨n, l⟩ := t
        simp only at *
        obtain ⟨dp, dc, rfl, _⟩ := e3.ex
        subst hbp
        unfold room at e4
        have hbA : Below wr.heap.size wr (wr.alloc (.cells #[.int .i64 n, .slice dp l.length dc] 82)) := (Below.refl _ _).alloc (Nat.le_refl _) _
        have a3' := below_cell hbA _ _ a3
        have HNA := hid ((hbA.block _ (lt_of hN)).trans hN)
        have HB := hid (hB.trans (hbA.mono hB.size))
        have hpv2 : ∀ j, k = j + 1 → ∃ a0 : Int, pb bs k = a0 ∧ (wr.alloc (.cells #[.int .i64 n, .slice dp l.length dc] 82)).cell? ⟨b, ob + j * 2, none⟩ = some (.int .i64 a0) := fun j hj => by
          obtain ⟨a0, h1, h2⟩ := hprev j hj
          exact ⟨a0, h1, below_cell hbA _ _ h2⟩
        clear hprev hbA hN hB e3
        cases k with
        | zero =>
          clear hpv2
          simp only [Nat.zero_mul, Nat.add_zero, Nat.zero_add] at e1 e2
          have hq0 : pb bs 0 = -1 := rfl
          rw [hq0] at HFB HT hp1
          clear hq0
          by_cases q1 : n < 0
          case pos =>
            have d1 : decide (n < 0) = true := by simpa using q1
            have HFF : Hid (bankG (-1) bs = false) := hid (HFB.out (.inl (by omega)))
            clear HFB HT
            go_wp2_with fail
            go_quiet (fail)
            go_wp2
            go_ret
            exact ⟨by rw [HR.out, HF.out, HFF.out]; rfl, dn HB.out _⟩
          have d1 : decide (n < 0) = false := by simpa using q1
          by_cases q2 : 15 < n
          case pos =>
            have d2 : decide (15 < n) = true := by simpa using q2
            have HFF : Hid (bankG (-1) bs = false) := hid (HFB.out (.inr (.inl (by omega))))
            clear HFB HT
            go_wp2_with fail
            go_quiet (fail)
            go_wp2
            go_ret
            exact ⟨by rw [HR.out, HF.out, HFF.out]; rfl, dn HB.out _⟩
          have d2 : decide (15 < n) = false := by simpa using q2
          by_cases q3 : 16384 < l.length
          case pos =>
            have d3 : decide ((16384 : Int) < l.length) = true := by simp; omega
            have HFF : Hid (bankG (-1) bs = false) := hid (HFB.out (.inr (.inr q3)))
            clear HFB HT
            go_wp2_with fail
            go_quiet (fail)
            go_wp2
            go_ret
            exact ⟨by rw [HR.out, HF.out, HFF.out]; rfl, dn HB.out _⟩
          have d3 : decide ((16384 : Int) < l.length) = false := by simp; omega
          obtain ⟨ht1, ht2⟩ := HT.out (by omega) (by omega) (by omega)
          have HN2 := hid ht1
          have HN3 := hid ht2
          clear HFB HT ht1 ht2
          go_wp2_with fail
          go_quiet (fail)
          go_wp2
          go_roundw
          case rel =>
            first
              | exact ⟨0 + 1, by omega, by go_num, HN2.out, HN3.out, HNA.out, dn HB.out _⟩
              | ((repeat apply Exists.intro); refine ⟨⟨0 + 1, by omega, ?_, HN2.out, HN3.out, HNA.out, dn HB.out _⟩, rfl⟩; go_num)
          case measure => simp [intOf]; omega
        | succ j =>
          obtain ⟨a0, hp, e0⟩ := hpv2 j rfl
          clear hpv2
          rw [hp] at HFB HT hp1
          clear hp
          have x1 : IntKind.i64.wrap (j : Int) = (j : Int) := by simp [IntKind.wrap, IntKind.bits, IntKind.signed]; omega
          have x2 : (j : Int) < bs.length := by omega
          have i3 : (0 : Int) < ((j + 1 : Nat) : Int) := by omega
          by_cases q1 : n < 0
          case pos =>
            have d1 : decide (n < 0) = true := by simpa using q1
            have HFF : Hid (bankG (-1) bs = false) := hid (HFB.out (.inl (by omega)))
            clear HFB HT
            go_wp2_with fail
            go_quiet (fail)
            go_wp2
            go_ret
            exact ⟨by rw [HR.out, HF.out, HFF.out]; rfl, dn HB.out _⟩
          have d1 : decide (n < 0) = false := by simpa using q1
          by_cases q2 : 15 < n
          case pos =>
            have d2 : decide (15 < n) = true := by simpa using q2
            have HFF : Hid (bankG (-1) bs = false) := hid (HFB.out (.inr (.inl (by omega))))
            clear HFB HT
            go_wp2_with fail
            go_quiet (fail)
            go_wp2
            go_ret
            exact ⟨by rw [HR.out, HF.out, HFF.out]; rfl, dn HB.out _⟩
          have d2 : decide (15 < n) = false := by simpa using q2
          by_cases q3 : 16384 < l.length
          case pos =>
            have d3 : decide ((16384 : Int) < l.length) = true := by simp; omega
            have HFF : Hid (bankG (-1) bs = false) := hid (HFB.out (.inr (.inr q3)))
            clear HFB HT
            go_wp2_with fail
            go_quiet (fail)
            go_wp2
            go_ret
            exact ⟨by rw [HR.out, HF.out, HFF.out]; rfl, dn HB.out _⟩
          have d3 : decide ((16384 : Int) < l.length) = false := by simp; omega
          by_cases q5 : n ≤ a0
          case pos =>
            have d5 : decide (n ≤ a0) = true := by simpa using q5
            have HFF : Hid (bankG (-1) bs = false) := hid (HFB.out (.inl (by omega)))
            clear HFB HT
            go_wp2_with fail
            go_quiet (fail)
            go_wp2
            go_ret
            exact ⟨by rw [HR.out, HF.out, HFF.out]; rfl, dn HB.out _⟩
          have d5 : decide (n ≤ a0) = false := by simpa using q5
          obtain ⟨ht1, ht2⟩ := HT.out (by omega) (by omega) (by omega)
          have HN2 := hid ht1
          have HN3 := hid ht2
          clear HFB HT ht1 ht2
          go_wp2_with fail
          go_quiet (fail)
          go_wp2
          go_roundw
          case rel =>
            first
              | exact ⟨(j + 1) + 1, by omega, by go_num, HN2.out, HN3.out, HNA.out, dn HB.out _⟩
              | ((repeat apply Exists.intro); refine ⟨⟨(j + 1) + 1, by omega, ?_, HN2.out, HN3.out, HNA.out, dn HB.out _⟩, rfl⟩; go_num)
          case measure => simp [intOf]; omega
    have i1 : (k : Int) < es.length := by omega
    obtain ⟨b, ob, rfl, e1, e2, e3⟩ := HE.out.below hB k es[k] (List.getElem?_eq_getElem hlt)
    have hd : es.drop k = es[k] :: es.drop (k + 1) := by rw [List.drop_eq_getElem_cons hlt]
    have hG := hG.out
    rw [hd] at hG
    have hP : pv es (k + 1) = (es[k]).1 := by simp [pv, List.getD, List.getElem?_eq_getElem hlt]
    have HF : Hid ((¬ pv es k < ((es[k]).1 : Int) ∨ hgt (es[k]).2.1 = false ∨ hgt (es[k]).2.2 = false) → effG (-1) es = false) := hid (fun x => hG.trans (eff_false x))
    have HT : Hid (∀ (x1 : pv es k < ((es[k]).1 : Int)) (x2 : hgt (es[k]).2.1 = true) (x3 : hgt (es[k]).2.2 = true), effG (-1) es = effG (pv es (k + 1)) (es.drop (k + 1))) := hid (fun x1 x2 x3 => by rw [hP]; exact hG.trans (eff_true x1 x2 x3))
    have hprev : ∀ j, k = j + 1 → ∃ a0 : Nat, pv es k = (a0 : Int) ∧ wr.cell? ⟨b, ob + j * 3, none⟩ = some (.int .u16 (a0 : Int)) := by
      intro j hj
      have hj2 : j < es.length := by omega
      obtain ⟨b', ob', q1, q2, _, _⟩ := HE.out.below hB j es[j] (List.getElem?_eq_getElem hj2)
      have q1' : b = b' ∧ ob = ob' := by simpa using q1
      obtain ⟨rfl, rfl⟩ := q1'
      exact ⟨(es[j]).1, by subst hj; simp [pv, List.getD, List.getElem?_eq_getElem hj2], q2⟩
    clear hG hd hP
    generalize es[k] = t at *
    obtain ⟨a, i, o⟩ := t
    simp only at *
    have hbA : Below wr.heap.size wr (wr.alloc (.cells #[.int .u16 (a : Int), .int .i64 i, .int .i64 o] 80)) := (Below.refl _ _).alloc (Nat.le_refl _) _
    have a2' := below_cell hbA _ _ a2
    have HNA := hid ((hbA.block _ (lt_of hN)).trans hN)
    have HB := hid (hB.trans (hbA.mono hB.size))
    have hpv2 : ∀ j, k = j + 1 → ∃ a0 : Nat, pv es k = (a0 : Int) ∧ (wr.alloc (.cells #[.int .u16 (a : Int), .int .i64 i, .int .i64 o] 80)).cell? ⟨b, ob + j * 3, none⟩ = some (.int .u16 (a0 : Int)) := fun j hj => by
      obtain ⟨a0, h1, h2⟩ := hprev j hj
      exact ⟨a0, h1, below_cell hbA _ _ h2⟩
    clear hprev hbA hN hB
    cases k with
    | zero =>
      clear hpv2
      simp only [Nat.zero_mul, Nat.add_zero, Nat.zero_add] at e1 e2 e3
      have hq : pv es 0 < (a : Int) := by simp only [pv]; omega
      by_cases q1 : i < 0
      case pos =>
        have d1 : decide (i < 0) = true := by simpa using q1
        have HFF : Hid (effG (-1) es = false) := hid (HF.out (.inr (.inl (by simp only [hgt, decide_eq_false_iff_not]; omega))))
        clear HF HT
        go_wp2_with fail
        go_quiet (fail)
        go_wp2
        go_ret
        exact ⟨by rw [HR.out, HFF.out]; rfl, dn HB.out _⟩
      have d1 : decide (i < 0) = false := by simpa using q1
      by_cases q2 : 256 < i
      case pos =>
        have d2 : decide (256 < i) = true := by simpa using q2
        have HFF : Hid (effG (-1) es = false) := hid (HF.out (.inr (.inl (by simp only [hgt, decide_eq_false_iff_not]; omega))))
        clear HF HT
        go_wp2_with fail
        go_quiet (fail)
        go_wp2
        go_ret
        exact ⟨by rw [HR.out, HFF.out]; rfl, dn HB.out _⟩
      have d2 : decide (256 < i) = false := by simpa using q2
      by_cases q3 : o < 0
      case pos =>
        have d3 : decide (o < 0) = true := by simpa using q3
        have HFF : Hid (effG (-1) es = false) := hid (HF.out (.inr (.inr (by simp only [hgt, decide_eq_false_iff_not]; omega))))
        clear HF HT
        go_wp2_with fail
        go_quiet (fail)
        go_wp2
        go_ret
        exact ⟨by rw [HR.out, HFF.out]; rfl, dn HB.out _⟩
      have d3 : decide (o < 0) = false := by simpa using q3
      by_cases q4 : 256 < o
      case pos =>
        have d4 : decide (256 < o) = true := by simpa using q4
        have HFF : Hid (effG (-1) es = false) := hid (HF.out (.inr (.inr (by simp only [hgt, decide_eq_false_iff_not]; omega))))
        clear HF HT
        go_wp2_with fail
        go_quiet (fail)
        go_wp2
        go_ret
        exact ⟨by rw [HR.out, HFF.out]; rfl, dn HB.out _⟩
      have d4 : decide (256 < o) = false := by simpa using q4
      have HN2 := hid (HT.out hq (by simp only [hgt, decide_eq_true_eq]; omega) (by simp only [hgt, decide_eq_true_eq]; omega))
      clear HF HT
      go_wp2_with fail
      go_quiet (fail)
      go_wp2
      go_roundw
      case rel =>
        first
          | exact ⟨0 + 1, by omega, by go_num, HN2.out, HNA.out, dn HB.out _⟩
          | ((repeat apply Exists.intro); refine ⟨⟨0 + 1, by omega, ?_, HN2.out, HNA.out, dn HB.out _⟩, rfl⟩; go_num)
      case measure => simp [intOf]; omega
    | succ j =>
      obtain ⟨a0, hp, e0⟩ := hpv2 j rfl
      clear hpv2
      rw [hp] at HF HT
      clear hp
      have x1 : IntKind.i64.wrap (j : Int) = (j : Int) := by simp [IntKind.wrap, IntKind.bits, IntKind.signed]; omega
      have x2 : (j : Int) < es.length := by omega
      have i3 : (0 : Int) < ((j + 1 : Nat) : Int) := by omega
      by_cases q1 : i < 0
      case pos =>
        have d1 : decide (i < 0) = true := by simpa using q1
        have HFF : Hid (effG (-1) es = false) := hid (HF.out (.inr (.inl (by simp only [hgt, decide_eq_false_iff_not]; omega))))
        clear HF HT
        go_wp2_with fail
        go_quiet (fail)
        go_wp2
        go_ret
        exact ⟨by rw [HR.out, HFF.out]; rfl, dn HB.out _⟩
      have d1 : decide (i < 0) = false := by simpa using q1
      by_cases q2 : 256 < i
      case pos =>
        have d2 : decide (256 < i) = true := by simpa using q2
        have HFF : Hid (effG (-1) es = false) := hid (HF.out (.inr (.inl (by simp only [hgt, decide_eq_false_iff_not]; omega))))
        clear HF HT
        go_wp2_with fail
        go_quiet (fail)
        go_wp2
        go_ret
        exact ⟨by rw [HR.out, HFF.out]; rfl, dn HB.out _⟩
      have d2 : decide (256 < i) = false := by simpa using q2
      by_cases q3 : o < 0
      case pos =>
        have d3 : decide (o < 0) = true := by simpa using q3
        have HFF : Hid (effG (-1) es = false) := hid (HF.out (.inr (.inr (by simp only [hgt, decide_eq_false_iff_not]; omega))))
        clear HF HT
        go_wp2_with fail
        go_quiet (fail)
        go_wp2
        go_ret
        exact ⟨by rw [HR.out, HFF.out]; rfl, dn HB.out _⟩
      have d3 : decide (o < 0) = false := by simpa using q3
      by_cases q4 : 256 < o
      case pos =>
        have d4 : decide (256 < o) = true := by simpa using q4
        have HFF : Hid (effG (-1) es = false) := hid (HF.out (.inr (.inr (by simp only [hgt, decide_eq_false_iff_not]; omega))))
        clear HF HT
        go_wp2_with fail
        go_quiet (fail)
        go_wp2
        go_ret
        exact ⟨by rw [HR.out, HFF.out]; rfl, dn HB.out _⟩
      have d4 : decide (256 < o) = false := by simpa using q4
      by_cases q5 : ¬ (a0 : Int) < (a : Int)
      case pos =>
        have d5 : decide (a ≤ a0) = true := by simp; omega
        have HFF : Hid (effG (-1) es = false) := hid (HF.out (.inl q5))
        clear HF HT
        go_wp2_with fail
        go_quiet (fail)
        go_wp2
        go_ret
        exact ⟨by rw [HR.out, HFF.out]; rfl, dn HB.out _⟩
      have d5 : decide (a ≤ a0) = false := by simp; omega
      have HN2 := hid (HT.out (by omega) (by simp only [hgt, decide_eq_true_eq]; omega) (by simp only [hgt, decide_eq_true_eq]; omega))
      clear HF HT
      go_wp2_with fail
      go_quiet (fail)
      go_wp2
      go_roundw
      case rel =>
        first
          | exact ⟨(j + 1) + 1, by omega, by go_num, HN2.out, HNA.out, dn HB.out _⟩
          | ((repeat apply Exists.intro); refine ⟨⟨(j + 1) + 1, by omega, ?_, HN2.out, HNA.out, dn HB.out _⟩, rfl⟩; go_num)
      case measure => simp [intOf]; omega
end Go.Proofs.YtmlpijjjkpnioaaDoor.C
