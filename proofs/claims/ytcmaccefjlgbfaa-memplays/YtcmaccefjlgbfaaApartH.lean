import Derived.Test.YtcmaccefjlgbfaaApartKit
/-! The statement's own test that lists share no room: the walk, and what lies above. -/
namespace Go.Proofs.Ytcmaccefjlgbfaa
open Go.RowKit
open Go.Proofs
set_option linter.unusedVariables false
set_option linter.unusedSimpArgs false
/-- Old blocks from H on are as they were. -/
def Fr (H : Nat) (W0 W : World) : Prop := W0.heap.size ≤ W.heap.size ∧ ∀ k, H ≤ k → k < W0.heap.size → W.heap[k]? = W0.heap[k]?
structure P1h (B H bl n : Nat) (vals : Nat → Value) (len : Nat → Nat) (W0 W : World) (Ls : Nat → List UInt8) : Prop where
  p : P1 B bl n vals len W0 W Ls
  fr : Fr H W0 W
  out : ∀ i, i < n → ∀ x, (vals i).ownBlock = some x → x < H ∨ W0.heap.size ≤ x
theorem P1h.store {B H bl n : Nat} {vals : Nat → Value} {len : Nat → Nat} {W0 W : World} {Ls : Nat → List UInt8} (h : P1h B H bl n vals len W0 W Ls) (i k g c : Nat) (hi : i < n) (hk : k < len i) (hv : vals i = .slice (some ⟨g, 0, none⟩) (len i) c) (b : UInt8) :
    P1h B H bl n vals len W0 (W.setCell ⟨g, k, none⟩ (.int .u8 (b.toNat : Int))) (updF Ls i ((Ls i).set k b)) :=
  ⟨h.p.store i k g c hi hk hv b, ⟨by rw [setCell_size]; exact h.fr.1, fun j h1 h2 => (setCell_other _ _ _ _ _ (by have := h.out i hi g (by rw [hv]; rfl); omega)).trans (h.fr.2 j h1 h2)⟩, h.out⟩
structure A3h (B H B3 bl n : Nat) (vals cur : Nat → Value) (g len clen : Nat → Nat) (W0 W : World) : Prop where
  a : A3 B B3 bl n vals cur g len clen W0 W
  fr : Fr H W0 W
  out : ∀ i, i < n → ∀ x, (cur i).ownBlock = some x → x < H ∨ W0.heap.size ≤ x
  wb : W0.heap.size ≤ B3
theorem A3h.frame {B H B3 bl n : Nat} {vals cur : Nat → Value} {g len clen : Nat → Nat} {W0 W W' : World} (h : A3h B H B3 bl n vals cur g len clen W0 W) (k5 : K5 W W') (hb : ∀ k, k < B3 → W'.heap[k]? = W.heap[k]?) (hB : Below B W0 W') (hs : B3 ≤ W'.heap.size) : A3h B H B3 bl n vals cur g len clen W0 W' :=
  ⟨h.a.frame k5 hb hB hs, ⟨hB.size, fun k h1 h2 => (hb k (by have := h.wb; omega)).trans (h.fr.2 k h1 h2)⟩, h.out, h.wb⟩
theorem A3h.app {B H B3 bl n : Nat} {vals cur : Nat → Value} {g len clen : Nat → Nat} {W0 W W' : World} {v' : Value} (h : A3h B H B3 bl n vals cur g len clen W0 W) (i : Nat) (hi : i < n) (hg : Grew W W' (cur i) v') (hr : Row W' B v' (two i (len i) (clen i) ++ [mrk2 i])) :
    A3h B H B3 bl n vals (updF cur i v') g len (updF clen i (clen i + 1)) W0 W' := by
  refine ⟨h.a.app i hi hg hr, ⟨Nat.le_trans h.fr.1 hg.size, fun k h1 h2 => (hg.block k (Nat.lt_of_lt_of_le h2 h.fr.1) (fun e => ?_)).trans (h.fr.2 k h1 h2)⟩, fun j hj x hx => ?_, h.wb⟩
  · have := h.out i hi k e.symm; omega
  · by_cases e : j = i
    · subst e
      rw [updF_self] at hx
      rcases hg.own with e | e
      · rw [e] at hx; exact h.out j hi x hx
      · exact .inr (Nat.le_trans h.fr.1 (e x hx))
    · rw [updF_ne _ _ _ _ e] at hx; exact h.out j hj x hx
set_option maxHeartbeats 4000000 in
set_option maxRecDepth 100000 in
theorem apart_hi (B H bl n cn : Nat) (hn : n ≤ 100) (vals : Nat → Value) (len : Nat → Nat) (Ls : Nat → List UInt8) (W : World) (h : P1h B H bl n vals len W W Ls) (hlen : ∀ i, i < n → len i + 200 ≤ room) :
    Calls Try.prog 57 #[.slice (some ⟨bl, 0, none⟩) n cn] W fun r w' => r = .returned (.bool true) ∧ Below B W w' ∧ Fr H W w' := by
  have hv : ∀ i, i < n → ∃ p c g, vals i = .slice p (len i) c ∧ (0 < len i → p = some ⟨g, 0, none⟩) := fun i hi => by
    have hr := h.p.rows i hi
    have hl := h.p.lens i hi
    rcases hr.2 with ⟨e, e0⟩ | ⟨g, cap, cur, e, _⟩
    · exact ⟨none, 0, 0, by rw [e]; congr 1; omega, fun hp => by omega⟩
    · exact ⟨_, cap, g, by rw [e, hl], fun _ => rfl⟩
  obtain ⟨pv, hpv⟩ := Deep.choose_lt hv
  obtain ⟨cv, hcv⟩ := Deep.choose_lt hpv
  obtain ⟨g, hg⟩ := Deep.choose_lt hcv
  clear hv hpv hcv
  have HV : Hid _ := hg
  have H0 : Hid _ := h
  have HL : Hid _ := hlen
  clear hg h hlen
  go_enter Try.func57, Try.ntmps57
  go_wp2
  go_loopw [14] (fun i wr => ∃ (k : Nat) (Ls : Nat → List UInt8), k ≤ n ∧ i = .int .i64 (k : Int) ∧ P1h B H bl n vals len W wr Ls ∧ ∀ a, a < k → ∀ j, j < len a → (Ls a)[j]? = some (mrk a)) (fun i _ => n - (intOf i).toNat)
  case atStart => exact ⟨0, Ls, by omega, rfl, H0.out, fun a ha => by omega⟩
  case round =>
    clear H0
    obtain ⟨k, Ls, hk, rfl, hP, hmk⟩ := hrel
    by_cases hlt : k < n
    · have i1 : (k : Int) < n := by omega
      have hc := hP.p.cells k hlt
      obtain ⟨ev, eg⟩ := HV.out k hlt
      have hLk := HL.out k hlt
      unfold room at hLk
      rw [ev] at hc
      have HP : Hid _ := hP
      have HM : Hid _ := hmk
      clear hP hmk
      go_wp2
      go_loopw [22] (fun j w3 => ∃ (y : Nat) (Ls : Nat → List UInt8), y ≤ len k ∧ j = .int .i64 (y : Int) ∧ P1h B H bl n vals len W w3 Ls ∧ (∀ a, a < k → ∀ j, j < len a → (Ls a)[j]? = some (mrk a)) ∧ ∀ j, j < y → (Ls k)[j]? = some (mrk k)) (fun j _ => len k - (intOf j).toNat)
      case atStart => exact ⟨0, Ls, by omega, rfl, HP.out, HM.out, fun j hj => by omega⟩
      case round =>
        clear HP HM hc
        obtain ⟨y, Ls, hy, rfl, hP, hmk, hmy⟩ := hrel
        by_cases hyl : y < len k
        · have i2 : (y : Int) < len k := by omega
          have hc := hP.p.cells k hlt
          rw [ev, eg (by omega)] at hc
          have hrow := hP.p.rows k hlt
          have hll := hP.p.lens k hlt
          rw [ev, eg (by omega)] at hrow
          have hcell := row_cell hrow y (by omega)
          have hfz := row_fz hrow y
          have hst := hP.store k y (g k) (cv k) hlt hyl (by rw [ev, eg (by omega)]) (mrk k)
          have hmn := mk_nat k (by omega)
          rw [hmn] at hst
          have hnew1 : ∀ a, a < k → ∀ j, j < len a → (updF Ls k ((Ls k).set y (mrk k)) a)[j]? = some (mrk a) := fun a ha j hj => by
            rw [updF_ne _ _ _ _ (by omega)]; exact hmk a ha j hj
          have hnew2 : ∀ j, j < y + 1 → (updF Ls k ((Ls k).set y (mrk k)) k)[j]? = some (mrk k) := fun j hj => by
            rw [updF_self, List.getElem?_set]
            by_cases e : y = j
            · rw [if_pos e, if_pos (by omega)]
            · rw [if_neg e]; exact hmy j (by omega)
          have e8 : IntKind.u8.wrap ((k : Int) + 1) = (k : Int) + 1 := by rw [u8_wrap]; omega
          generalize (Ls k)[y].toNat = old at *
          have HS : Hid _ := hst
          have HN1 : Hid _ := hnew1
          have HN2 : Hid _ := hnew2
          clear hst hnew1 hnew2 hmk hmy hP hrow ev eg
          go_wp2
          go_roundw
          case rel =>
            first
              | exact ⟨y + 1, _, by omega, by go_num, HS.out, HN1.out, HN2.out⟩
              | ((repeat apply Exists.intro); refine ⟨⟨y + 1, _, by omega, ?_, HS.out, HN1.out, HN2.out⟩, rfl⟩; go_num)
          case measure => simp [intOf]; omega
        · obtain rfl : y = len k := by omega
          have hmk2 : ∀ a, a < k + 1 → ∀ j, j < len a → (Ls a)[j]? = some (mrk a) := fun a ha j hj => by
            by_cases e : a = k
            · subst e; exact hmy j hj
            · exact hmk a (by omega) j hj
          have HP : Hid _ := hP
          have HM : Hid _ := hmk2
          clear hP hmk hmk2 hmy
          go_wp2
          go_roundw
          case rel =>
            first
              | exact ⟨k + 1, _, by omega, by go_num, HP.out, HM.out⟩
              | ((repeat apply Exists.intro); refine ⟨⟨k + 1, _, by omega, ?_, HP.out, HM.out⟩, rfl⟩; go_num)
          case measure => simp [intOf]; omega
    · obtain rfl : k = n := by omega
      have hA0 : A3 B wr.heap.size bl k vals vals g len (fun _ => 0) W wr := by
        refine ⟨hP.p.below, hP.p.size, Nat.le_refl _, ?_, hP.p.cells, fun i hi => ?_, hP.p.sep, hP.p.ne, fun i hi j hj => ?_, fun i hi hp => ?_, fun a b ha hb hab hp => ?_⟩
        · obtain ⟨arr, ha⟩ := hP.p.ty
          exact (Array.getElem?_eq_some_iff.1 ha).1
        · have := hP.p.rows i hi
          have e : Ls i = two i (len i) 0 := by
            apply List.ext_getElem?
            intro j
            by_cases hj : j < len i
            · rw [hmk i hi j hj, two_lo i (len i) 0 j hj]; rfl
            · rw [List.getElem?_eq_none (by rw [hP.p.lens i hi]; omega), List.getElem?_eq_none (by rw [two_len]; omega)]
          rw [← e]; exact this
        · obtain ⟨ev, eg⟩ := HV.out i hi
          have hrow := hP.p.rows i hi
          have hll := hP.p.lens i hi
          rw [ev, eg (by omega)] at hrow
          rw [row_cell hrow j (by omega)]
          have := hmk i hi j hj
          rw [List.getElem?_eq_getElem (by omega)] at this
          simp at this
          rw [this]
        · obtain ⟨ev, eg⟩ := HV.out i hi
          have hrow := hP.p.rows i hi
          rw [ev, eg hp] at hrow
          exact (hrow.lt (g i) rfl).2
        · obtain ⟨ev, eg⟩ := HV.out a ha
          exact hP.p.sep a b ha hb hab (g a) (by rw [ev, eg hp]; rfl)
      have hA : A3h B H wr.heap.size bl k vals vals g len (fun _ => 0) W wr := ⟨hA0, hP.fr, hP.out, hP.fr.1⟩
      have HA : Hid _ := hA
      clear hA hA0 hP hmk
      generalize hB3 : wr.heap.size = B3 at *
      have hB3' : B3 ≤ wr.heap.size := by omega
      go_wp2
      go_loopw [5, 38] (fun vl i w3 => ∃ (a : Nat) (cur : Nat → Value) (xs : List Value), a ≤ k ∧ i = .int .i64 (a : Int) ∧ w3.ownsRow B3 35 1 vl a xs ∧ A3h B H B3 bl k vals cur g len (fun j => if j < a then 80 else 0) W w3 ∧ (∀ j, j < a → xs[j]? = some (cur j)) ∧ ∀ j, a ≤ j → cur j = vals j) (fun _ i _ => k - (intOf i).toNat)
      case atStart => exact ⟨0, vals, [], by omega, rfl, World.ownsRow_nil _ _ _ _, by simpa using HA.out, fun j hj => by omega, fun j _ => rfl⟩
      case round =>
        clear HA hB3
        obtain ⟨a, cur, xs, ha, rfl, hown, hA, hxs, hcur⟩ := hrel
        obtain ⟨pl, cl, hvl⟩ := own_val hown
        subst hvl
        by_cases hlt2 : a < k
        · have i1 : (a : Int) < k := by omega
          have hc := hA.a.cells a hlt2
          obtain ⟨ev, eg⟩ := HV.out a hlt2
          have hva : cur a = vals a := hcur a (Nat.le_refl _)
          rw [ev] at hc
          have hLk := HL.out a hlt2
          have HX : Hid _ := hxs
          have HC : Hid _ := hcur
          have HO : Hid _ := hown
          have HA : Hid _ := hA
          clear hxs hcur hown hA
          have hstart : A3h B H B3 bl k vals (updF cur a (.slice (pv a) (len a) (cv a))) g len (updF (fun j => if j < a then 80 else 0) a 0) W wr := by
            have e1 : updF cur a (.slice (pv a) (len a) (cv a)) = cur := by
              funext j; by_cases e : j = a
              · subst e; rw [updF_self, hva, ev]
              · rw [updF_ne _ _ _ _ e]
            have e2 : updF (fun j => if j < a then 80 else 0) a 0 = (fun j => if j < a then 80 else 0) := by
              funext j; by_cases e : j = a
              · subst e; rw [updF_self]; simp
              · rw [updF_ne _ _ _ _ e]
            rw [e1, e2]; exact HA.out
          have HS : Hid _ := hstart
          clear hstart
          go_wp2
          go_loopw [7, 8] (fun x j w5 => ∃ y : Nat, y ≤ 80 ∧ j = .int .i64 (y : Int) ∧ w5.ownsRow B3 35 1 (.slice pl a cl) a xs ∧ A3h B H B3 bl k vals (updF cur a x) g len (updF (fun j => if j < a then 80 else 0) a y) W w5) (fun _ j _ => 80 - (intOf j).toNat)
          case atStart => exact ⟨0, by omega, rfl, HO.out, HS.out⟩
          case round =>
            clear HO HS HA hc
            obtain ⟨y, hy, rfl, hown, hA⟩ := hrel
            have hri := hA.a.rows a hlt2
            rw [updF_self, updF_self] at hri
            have hBz : B ≤ wr.heap.size := Nat.le_trans hA.a.bb hA.a.size
            have hz3 := hA.a.size
            by_cases hy1 : y < 80
            · have i2 : (y : Int) < 80 := by omega
              obtain ⟨hs1, hb1⟩ := row1 wr (mrk2 a)
              rw [mk2_nat a (by omega)] at hs1 hb1
              have hA1 := hA.frame (K5.below hb1) (fun k hk => hb1.block k (by omega)) (hA.a.below.trans (hb1.mono hBz)) (Nat.le_trans hz3 hb1.size)
              have hown1 := own_below hown hb1
              have hri1 := hri.below hb1
              have e8 : IntKind.u8.wrap ((a : Int) + 101) = (a : Int) + 101 := by rw [u8_wrap]; omega
              have HA1 : Hid _ := hA1
              have HO1 : Hid _ := hown1
              clear hA1 hown1 hA hown
              go_wp2_with (first | (at_builtin; refine wpList_append_bytes _ rfl _ _ rfl B _ _ rfl hri1 _ [mrk2 a] rfl hs1 (by rw [two_len]; simp; omega) (Nat.le_trans hBz hb1.size) ?_))
              intro v' w' hr' hg'
              have hA2 := HA1.out.app a hlt2 (v' := v') (by rw [updF_self]; exact hg') (by rw [updF_self]; exact hr')
              rw [updF_updF, updF_updF, updF_self] at hA2
              have hown2 := own5 HO1.out ⟨B, hri1⟩ hg'
              have HA2 : Hid _ := hA2
              have HO2 : Hid _ := hown2
              clear hA2 hown2 HA1 HO1 hr' hg' hri hri1 hs1 hb1
              go_wp2
              go_roundw
              case rel =>
                first
                  | exact ⟨y + 1, by omega, by go_num, HO2.out, HA2.out⟩
                  | ((repeat apply Exists.intro); refine ⟨⟨y + 1, by omega, ?_, HO2.out, HA2.out⟩, rfl⟩; go_num)
              case measure => simp [intOf]; omega
            · obtain rfl : y = 80 := by omega
              obtain ⟨px, cx, hxe, _⟩ := hri.sl.ex
              rw [two_len] at hxe
              subst hxe
              have hal : Below wr.heap.size wr (wr.alloc (.cells #[.slice px (len a + 80) cx] 35)) := (Below.refl _ _).alloc (Nat.le_refl _) _
              have hcell : (wr.alloc (.cells #[.slice px (len a + 80) cx] 35)).cell? ⟨wr.heap.size, 0, none⟩ = some (.slice px (len a + 80) cx) := cell_of_any _ _ 0 _ _ _ (heap_alloc_new wr _)
              have hCs : Cs (wr.alloc (.cells #[.slice px (len a + 80) cx] 35)) (.slice (some ⟨wr.heap.size, 0, none⟩) 1 1) 1 1 [.slice px (len a + 80) cx] := .inr ⟨_, 1, rfl, rfl, fun j v hj => by
                have hj0 : j = 0 := by have := (List.getElem?_eq_some_iff.1 hj).1; simp at this; omega
                subst hj0; simp at hj; rw [← hj, Addr.add_lit]; exact hcell, fun v hv => by simp at hv; rw [hv]; rfl⟩
              have hA1 := hA.frame (K5.below hal) (fun k hk => hal.block k (by omega)) (hA.a.below.trans (hal.mono hBz)) (Nat.le_trans hz3 hal.size)
              have hown1 := own_below hown hal
              have hz4 := Nat.le_trans hz3 hal.size
              have hxl : xs.length = a := by have := hown.1; simpa using this
              have HA1 : Hid _ := hA1
              clear hA1 hA hown
              go_wp2_with (first | (at_builtin; refine wpList_append_row _ rfl _ _ 99 35 (.slice none 0 0) 1 24 Try.underlying99 infoB rfl (by decide) rfl B3 _ a xs rfl hown1 _ 1 [.slice px (len a + 80) cx] rfl hCs (by unfold room; omega) (by unfold maxLen; omega) hz4 ?_))
              intro v' w' hr1 hr2
              have hA2 := HA1.out.frame (K5.grown hown1 hr2) (fun k hk => hr2.block k (by omega) (fun e => by have := (hown1.lt k e.symm).1; omega)) (grown_below HA1.out.a.below hr2 (fun x hx => Nat.le_trans HA1.out.a.bb (hown1.lt x hx).1) (Nat.le_trans HA1.out.a.bb hz4)) (Nat.le_trans hz4 hr2.size)
              have ecl : updF (fun j => if j < a then 80 else 0) a 80 = (fun j => if j < a + 1 then 80 else 0) := by
                funext j
                by_cases e : j = a
                · subst e; rw [updF_self]; simp
                · rw [updF_ne _ _ _ _ e]
                  by_cases e2 : j < a
                  · have : j < a + 1 := by omega
                    simp [e2, this]
                  · have : ¬ j < a + 1 := by omega
                    simp [e2, this]
              rw [ecl] at hA2
              have hxs2 : ∀ j, j < a + 1 → (xs ++ [.slice px (len a + 80) cx])[j]? = some (updF cur a (.slice px (len a + 80) cx) j) := fun j hj => by
                by_cases e : j = a
                · subst e; rw [updF_self, List.getElem?_append_right (by omega)]; simp [hxl]
                · rw [updF_ne _ _ _ _ e, List.getElem?_append_left (by omega)]; exact HX.out j (by omega)
              have hcur2 : ∀ j, a + 1 ≤ j → updF cur a (.slice px (len a + 80) cx) j = vals j := fun j hj => by
                rw [updF_ne _ _ _ _ (by omega)]; exact HC.out j (by omega)
              have HA2 : Hid _ := hA2
              have HO2 : Hid _ := hr1
              have HX2 : Hid _ := hxs2
              have HC2 : Hid _ := hcur2
              clear hA2 hr1 hxs2 hcur2 HX HC hr2 HA1 hown1 hri hcell hal
              go_wp2
              go_roundw
              case rel =>
                first
                  | exact ⟨a + 1, _, _, by omega, by go_num, HO2.out, HA2.out, HX2.out, HC2.out⟩
                  | ((repeat apply Exists.intro); refine ⟨⟨a + 1, _, _, by omega, ?_, HO2.out, HA2.out, HX2.out, HC2.out⟩, rfl⟩; go_num)
              case measure => simp [intOf]; omega
        · obtain rfl : a = k := by omega
          have HX : Hid _ := hxs
          have HO : Hid _ := hown
          have HA : Hid _ := hA
          clear hxs hown hA hcur
          go_wp2
          go_loopw [62] (fun i w3 => ∃ b : Nat, b ≤ a ∧ i = .int .i64 (b : Int) ∧ w3 = wr) (fun i _ => a - (intOf i).toNat)
          case atStart => exact ⟨0, by omega, rfl, rfl⟩
          case round =>
            obtain ⟨b, hb, rfl, rfl⟩ := hrel
            by_cases hlt3 : b < a
            · have i1 : (b : Int) < a := by omega
              obtain ⟨gl, cl', hle⟩ := own_pos HO.out (by omega)
              simp only [Value.slice.injEq] at hle
              obtain ⟨rfl, _, rfl⟩ := hle
              have hcl : wr.cell? ⟨gl, b, none⟩ = some (cur b) := by
                have := World.ownsRow.cells HO.out (g := gl) rfl b _ (HX.out b hlt3)
                rw [Addr.add_lit] at this
                simpa using this
              have hri := HA.out.a.rows b hlt3
              simp only [if_pos hlt3] at hri
              obtain ⟨gx, cx, hxe⟩ := own_pos hri (by rw [two_len]; omega)
              rw [two_len] at hxe
              rw [hxe] at hri hcl
              have hc := HA.out.a.cells b hlt3
              obtain ⟨ev, eg⟩ := HV.out b hlt3
              rw [ev] at hc
              have hLk := HL.out b hlt3
              unfold room at hLk
              have hmn := mk_nat b (by omega)
              have hmn2 := mk2_nat b (by omega)
              have hcy : ∀ y, y < len b → wr.cell? ⟨gx, y, none⟩ = some (.int .u8 ((b : Int) + 1)) := fun y hy => by
                rw [row_cell hri y (by rw [two_len]; omega), ← hmn]
                have := two_lo b (len b) 80 y hy
                rw [List.getElem?_eq_getElem (by rw [two_len]; omega)] at this
                simp only [Option.some.injEq] at this
                rw [this]; rfl
              have hcz : ∀ y, len b ≤ y → y < len b + 80 → wr.cell? ⟨gx, y, none⟩ = some (.int .u8 ((b : Int) + 101)) := fun y hy hy2 => by
                rw [row_cell hri y (by rw [two_len]; omega), ← hmn2]
                have := two_hi b (len b) 80 y hy hy2
                rw [List.getElem?_eq_getElem (by rw [two_len]; omega)] at this
                simp only [Option.some.injEq] at this
                rw [this]
              have hoy : ∀ y, y < len b → wr.cell? ⟨g b, y, none⟩ = some (.int .u8 ((b : Int) + 1)) := fun y hy => by
                rw [HA.out.a.orig b hlt3 y hy, hmn]
              have HCY : Hid _ := hcy
              have HCZ : Hid _ := hcz
              have HOY : Hid _ := hoy
              clear hcy hcz hoy hri ev hmn hmn2
              have e8 : IntKind.u8.wrap ((b : Int) + 1) = (b : Int) + 1 := by rw [u8_wrap]; omega
              have e9 : IntKind.u8.wrap ((b : Int) + 101) = (b : Int) + 101 := by rw [u8_wrap]; omega
              go_wp2
              go_loopw [70] (fun j w5 => ∃ y : Nat, y ≤ len b + 80 ∧ j = .int .i64 (y : Int) ∧ w5 = wr) (fun j _ => len b + 80 - (intOf j).toNat)
              case atStart => exact ⟨0, by omega, rfl, rfl⟩
              case round =>
                obtain ⟨y, hy, rfl, rfl⟩ := hrel
                by_cases hyl : y < len b + 80
                · have i2 : (y : Int) < len b + 80 := by omega
                  by_cases hyo : y < len b
                  · have i3 : (y : Int) < len b := by omega
                    have hoy := HOY.out y hyo
                    have hcy := HCY.out y hyo
                    have hpe := eg (by omega)
                    rw [hpe] at hc
                    clear eg
                    go_wp2
                    go_roundw
                    case rel => exact ⟨y + 1, by omega, by go_num, by trivial⟩
                    case measure => simp [intOf]; omega
                  · have i3 : decide ((y : Int) < (len b : Int)) = false := by simp; omega
                    have i4 : (len b : Int) ≤ (y : Int) := by omega
                    have hcy := HCZ.out y (by omega) hyl
                    clear eg
                    go_wp2
                    go_roundw
                    case rel => exact ⟨y + 1, by omega, by go_num, by trivial⟩
                    case measure => simp [intOf]; omega
                · obtain rfl : y = len b + 80 := by omega
                  have i2 : ¬ ((len b + 80 : Nat) : Int) < (len b : Int) + 80 := by omega
                  go_wp2
                  go_roundw
                  case rel => exact ⟨b + 1, by omega, by go_num, by trivial⟩
                  case measure => simp [intOf]; omega
            · obtain rfl : b = a := by omega
              go_wp2
              go_ret
              exact ⟨rfl, HA.out.a.below, HA.out.fr⟩
end Go.Proofs.Ytcmaccefjlgbfaa
