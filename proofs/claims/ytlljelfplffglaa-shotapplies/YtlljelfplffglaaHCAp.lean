import Derived.Test.YtlljelfplffglaaHCApK
/-! The statement's own test that lists share no room: the walk. -/
namespace Go.Proofs.Ytlljelfplffglaa.HC
open Go.RowKit
open Go.Proofs
open Go.Proofs.Ytlljelfplffglaa
open Go.Proofs.Ytlljelfplffglaa.H (eC hC infoS hid zC)
open Go.Proofs.Ytlljelfplffglaa.S (Grew Cs own_pos)
set_option linter.unusedVariables false
set_option linter.unusedSimpArgs false
set_option maxHeartbeats 4000000 in
set_option maxRecDepth 100000 in
theorem apart_any (B bl n cn : Nat) (hn : n ≤ 100) (vals : Nat → Value) (len : Nat → Nat) (Ls : Nat → List H.Ch) (W : World) (h : P1 B bl n vals len W W Ls) (hlen : ∀ i, i < n → len i ≤ 65536) :
    Calls Try.prog 16 #[.slice (some ⟨bl, 0, none⟩) n cn] W fun r w' => r = .returned (.bool true) ∧ Below B W w' := by
  have hv : ∀ i, i < n → ∃ p c g, vals i = .slice p (len i) c ∧ (0 < len i → p = some ⟨g, 0, none⟩) := fun i hi => by
    have hr := h.rows i hi
    have hl := h.lens i hi
    rcases hr.2 with ⟨e, e0⟩ | ⟨g, cap, cur, e, _⟩
    · exact ⟨none, 0, 0, by rw [e]; congr 1; omega, fun hp => by omega⟩
    · exact ⟨_, cap, g, by rw [e, hl], fun _ => rfl⟩
  obtain ⟨pv, hpv⟩ := Deep.choose_lt hv
  obtain ⟨cv, hcv⟩ := Deep.choose_lt hpv
  obtain ⟨g, hg⟩ := Deep.choose_lt hcv
  clear hv hpv hcv
  have HV := hid hg
  have H0 := hid h
  have HL := hid hlen
  clear hg h hlen
  go_enter Try.func16, Try.ntmps16
  go_wp2
  go_loopw [3] (fun i wr => ∃ (k : Nat) (Ls : Nat → List H.Ch), k ≤ n ∧ i = .int .i64 (k : Int) ∧ P1 B bl n vals len W wr Ls ∧ ∀ a, a < k → ∀ j, j < len a → (Ls a)[j]? = some (mkt a)) (fun i _ => n - (intOf i).toNat)
  case atStart => exact ⟨0, Ls, by omega, rfl, H0.out, fun a ha => by omega⟩
  case round =>
    clear H0
    obtain ⟨k, Ls, hk, rfl, hP, hmk⟩ := hrel
    by_cases hlt : k < n
    · have i1 : (k : Int) < n := by omega
      have hc := hP.cells k hlt
      obtain ⟨ev, eg⟩ := HV.out k hlt
      have hLk := HL.out k hlt
      skip
      rw [ev] at hc
      have HP := hid hP
      have HM := hid hmk
      clear hP hmk
      go_wp2
      go_loopw [4] (fun j w3 => ∃ (y : Nat) (Ls : Nat → List H.Ch), y ≤ len k ∧ j = .int .i64 (y : Int) ∧ P1 B bl n vals len W w3 Ls ∧ (∀ a, a < k → ∀ j, j < len a → (Ls a)[j]? = some (mkt a)) ∧ ∀ j, j < y → (Ls k)[j]? = some (mkt k)) (fun j _ => len k - (intOf j).toNat)
      case atStart => exact ⟨0, Ls, by omega, rfl, HP.out, HM.out, fun j hj => by omega⟩
      case round =>
        clear HP HM hc
        obtain ⟨y, Ls, hy, rfl, hP, hmk, hmy⟩ := hrel
        by_cases hyl : y < len k
        · have i2 : (y : Int) < len k := by omega
          have hc := hP.cells k hlt
          rw [ev, eg (by omega)] at hc
          have hrow := hP.rows k hlt
          have hll := hP.lens k hlt
          rw [ev, eg (by omega)] at hrow
          obtain ⟨o0, d0⟩ := row_old hrow y (by omega) 0 (by omega)
          obtain ⟨o1, d1⟩ := row_old hrow y (by omega) 1 (by omega)
          obtain ⟨o2, d2⟩ := row_old hrow y (by omega) 2 (by omega)
          obtain ⟨o3, d3⟩ := row_old hrow y (by omega) 3 (by omega)
          simp only [Nat.add_zero] at d0
          have f0 := row_fz hrow (y * 4)
          have f1 := row_fz hrow (y * 4 + 1)
          have f2 := row_fz hrow (y * 4 + 2)
          have f3 := row_fz hrow (y * 4 + 3)
          have hst := hP.store k y (g k) (cv k) hlt hyl (by rw [ev, eg (by omega)]) (mkt k)
          have hnew1 : ∀ a, a < k → ∀ j, j < len a → (updF Ls k ((Ls k).set y (mkt k)) a)[j]? = some (mkt a) := fun a ha j hj => by
            rw [updF_ne _ _ _ _ (by omega)]; exact hmk a ha j hj
          have hnew2 : ∀ j, j < y + 1 → (updF Ls k ((Ls k).set y (mkt k)) k)[j]? = some (mkt k) := fun j hj => by
            rw [updF_self, List.getElem?_set]
            by_cases e : y = j
            · rw [if_pos e, if_pos (by omega)]
            · rw [if_neg e]; exact hmy j (by omega)
          simp only [st4, mkt] at hst
          have HS := hid hst
          have HN1 := hid hnew1
          have HN2 := hid hnew2
          clear hst hnew1 hnew2 hmk hmy hP hrow ev eg
          go_wp2
          go_roundw
          case rel =>
            first
              | exact ⟨y + 1, _, by omega, by go_num, HS.out, HN1.out, HN2.out⟩
              | ((repeat apply Exists.intro); refine ⟨⟨y + 1, _, by omega, ?_, HS.out, HN1.out, HN2.out⟩, rfl⟩; go_num)
          case measure => simp [intOf]; omega
        · obtain rfl : y = len k := by omega
          have hc := hP.cells k hlt
          rw [ev] at hc
          have hmk2 : ∀ a, a < k + 1 → ∀ j, j < len a → (Ls a)[j]? = some (mkt a) := fun a ha j hj => by
            by_cases e : a = k
            · subst e; exact hmy j hj
            · exact hmk a (by omega) j hj
          have HP := hid hP
          have HM := hid hmk2
          clear hP hmk hmk2 hmy
          go_wp2
          go_roundw
          case rel =>
            first
              | exact ⟨k + 1, _, by omega, by go_num, HP.out, HM.out⟩
              | ((repeat apply Exists.intro); refine ⟨⟨k + 1, _, by omega, ?_, HP.out, HM.out⟩, rfl⟩; go_num)
          case measure => simp [intOf]; omega
    · obtain rfl : k = n := by omega
      have hA : A3 B wr.heap.size bl k vals vals g len (fun _ => 0) W wr := by
        refine ⟨hP.below, hP.size, Nat.le_refl _, ?_, hP.cells, fun i hi => ?_, hP.sep, hP.ne, fun i hi j hj => ?_, fun i hi hp => ?_, fun a b ha hb hab hp => ?_⟩
        · obtain ⟨arr, ha⟩ := hP.ty
          exact (Array.getElem?_eq_some_iff.1 ha).1
        · have := hP.rows i hi
          have e : Ls i = two i (len i) 0 := by
            apply List.ext_getElem?
            intro j
            by_cases hj : j < len i
            · rw [hmk i hi j hj, two_any i (len i) 0 j (by omega)]
            · rw [List.getElem?_eq_none (by rw [hP.lens i hi]; omega), List.getElem?_eq_none (by rw [two_len]; omega)]
          rw [← e]; exact this
        · obtain ⟨ev, eg⟩ := HV.out i hi
          have hrow := hP.rows i hi
          have hll := hP.lens i hi
          rw [ev, eg (by omega)] at hrow
          exact row_kind hrow j (mkt i) (hmk i hi j hj)
        · obtain ⟨ev, eg⟩ := HV.out i hi
          have hrow := hP.rows i hi
          rw [ev, eg hp] at hrow
          exact (hrow.lt (g i) rfl).2
        · obtain ⟨ev, eg⟩ := HV.out a ha
          exact hP.sep a b ha hb hab (g a) (by rw [ev, eg hp]; rfl)
      have HA := hid hA
      clear hA hP hmk
      generalize hB3 : wr.heap.size = B3 at *
      have hB3' : B3 ≤ wr.heap.size := by omega
      go_wp2
      go_loopw [5, 6] (fun vl i w3 => ∃ (a : Nat) (cur : Nat → Value) (xs : List Value), a ≤ k ∧ i = .int .i64 (a : Int) ∧ w3.ownsRow B3 24 1 vl a xs ∧ A3 B B3 bl k vals cur g len (fun j => if j < a then 80 else 0) W w3 ∧ (∀ j, j < a → xs[j]? = some (cur j)) ∧ ∀ j, a ≤ j → cur j = vals j) (fun _ i _ => k - (intOf i).toNat)
      case atStart => exact ⟨0, vals, [], by omega, rfl, World.ownsRow_nil _ _ _ _, by simpa using HA.out, fun j hj => by omega, fun j _ => rfl⟩
      case round =>
        clear HA hB3
        obtain ⟨a, cur, xs, ha, rfl, hown, hA, hxs, hcur⟩ := hrel
        obtain ⟨pl, cl, hvl⟩ := own_val hown
        subst hvl
        by_cases hlt2 : a < k
        · have i1 : (a : Int) < k := by omega
          have hc := hA.cells a hlt2
          obtain ⟨ev, eg⟩ := HV.out a hlt2
          have hva : cur a = vals a := hcur a (Nat.le_refl _)
          rw [ev] at hc
          have hLk := HL.out a hlt2
          have HX := hid hxs
          have HC := hid hcur
          have HO := hid hown
          have HA := hid hA
          clear hxs hcur hown hA
          have hstart : A3 B B3 bl k vals (updF cur a (.slice (pv a) (len a) (cv a))) g len (updF (fun j => if j < a then 80 else 0) a 0) W wr := by
            have e1 : updF cur a (.slice (pv a) (len a) (cv a)) = cur := by
              funext j; by_cases e : j = a
              · subst e; rw [updF_self, hva, ev]
              · rw [updF_ne _ _ _ _ e]
            have e2 : updF (fun j => if j < a then 80 else 0) a 0 = (fun j => if j < a then 80 else 0) := by
              funext j; by_cases e : j = a
              · subst e; rw [updF_self]; simp
              · rw [updF_ne _ _ _ _ e]
            rw [e1, e2]; exact HA.out
          have HS := hid hstart
          clear hstart
          go_wp2
          go_loopw [7, 8] (fun x j w5 => ∃ y : Nat, y ≤ 80 ∧ j = .int .i64 (y : Int) ∧ w5.ownsRow B3 24 1 (.slice pl a cl) a xs ∧ A3 B B3 bl k vals (updF cur a x) g len (updF (fun j => if j < a then 80 else 0) a y) W w5) (fun _ j _ => 80 - (intOf j).toNat)
          case atStart => exact ⟨0, by omega, rfl, HO.out, HS.out⟩
          case round =>
            clear HO HS HA hc
            obtain ⟨y, hy, rfl, hown, hA⟩ := hrel
            have hri := hA.rows a hlt2
            rw [updF_self, updF_self] at hri
            have hBz : B ≤ wr.heap.size := Nat.le_trans hA.bb hA.size
            have hz3 := hA.size
            by_cases hy1 : y < 80
            · have i2 : (y : Int) < 80 := by omega
              have hb1 : Below wr.heap.size wr (wr.alloc (.cells #[.int .i64 (-1000 - (a : Int)), .int .i64 0, .int .u8 0, .int .u8 0] 32)) := (Below.refl _ _).alloc (Nat.le_refl _) _
              have hs1 : Cs (wr.alloc (.cells #[.int .i64 (-1000 - (a : Int)), .int .i64 0, .int .u8 0, .int .u8 0] 32)) (.slice (some ⟨wr.heap.size, 0, none⟩) 1 1) 4 1 (eC (mkt a)) := .inr ⟨_, _, rfl, rfl, fun j u hj => by rw [Addr.add_lit, Nat.zero_add]; exact S.cell_of _ _ j (eC (mkt a)) 32 u (heap_alloc_new wr _) hj, by intro v hv; simp [eC, mkt] at hv; rcases hv with rfl | rfl | rfl | rfl <;> rfl⟩
              have hA1 := hA.frame (K5.below hb1) (fun k hk => hb1.block k (by omega)) (hA.below.trans (hb1.mono hBz)) (Nat.le_trans hz3 hb1.size)
              have hown1 := own_below hown hb1
              have hri1 := hri.below hb1
              have hri2 := hri1
              unfold Row at hri2
              rw [two_len] at hri2
              have HA1 := hid hA1
              have HO1 := hid hown1
              clear hA1 hown1 hA hown
              go_wp2_with (first | (refine S.wpList_append_row _ rfl _ _ 24 32 _ 4 24 Try.underlying24 infoS rfl (by decide) rfl B _ (len a + y) (S.en eC (two a (len a) y)) rfl hri2 _ 1 (eC (mkt a)) rfl hs1 (by unfold S.room; omega) (by unfold maxLen; omega) (Nat.le_trans hBz hb1.size) ?_))
              intro v' w' hr' hg'
              have hA2 := HA1.out.app a hlt2 (v' := v') (by rw [updF_self]; exact hg') (by rw [updF_self]; unfold Row; rw [List.length_append, two_len, S.en_append]; simpa [S.en] using hr')
              rw [updF_updF, updF_updF, updF_self] at hA2
              have hown2 := own5 HO1.out ⟨B, hri1⟩ hg'
              have HA2 := hid hA2
              have HO2 := hid hown2
              clear hA2 hown2 HA1 HO1 hr' hg' hri hri1 hri2 hs1 hb1
              go_wp2
              go_roundw
              case rel =>
                first
                  | exact ⟨y + 1, by omega, by go_num, HO2.out, HA2.out⟩
                  | ((repeat apply Exists.intro); refine ⟨⟨y + 1, by omega, ?_, HO2.out, HA2.out⟩, rfl⟩; go_num)
              case measure => simp [intOf]; omega
            · obtain rfl : y = 80 := by omega
              obtain ⟨px, cx, hxe⟩ := own_val hri
              rw [two_len] at hxe
              subst hxe
              have hal : Below wr.heap.size wr (wr.alloc (.cells #[.slice px (len a + 80) cx] 24)) := (Below.refl _ _).alloc (Nat.le_refl _) _
              have hcell : (wr.alloc (.cells #[.slice px (len a + 80) cx] 24)).cell? ⟨wr.heap.size, 0, none⟩ = some (.slice px (len a + 80) cx) := cell_of_any _ _ 0 _ _ _ (heap_alloc_new wr _)
              have hCs : Cs (wr.alloc (.cells #[.slice px (len a + 80) cx] 24)) (.slice (some ⟨wr.heap.size, 0, none⟩) 1 1) 1 1 [.slice px (len a + 80) cx] := .inr ⟨_, 1, rfl, rfl, fun j v hj => by
                have hj0 : j = 0 := by have := (List.getElem?_eq_some_iff.1 hj).1; simp at this; omega
                subst hj0; simp at hj; rw [← hj, Addr.add_lit]; exact hcell, fun v hv => by simp at hv; rw [hv]; rfl⟩
              have hA1 := hA.frame (K5.below hal) (fun k hk => hal.block k (by omega)) (hA.below.trans (hal.mono hBz)) (Nat.le_trans hz3 hal.size)
              have hown1 := own_below hown hal
              have hz4 := Nat.le_trans hz3 hal.size
              have hxl : xs.length = a := by have := hown.1; simpa using this
              have HA1 := hid hA1
              clear hA1 hA hown
              go_wp2_with (first | (refine S.wpList_append_row _ rfl _ _ 39 24 (.slice none 0 0) 1 24 Try.underlying39 infoB rfl (by decide) rfl B3 _ a xs rfl hown1 _ 1 [.slice px (len a + 80) cx] rfl hCs (by unfold S.room; omega) (by unfold maxLen; omega) hz4 ?_))
              intro v' w' hr1 hr2
              have hA2 := HA1.out.frame (K5.grown hown1 hr2) (fun k hk => hr2.block k (by omega) (fun e => by have := (hown1.lt k e.symm).1; omega)) (grown_below HA1.out.below hr2 (fun x hx => Nat.le_trans HA1.out.bb (hown1.lt x hx).1) (Nat.le_trans HA1.out.bb hz4)) (Nat.le_trans hz4 hr2.size)
              have ecl : updF (fun j => if j < a then 80 else 0) a 80 = (fun j => if j < a + 1 then 80 else 0) := by
                funext j
                by_cases e : j = a
                · subst e; rw [updF_self]; simp
                · rw [updF_ne _ _ _ _ e]
                  by_cases e2 : j < a
                  · have : j < a + 1 := by omega
                    simp [e2, this]
                  · have : ¬ j < a + 1 := by omega
                    simp [e2, this]
              rw [ecl] at hA2
              have hxs2 : ∀ j, j < a + 1 → (xs ++ [.slice px (len a + 80) cx])[j]? = some (updF cur a (.slice px (len a + 80) cx) j) := fun j hj => by
                by_cases e : j = a
                · subst e; rw [updF_self, List.getElem?_append_right (by omega)]; simp [hxl]
                · rw [updF_ne _ _ _ _ e, List.getElem?_append_left (by omega)]; exact HX.out j (by omega)
              have hcur2 : ∀ j, a + 1 ≤ j → updF cur a (.slice px (len a + 80) cx) j = vals j := fun j hj => by
                rw [updF_ne _ _ _ _ (by omega)]; exact HC.out j (by omega)
              have HA2 := hid hA2
              have HO2 := hid hr1
              have HX2 := hid hxs2
              have HC2 := hid hcur2
              clear hA2 hr1 hxs2 hcur2 HX HC hr2 HA1 hown1 hri hcell hal
              go_wp2
              go_roundw
              case rel =>
                first
                  | exact ⟨a + 1, _, _, by omega, by go_num, HO2.out, HA2.out, HX2.out, HC2.out⟩
                  | ((repeat apply Exists.intro); refine ⟨⟨a + 1, _, _, by omega, ?_, HO2.out, HA2.out, HX2.out, HC2.out⟩, rfl⟩; go_num)
              case measure => simp [intOf]; omega
        · obtain rfl : a = k := by omega
          have HX := hid hxs
          have HO := hid hown
          have HA := hid hA
          clear hxs hown hA hcur
          go_wp2
          go_loopw [9] (fun i w3 => ∃ b : Nat, b ≤ a ∧ i = .int .i64 (b : Int) ∧ w3 = wr) (fun i _ => a - (intOf i).toNat)
          case atStart => exact ⟨0, by omega, rfl, rfl⟩
          case round =>
            obtain ⟨b, hb, rfl, rfl⟩ := hrel
            by_cases hlt3 : b < a
            · have i1 : (b : Int) < a := by omega
              obtain ⟨gl, cl', hle⟩ := own_pos HO.out (by omega)
              simp only [Value.slice.injEq] at hle
              obtain ⟨rfl, _, rfl⟩ := hle
              have hcl : wr.cell? ⟨gl, b, none⟩ = some (cur b) := by
                have := World.ownsRow.cells HO.out (g := gl) rfl b _ (HX.out b hlt3)
                rw [Addr.add_lit] at this
                simpa using this
              have hri := HA.out.rows b hlt3
              simp only [if_pos hlt3] at hri
              obtain ⟨gx, cx, hxe⟩ := own_pos hri (by rw [two_len]; omega)
              rw [two_len] at hxe
              rw [hxe] at hri hcl
              have hc := HA.out.cells b hlt3
              obtain ⟨ev, eg⟩ := HV.out b hlt3
              rw [ev] at hc
              have hLk := HL.out b hlt3
              skip
              have hcy : ∀ y, y < len b + 80 → wr.cell? ⟨gx, y * 4, none⟩ = some (.int .i64 (-1000 - (b : Int))) := fun y hy => row_kind hri y (mkt b) (two_any b (len b) 80 y hy)
              have hoy : ∀ y, y < len b → wr.cell? ⟨g b, y * 4, none⟩ = some (.int .i64 (-1000 - (b : Int))) := fun y hy => HA.out.orig b hlt3 y hy
              have HCY := hid hcy
              have HOY := hid hoy
              clear hcy hoy hri ev
              go_wp2
              go_loopw [10] (fun j w5 => ∃ y : Nat, y ≤ len b + 80 ∧ j = .int .i64 (y : Int) ∧ w5 = wr) (fun j _ => len b + 80 - (intOf j).toNat)
              case atStart => exact ⟨0, by omega, rfl, rfl⟩
              case round =>
                obtain ⟨y, hy, rfl, rfl⟩ := hrel
                by_cases hyl : y < len b + 80
                · have i2 : (y : Int) < len b + 80 := by omega
                  by_cases hyo : y < len b
                  · have i3 : (y : Int) < len b := by omega
                    have hoy := HOY.out y hyo
                    have hcy := HCY.out y hyl
                    have hpe := eg (by omega)
                    rw [hpe] at hc
                    clear eg
                    go_wp2
                    go_roundw
                    case rel => exact ⟨y + 1, by omega, by go_num, by trivial⟩
                    case measure => simp [intOf]; omega
                  · have i3 : decide ((y : Int) < (len b : Int)) = false := by simp; omega
                    have i4 : (len b : Int) ≤ (y : Int) := by omega
                    have hcy := HCY.out y hyl
                    clear eg
                    go_wp2
                    go_roundw
                    case rel => exact ⟨y + 1, by omega, by go_num, by trivial⟩
                    case measure => simp [intOf]; omega
                · obtain rfl : y = len b + 80 := by omega
                  have i2 : ¬ ((len b + 80 : Nat) : Int) < (len b : Int) + 80 := by omega
                  go_wp2
                  go_roundw
                  case rel => exact ⟨b + 1, by omega, by go_num, by trivial⟩
                  case measure => simp [intOf]; omega
            · obtain rfl : b = a := by omega
              go_wp2
              go_ret
              exact ⟨rfl, HA.out.below⟩
end Go.Proofs.Ytlljelfplffglaa.HC
