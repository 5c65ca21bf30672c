import Derived.Test.YtmlpijjjkpnioaaDoorCRSecs
import Derived.Deep.DeepCutAuto
/-! The reference's body. -/
namespace Go.Proofs.YtmlpijjjkpnioaaDoor.C
open Go.RowKit
open Go.Proofs
open Go.Proofs.YtmlpijjjkpnioaaDoor.K
set_option linter.unusedVariables false
set_option linter.unusedSimpArgs false
set_option maxHeartbeats 8000000
set_option maxRecDepth 100000
theorem tab_len : ∀ (l : List Sec) (n : Nat), (tabB n l).length = 10 * l.length
  | [], _ => rfl
  | s :: l, n => by simp only [tabB, List.length_cons, List.length_append, low_len, tab_len l]; omega
theorem bel_cellR {W W' : World} (b : Below W.heap.size W W') {a : Addr} {x : Value} (e : W.cell? a = some x) : W'.cell? a = some x := by rw [b.cell (World.block_lt_of_cell? W a e)]; exact e
theorem SeS.bel {W W' : World} {p : Option Addr} {ls : List Sec} (h : SeS W p ls) (b : Below W.heap.size W W') : SeS W' p ls := h.kept fun a u e => bel_cellR b e
theorem inc_b {n : Nat} (h : n < 1000) : wrap64 ((n : Int) + 1) = ((n + 1 : Nat) : Int) := by simp [wrap64]; omega
theorem msrB (n : Nat) (a b : Value) (k : Nat) (ha : a = .int .i64 ((k + 1 : Nat) : Int)) (hb : b = .int .i64 (k : Int)) (h : k < n) : n - (intOf a).toNat < n - (intOf b).toNat := by
  subst ha hb; simp only [intOf, Int.toNat_natCast]; omega
theorem at_w (a b : Nat) (h : a + b ≤ 1000000) : wrap64 ((a : Int) + (b : Int)) = ((a + b : Nat) : Int) := by simp [wrap64]; omega
theorem at_0 (n : Nat) (h : n ≤ 18) : wrap64 (10 * (n : Int)) = 10 * (n : Int) ∧ wrap64 (8 + 10 * (n : Int)) = ((8 + 10 * n : Nat) : Int) := by simp [wrap64]; omega
theorem u64_a (a : Nat) (h : a ≤ 1000000) : (a : Int) % 18446744073709551616 = (a : Int) := by omega
theorem rbody_any (entry : Nat) (he : entry < 65536) (p : Option Addr) (c : Nat) (ls : List Sec) (hn : ls.length ≤ 18) (hd : (datB ls).length ≤ 400000) (W : World) (hS : SeS W p ls) :
    Calls Tryd.prog 46 #[.int .u16 (entry : Int), .slice p ls.length c] W fun e W' => ∃ r, e = .returned r ∧ Row W' W.heap.size r (bodyB entry ls) ∧ Below W.heap.size W W' := by
  obtain ⟨PRE, hPRE⟩ : ∃ PRE, PRE = magic ++ [by8 ls.length] ++ low 2 entry := ⟨_, rfl⟩
  have hPl : PRE.length ≤ 8 := by rw [hPRE]; simp [magic, low_len]
  have hb8 : ((by8 ls.length).toNat : Int) = (ls.length : Int) := by rw [by8_nat]; omega
  have x1 : (ls.length : Int) % 256 = ls.length := by omega
  have x2 : IntKind.u8.wrap (ls.length : Int) = ls.length := by simp [IntKind.wrap, IntKind.bits, IntKind.signed]; omega
  obtain ⟨W1, hW1⟩ : ∃ W1, W1 = W.alloc (.cells #[.int .u8 87, .int .u8 73, .int .u8 83, .int .u8 80, .int .u8 1, .int .u8 (ls.length : Int)] 5) := ⟨_, rfl⟩
  have hB1 : Below W.heap.size W W1 := by rw [hW1]; exact (Below.refl _ _).alloc (Nat.le_refl _) _
  have hR1 : Row W1 W.heap.size (.slice (some ⟨W.heap.size, 0, none⟩) 6 6) (magic ++ [by8 ls.length]) := by
    rw [hW1]
    have hn := heap_alloc_new W (.cells #[.int .u8 87, .int .u8 73, .int .u8 83, .int .u8 80, .int .u8 1, .int .u8 (ls.length : Int)] 5)
    rw [← hb8] at hn ⊢
    exact ⟨rfl, .inr ⟨W.heap.size, 6, _, rfl, Nat.le_refl _, hn, Nat.le_refl _, by simp [maxLen], rfl, rfl⟩⟩
  obtain ⟨y1, y2⟩ := at_0 ls.length hn
  have l1 := low_any entry (by omega) 2 (by omega) W1
  obtain ⟨MG, hMG⟩ : ∃ MG, MG = magic ++ [by8 ls.length] := ⟨_, rfl⟩
  rw [← hMG] at hR1 hPRE
  have hMGl : MG.length ≤ 6 := by rw [hMG]; simp [magic]
  have HMG := hid hMG
  have HB1 := hid hB1
  have HR1 := hid hR1
  have HS := hid hS
  have HP := hid hPRE
  clear hB1 hR1 hS hPRE hb8 hMG
  go_enter Tryd.func46, Tryd.ntmps46
  go_upto_region 2 with fail
  try simp only [Act.put, List.getElem_toArray, List.getElem_cons_zero, List.getElem_cons_succ, List.setIfInBounds_toArray, List.set_cons_zero, List.set_cons_succ]
  rw [← hW1]
  clear hW1 x1 x2
  go_wp2_with fail
  refine l1.mono ?_
  rintro e w2 ⟨u1, rfl, hu1, hb2⟩
  have hr2 := HR1.out.below hb2
  have hB2 := HB1.out.trans (hb2.mono HB1.out.size)
  have hs2 := hu1.sl
  obtain ⟨up1, uc1, huu1, _⟩ := hu1.sl.ex
  subst huu1
  clear l1 hb2 hu1 HR1 HB1
  go_wp2_with (first | (at_builtin; refine wpList_append_bytes _ rfl _ _ rfl W.heap.size _ MG rfl hr2 _ (low 2 entry) rfl hs2 (by simp only [low_len]; unfold room; omega) hB2.size ?_))
  intro v3 w3 hr3 hg3
  rw [← HP.out] at hr3
  obtain ⟨vp, vc, hvv, _⟩ := hr3.sl.ex
  subst hvv
  have HR := hid hr3
  have HB := hid (hg3.belowAll (fun g e => (hr2.lt g e).1) hB2 (Nat.le_refl _))
  clear hr2 hB2 hs2 hg3 hr3
  go_wp2
  clear y1 y2
  go_loopw [5, 6, 7] (fun v a i wr => ∃ (k : Nat) (T : List UInt8) (AT : Nat) (vp : Option Addr) (vc : Nat), k ≤ ls.length ∧ i = .int .i64 (k : Int) ∧ a = .int .i64 (AT : Int) ∧ v = .slice vp T.length vc ∧ AT = 8 + 10 * ls.length + (datB (ls.take k)).length ∧ T = PRE ++ tabB (8 + 10 * ls.length) (ls.take k) ∧ Row wr W.heap.size (.slice vp T.length vc) T ∧ Below W.heap.size W wr) (fun _ _ i _ => ls.length - (intOf i).toNat)
  case atStart => exact ⟨0, PRE, 8 + 10 * ls.length, vp, vc, Nat.zero_le _, rfl, rfl, rfl, by simp [datB], by simp [tabB], HR.out, HB.out⟩
  case round =>
    clear HR HB
    obtain ⟨k, M, AT, vp, vc, hk, rfl, rfl, rfl, hAT, hM, hR, hB⟩ := hrel
    have hdk := datB_le ls k
    have hLl : M.length ≤ 300 := by rw [hM, List.length_append, tab_len, List.length_take]; omega
    by_cases hlt : k < ls.length
    case neg =>
      obtain rfl : k = ls.length := by omega
      have d1 : decide ((ls.length : Int) < (ls.length : Int)) = false := decide_eq_false (by omega)
      rw [List.take_length] at hM
      have HL := hid hM
      have HR := hid hR
      have HB := hid hB
      clear hM hR hB hdk hAT
      go_wp2
      go_loopw [5, 8] (fun v i wr => ∃ (k : Nat) (T : List UInt8) (vp : Option Addr) (vc : Nat), k ≤ ls.length ∧ i = .int .i64 (k : Int) ∧ v = .slice vp T.length vc ∧ T = M ++ datB (ls.take k) ∧ Row wr W.heap.size (.slice vp T.length vc) T ∧ Below W.heap.size W wr) (fun _ i _ => ls.length - (intOf i).toNat)
      case atStart => exact ⟨0, M, vp, vc, Nat.zero_le _, rfl, rfl, by simp [datB], HR.out, HB.out⟩
      case round =>
        clear HR HB
        obtain ⟨k, T, vp, vc, hk, rfl, rfl, hT, hR, hB⟩ := hrel
        have hdk := datB_le ls k
        have hTl : T.length ≤ 401000 := by rw [hT, List.length_append]; omega
        by_cases hlt : k < ls.length
        case neg =>
          obtain rfl : k = ls.length := by omega
          have d1 : decide ((ls.length : Int) < (ls.length : Int)) = false := decide_eq_false (by omega)
          rw [List.take_length] at hT
          have HF := hid (And.intro hR (And.intro hB hT))
          clear hR hB hT hdk
          go_wp2
          go_ret
          refine ⟨_, rfl, ?_, HF.out.2.1⟩
          have e : bodyB entry ls = T := by rw [HF.out.2.2, HL.out, HP.out, HMG.out]; rfl
          rw [e]
          exact HF.out.1
        have d1 : decide ((k : Int) < (ls.length : Int)) = true := decide_eq_true (by omega)
        have d1' : (k : Int) < (ls.length : Int) := by omega
        have HW1 := hid (inc_b (show k < 1000 by omega))
        have hS := HS.out.bel hB
        obtain ⟨b, ob, dv, hep, e1, e2, e3, e4, e5⟩ := hS k ls[k] (List.getElem?_eq_getElem hlt)
        have htk := datB_take ls k hlt
        have hdk1 := datB_le ls (k + 1)
        generalize ls[k] = t at *
        obtain ⟨kd, nb, dat⟩ := t
        simp only at e1 e2 e3 e4 e5 htk
        obtain ⟨dp, dc, hdv, _⟩ := e4.ex
        subst hdv hep
        rw [htk, List.length_append] at hdk1
        have hMl : T.length + dat.length ≤ 401000 := by rw [hT, List.length_append]; omega
        have HE := hid (show M ++ datB (ls.take (k + 1)) = T ++ dat by rw [htk, hT, List.append_assoc])
        have HB := hid hB
        clear hT htk hdk hdk1 hS e1 e2 hB hTl
        go_wp2_with (first | (at_builtin; refine wpList_append_bytes _ rfl _ _ rfl W.heap.size _ T rfl hR _ dat rfl e4 (by unfold room; omega) HB.out.size ?_))
        intro v4 w4 hr4 hg4
        obtain ⟨T2, hT2⟩ : ∃ T2, T2 = T ++ dat := ⟨_, rfl⟩
        rw [← hT2] at hr4
        have HT2 := hid (hT2.trans HE.out.symm)
        clear hT2 HE
        obtain ⟨vp4, vc4, hvv4, _⟩ := hr4.sl.ex
        subst hvv4
        have HF := hid (And.intro hr4 (hg4.belowAll (fun g e => (hR.lt g e).1) HB.out (Nat.le_refl _)))
        have w1' := HW1.out
        clear hr4 hg4 hR e3 e4 HW1 hMl
        go_wp2
        go_roundw
        case rel =>
          first
            | exact ⟨k + 1, T2, vp4, vc4, hlt, (by first | rfl | (rw [w1'] <;> rfl) | go_num), rfl, HT2.out, HF.out.1, HF.out.2⟩
            | ((repeat apply Exists.intro); refine ⟨⟨k + 1, T2, vp4, vc4, hlt, ?_, rfl, HT2.out, HF.out.1, HF.out.2⟩, rfl⟩; first | rfl | (rw [w1'] <;> rfl) | go_num)
        case measure => exact msrB ls.length _ _ k (by first | rfl | (rw [w1'] <;> rfl) | go_num) rfl hlt
    have d1 : decide ((k : Int) < (ls.length : Int)) = true := decide_eq_true (by omega)
    have d1' : (k : Int) < (ls.length : Int) := by omega
    have w1' := inc_b (show k < 1000 by omega)
    obtain ⟨b, ob, dv, hep, e1, e2, e3, e4, e5⟩ := HS.out k ls[k] (List.getElem?_eq_getElem hlt)
    have htk := datB_take ls k hlt
    have htt := tabB_take ls k (8 + 10 * ls.length) hlt
    have hdk1 := datB_le ls (k + 1)
    generalize ls[k] = t at *
    obtain ⟨kd, nb, dat⟩ := t
    simp only at e1 e2 e3 e4 e5 htk htt
    obtain ⟨dp, dc, hdv, _⟩ := e4.ex
    subst hdv hep
    rw [htk, List.length_append] at hdk1
    have hATl : AT + dat.length ≤ 500000 := by omega
    have ea : 8 + 10 * ls.length + (datB (ls.take (k + 1))).length = AT + dat.length := by rw [htk, List.length_append]; omega
    have em : PRE ++ tabB (8 + 10 * ls.length) (ls.take (k + 1)) = M ++ [kd, nb] ++ low 4 AT ++ low 4 dat.length := by rw [htt, hM, hAT]; simp [List.append_assoc]
    have HE := hid (And.intro ea em)
    have sA : ∀ W', Below W.heap.size W W' → (fun w' : World => w'.cell? ⟨b, ob + k * 3, none⟩ = some (.int .u8 (kd.toNat : Int)) ∧ w'.cell? ⟨b, ob + k * 3 + 1, none⟩ = some (.int .u8 (nb.toNat : Int)) ∧ w'.cell? ⟨b, ob + k * 3 + 2, none⟩ = some (.slice dp dat.length dc)) W' := fun W' j => ⟨bel_cellR j e1, bel_cellR j e2, bel_cellR j e3⟩
    have s0 := sA _ (hB.drew)
    have HSA := hid sA
    have HSE := hid e4
    have hR2 := hR.below (((Below.refl _ wr).drew).alloc (Nat.le_refl _) (.cells #[.int .u8 (kd.toNat : Int), .int .u8 (nb.toNat : Int)] 5))
    have hrow2 : Sl (wr.drew.alloc (.cells #[.int .u8 (kd.toNat : Int), .int .u8 (nb.toNat : Int)] 5)) (.slice (some ⟨wr.heap.size, 0, none⟩) 2 2) [kd, nb] := sl_const wr.drew [kd, nb] (0, 0)
    have hbA : Below wr.heap.size wr (wr.drew.alloc (.cells #[.int .u8 (kd.toNat : Int), .int .u8 (nb.toNat : Int)] 5)) := ((Below.refl _ wr).drew).alloc (Nat.le_refl _) _
    have hBA := hB.trans (hbA.mono hB.size)
    have s1 := sA _ hBA
    have HBA := hid hBA
    have HbA := hid hbA
    have z2 := u64_a AT (by omega)
    have z3 := u64_a dat.length (by omega)
    have HZ1 := hid (at_w AT dat.length (by omega))
    have HW1 := hid w1'
    clear w1'
    clear hM hAT ea em htk htt hdk hdk1 e1 e2 e3 e4 hB sA hbA hBA
    go_upto_region 7 with fail
    try simp only [Act.put, List.getElem_toArray, List.getElem_cons_zero, List.getElem_cons_succ, List.setIfInBounds_toArray, List.set_cons_zero, List.set_cons_succ]
    refine wp_region_held_drew (S := (fun w' : World => w'.cell? ⟨b, ob + k * 3, none⟩ = some (.int .u8 (kd.toNat : Int)) ∧ w'.cell? ⟨b, ob + k * 3 + 1, none⟩ = some (.int .u8 (nb.toNat : Int)) ∧ w'.cell? ⟨b, ob + k * 3 + 2, none⟩ = some (.slice dp dat.length dc))) (by kernel_rfl) s0 (fun hHeld => ?_)
    clear s0
    refine wpAnyH_take (i := 0) (v := ?_) rfl (by kernel_rfl) (by kernel_rfl) (by kernel_rfl) (fun c a w h => h) (Or.inl ⟨by rfl, ?_⟩) hHeld ?_
    rotate_left
    · (intro w hSw; (try dsimp only at hSw); go_simp; try with_reducible rfl)
    simp only [Act.put, List.getElem_toArray, List.getElem_cons_zero, List.getElem_cons_succ, List.setIfInBounds_toArray, List.set_cons_zero, List.set_cons_succ]
    refine wpAnyH_take (i := 1) (v := ?_) rfl (by kernel_rfl) (by kernel_rfl) (by kernel_rfl) (fun c a w h => h) (Or.inl ⟨by rfl, ?_⟩) hHeld ?_
    rotate_left
    · (intro w hSw; (try dsimp only at hSw); go_simp; try with_reducible rfl)
    simp only [Act.put, List.getElem_toArray, List.getElem_cons_zero, List.getElem_cons_succ, List.setIfInBounds_toArray, List.set_cons_zero, List.set_cons_succ]
    refine wpAnyH_take (i := 2) (v := ?_) rfl (by kernel_rfl) (by kernel_rfl) (by kernel_rfl) (fun c a w h => h) (Or.inl ⟨by rfl, ?_⟩) hHeld ?_
    rotate_left
    · (intro w hSw; (try dsimp only at hSw); go_simp; try with_reducible rfl)
    simp only [Act.put, List.getElem_toArray, List.getElem_cons_zero, List.getElem_cons_succ, List.setIfInBounds_toArray, List.set_cons_zero, List.set_cons_succ]
    refine wpAnyH_take (i := 3) (v := ?_) rfl (by kernel_rfl) (by kernel_rfl) (by kernel_rfl) (fun c a w h => h) (Or.inl ⟨by rfl, ?_⟩) hHeld ?_
    rotate_left
    · (intro w hSw; (try dsimp only at hSw); go_simp; try with_reducible rfl)
    simp only [Act.put, List.getElem_toArray, List.getElem_cons_zero, List.getElem_cons_succ, List.setIfInBounds_toArray, List.set_cons_zero, List.set_cons_succ]
    refine wpAnyH_take (i := 4) (v := ?_) rfl (by kernel_rfl) (by kernel_rfl) (by kernel_rfl) (fun c a w h => h) (Or.inl ⟨by rfl, ?_⟩) hHeld ?_
    rotate_left
    · (intro w hSw; (try dsimp only at hSw); go_simp; try with_reducible rfl)
    simp only [Act.put, List.getElem_toArray, List.getElem_cons_zero, List.getElem_cons_succ, List.setIfInBounds_toArray, List.set_cons_zero, List.set_cons_succ]
    refine wpAnyH_take (i := 5) (v := ?_) rfl (by kernel_rfl) (by kernel_rfl) (by kernel_rfl) (fun c a w h => h) (Or.inl ⟨by rfl, ?_⟩) hHeld ?_
    rotate_left
    · (intro w hSw; (try dsimp only at hSw); go_simp; try with_reducible rfl)
    simp only [Act.put, List.getElem_toArray, List.getElem_cons_zero, List.getElem_cons_succ, List.setIfInBounds_toArray, List.set_cons_zero, List.set_cons_succ]
    refine wpAnyH_take (i := 6) (v := ?_) rfl (by kernel_rfl) (by kernel_rfl) (by kernel_rfl) (fun c a w h => h) (Or.inl ⟨by rfl, ?_⟩) hHeld ?_
    rotate_left
    · (intro w hSw; (try dsimp only at hSw); go_simp; try with_reducible rfl)
    simp only [Act.put, List.getElem_toArray, List.getElem_cons_zero, List.getElem_cons_succ, List.setIfInBounds_toArray, List.set_cons_zero, List.set_cons_succ]
    refine wpAnyH_take (i := 7) (v := ?_) rfl (by kernel_rfl) (by kernel_rfl) (by kernel_rfl) (fun c a w h => h) (Or.inl ⟨by rfl, ?_⟩) hHeld ?_
    rotate_left
    · (intro w hSw; (try dsimp only at hSw); go_simp; try with_reducible rfl)
    simp only [Act.put, List.getElem_toArray, List.getElem_cons_zero, List.getElem_cons_succ, List.setIfInBounds_toArray, List.set_cons_zero, List.set_cons_succ]
    refine wpAnyH_take (i := 8) (v := ?_) rfl (by kernel_rfl) (by kernel_rfl) (by kernel_rfl) (fun c a w h => h) (Or.inl ⟨by rfl, ?_⟩) hHeld ?_
    rotate_left
    · (intro w hSw; (try dsimp only at hSw); go_simp; try with_reducible rfl)
    simp only [Act.put, List.getElem_toArray, List.getElem_cons_zero, List.getElem_cons_succ, List.setIfInBounds_toArray, List.set_cons_zero, List.set_cons_succ]
    refine wpAnyH_take (i := 9) (v := ?_) rfl (by kernel_rfl) (by kernel_rfl) (by kernel_rfl) (fun c a w h => h) (Or.inl ⟨by rfl, ?_⟩) hHeld ?_
    rotate_left
    · (intro w hSw; (try dsimp only at hSw); go_simp; try with_reducible rfl)
    simp only [Act.put, List.getElem_toArray, List.getElem_cons_zero, List.getElem_cons_succ, List.setIfInBounds_toArray, List.set_cons_zero, List.set_cons_succ]
    refine wpAnyH_take (i := 10) (v := ?_) rfl (by kernel_rfl) (by kernel_rfl) (by kernel_rfl) (fun c a w h => h) (Or.inl ⟨by rfl, ?_⟩) hHeld ?_
    rotate_left
    · (intro w hSw; (try dsimp only at hSw); go_simp; try with_reducible rfl)
    simp only [Act.put, List.getElem_toArray, List.getElem_cons_zero, List.getElem_cons_succ, List.setIfInBounds_toArray, List.set_cons_zero, List.set_cons_succ]
    refine wpAnyH_ready (rs := [11]) (by kernel_rfl) (by simp) ?_
    refine AllReadyH.cons rfl (fun K hK => ?_) AllReadyH.nil
    go_simp
    refine hK.out _ _ s1 (fun hHeld => ?_)
    clear hK K
    try simp only [Act.put, List.getElem_toArray, List.getElem_cons_zero, List.getElem_cons_succ, List.setIfInBounds_toArray, List.set_cons_zero, List.set_cons_succ]
    refine wpAnyH_ready (rs := [12]) (by kernel_rfl) (by simp) ?_
    refine AllReadyH.cons rfl (fun K hK => ?_) AllReadyH.nil
    rw [if_pos (by rfl)]
    refine wp_append_bytes _ _ _ rfl W.heap.size _ M rfl hR2 _ [kd, nb] rfl hrow2 (by simp only [List.length_cons, List.length_nil]; unfold room; omega) HBA.out.size (fun v4 w4 hr4 hg4 => ?_)
    have hB4 := hg4.belowAll (fun g e => (hR2.lt g e).1) HBA.out (Nat.le_refl _)
    obtain ⟨M1, hM1⟩ : ∃ M1, M1 = M ++ [kd, nb] := ⟨_, rfl⟩
    have hM1l : M1.length ≤ 310 := by rw [hM1, List.length_append]; simp only [List.length_cons, List.length_nil]; omega
    rw [← hM1] at hr4
    have HM1 := hid hM1
    clear hM1
    obtain ⟨vp4, vc4, hvv4, _⟩ := hr4.sl.ex
    subst hvv4
    have s4 := HSA.out w4 hB4
    have HR4 := hid hr4
    have HB4 := hid hB4
    clear hr4 hg4 hB4 hR2 hrow2 s1
    refine hK.out _ _ s4 (fun hHeld => ?_)
    clear hK K
    try simp only [Act.put, List.getElem_toArray, List.getElem_cons_zero, List.getElem_cons_succ, List.setIfInBounds_toArray, List.set_cons_zero, List.set_cons_succ]
    refine wpAnyH_ready (rs := [13]) (by kernel_rfl) (by simp) ?_
    refine AllReadyH.cons rfl (fun K hK => ?_) AllReadyH.nil
    go_simp
    refine hK.out _ _ s4 (fun hHeld => ?_)
    clear hK K
    refine wpAnyH_done (by kernel_rfl) ?_ _
    clear hHeld s4
    try simp only [Act.put, List.getElem_toArray, List.getElem_cons_zero, List.getElem_cons_succ, List.setIfInBounds_toArray, List.set_cons_zero, List.set_cons_succ]
    have l4 := low_any AT (by omega) 4 (by omega) w4
    go_wp2_with fail
    refine l4.mono ?_
    rintro e w5 ⟨u5, rfl, hu5, hb5⟩
    have hr5 := HR4.out.below hb5
    have hB5 := HB4.out.trans (hb5.mono HB4.out.size)
    have hs5 := hu5.sl
    obtain ⟨up5, uc5, huu5, _⟩ := hu5.sl.ex
    subst huu5
    clear l4 hb5 hu5 HR4 HB4
    go_wp2_with (first | (at_builtin; refine wpList_append_bytes _ rfl _ _ rfl W.heap.size _ M1 rfl hr5 _ (low 4 AT) rfl hs5 (by simp only [low_len]; unfold room; omega) hB5.size ?_))
    intro v6 w6 hr6 hg6
    obtain ⟨M2, hM2⟩ : ∃ M2, M2 = M1 ++ low 4 AT := ⟨_, rfl⟩
    have hM2l : M2.length ≤ 320 := by rw [hM2, List.length_append, low_len]; omega
    rw [← hM2] at hr6
    obtain ⟨vp6, vc6, hvv6, _⟩ := hr6.sl.ex
    subst hvv6
    have hB6 := hg6.belowAll (fun g e => (hr5.lt g e).1) hB5 (Nat.le_refl _)
    obtain ⟨_, _, c6⟩ := HSA.out w6 hB6
    have l7 := low_any dat.length (by omega) 4 (by omega) w6
    have HM2 := hid hM2
    have HR6 := hid hr6
    have HB6 := hid hB6
    clear hr5 hB5 hs5 hg6 hr6 hM2 hB6
    go_wp2_with fail
    refine l7.mono ?_
    rintro e w7 ⟨u7, rfl, hu7, hb7⟩
    have hr7 := HR6.out.below hb7
    have hB7 := HB6.out.trans (hb7.mono HB6.out.size)
    have hs7 := hu7.sl
    obtain ⟨up7, uc7, huu7, _⟩ := hu7.sl.ex
    subst huu7
    clear l7 hb7 hu7 HR6 HB6 c6
    go_wp2_with (first | (at_builtin; refine wpList_append_bytes _ rfl _ _ rfl W.heap.size _ M2 rfl hr7 _ (low 4 dat.length) rfl hs7 (by simp only [low_len]; unfold room; omega) hB7.size ?_))
    intro v8 w8 hr8 hg8
    obtain ⟨T8, hT8⟩ : ∃ T8, T8 = M2 ++ low 4 dat.length := ⟨_, rfl⟩
    rw [← hT8] at hr8
    have HT8 := hid (show T8 = PRE ++ tabB (8 + 10 * ls.length) (ls.take (k + 1)) by rw [HE.out.2, hT8, HM2.out, HM1.out])
    clear hT8
    obtain ⟨vp8, vc8, hvv8, _⟩ := hr8.sl.ex
    subst hvv8
    have hB8 := hg8.belowAll (fun g e => (hr7.lt g e).1) hB7 (Nat.le_refl _)
    obtain ⟨_, _, c8⟩ := HSA.out w8 hB8
    have HF := hid (And.intro hr8 hB8)
    have z1 := HZ1.out
    have w1' := HW1.out
    have hk1 : k + 1 ≤ ls.length := hlt
    clear hr7 hB7 hs7 hg8 hr8 hB8 HZ1 HW1 z2 z3 hM1l hM2l hATl hLl hPl hMGl he hn hd hk HSE
    go_upto_region 10 with fail
    try simp only [Act.put, List.getElem_toArray, List.getElem_cons_zero, List.getElem_cons_succ, List.setIfInBounds_toArray, List.set_cons_zero, List.set_cons_succ]
    go_wp2
    go_roundw
    case rel =>
      first
        | exact ⟨k + 1, T8, AT + dat.length, vp8, vc8, hk1, (by first | rfl | (rw [w1'] <;> rfl) | go_num), (by first | rfl | (rw [z1] <;> rfl)), rfl, HE.out.1.symm, HT8.out, HF.out.1, HF.out.2⟩
        | ((repeat apply Exists.intro); refine ⟨⟨k + 1, T8, AT + dat.length, vp8, vc8, hk1, ?_, ?_, rfl, HE.out.1.symm, HT8.out, HF.out.1, HF.out.2⟩, rfl⟩; (first | rfl | (rw [w1'] <;> rfl) | go_num); (first | rfl | (rw [z1] <;> rfl)))
    case measure => exact msrB ls.length _ _ k (by first | rfl | (rw [w1'] <;> rfl) | go_num) rfl hlt
end Go.Proofs.YtmlpijjjkpnioaaDoor.C
