import Derived.Test.YtlljelfplffglaaHRd
/-! The reference's Read. -/
namespace Go.Proofs.Ytlljelfplffglaa.H
open Go.RowKit
open Go.Proofs
open Go.Proofs.Ytlljelfplffglaa.K
set_option linter.unusedVariables false
set_option linter.unusedSimpArgs false
set_option maxHeartbeats 2000000
set_option maxRecDepth 100000
theorem dig_none (c : UInt8) (h : ∀ j, j < 16 → dg j ≠ c) : dig c = 0 := by
  unfold dig
  split
  · next h1 =>
    exact absurd (by
      apply UInt8.toNat_inj.1
      unfold dg
      rw [if_pos (by omega), UInt8.toNat_ofNat_of_lt' (by show _ < 256; omega)]
      omega) (h (c.toNat - 48) (by omega))
  · split
    · next h1 =>
      exact absurd (by
        apply UInt8.toNat_inj.1
        unfold dg
        rw [if_neg (by omega), UInt8.toNat_ofNat_of_lt' (by show _ < 256; omega)]
        omega) (h (c.toNat - 87) (by omega))
    · rfl
theorem digit_any (c : UInt8) (w : World) : Calls Try.prog 30 #[.int .u8 (c.toNat : Int)] w fun e w' => e = .returned (.int .i64 (dig c : Int)) ∧ w' = w := by
  go_enter Try.func30, Try.ntmps30
  go_wp2
  go_loopw [3] (fun i wr => ∃ k : Nat, k ≤ 16 ∧ i = .int .i64 (k : Int) ∧ (∀ j, j < k → dg j ≠ c) ∧ wr = w) (fun i _ => 16 - (intOf i).toNat)
  case atStart => exact ⟨0, by omega, rfl, fun j hj => by omega, rfl⟩
  case round =>
    obtain ⟨k, hk, rfl, hn, rfl⟩ := hrel
    by_cases hlt : k < 16
    · have i1 : (k : Int) < 16 := by omega
      have hd := fun W => ix_dg W .i64 k hlt
      by_cases he : dg k = c
      · have e2 : dig c = k := by rw [← he]; exact dig_dg k hlt
        have HE := hid e2
        rw [he] at hd
        clear e2 hn he
        go_wp2
        go_ret
        exact ⟨by rw [HE.out]; rfl, rfl⟩
      · have e3 : ¬ ((dg k).toNat : Int) = (c.toNat : Int) := fun h => he (UInt8.toNat_inj.1 (by omega))
        have e4 : (((dg k).toNat : Int) == (c.toNat : Int)) = false := by simpa using e3
        have HN := hid (show ∀ j, j < k + 1 → dg j ≠ c from fun j hj => by
          by_cases e : j = k
          · rw [e]; exact he
          · exact hn j (by omega))
        generalize ((dg k).toNat : Int) = z at *
        clear hn he
        go_wp2
        go_roundw
        case rel => exact ⟨k + 1, by omega, by go_num, HN.out, by trivial⟩
        case measure => simp [intOf]; omega
    · obtain rfl : k = 16 := by omega
      have HE := hid (dig_none c hn)
      clear hn
      go_wp2
      go_ret
      exact ⟨by rw [HE.out]; rfl, rfl⟩
theorem rread_any (a : ByteArray) (w : World) : Calls Try.prog 20 #[.string a] w fun e w' => (∃ u, (okA a ∧ e = .returned (.tuple #[u, .int .i64 0]) ∧ Row w' w.heap.size u (rd a.data.toList)) ∨ (¬ okA a ∧ e = .returned (.tuple #[.slice none 0 0, .int .i64 2]))) ∧ Below w.heap.size w w' := by
  by_cases hl : a.size = 6192
  case neg =>
    have i0 : ¬ (a.size : Int) = 6192 := by omega
    go_enter Try.func20, Try.ntmps20
    go_wp2
    go_ret2
    exact ⟨⟨undef, .inr ⟨fun h => hl h.1, rfl⟩⟩, Below.refl _ _⟩
  have i0 : (a.size : Int) = 6192 := by omega
  have HS := hid hl
  clear hl
  have HI := hid i0
  go_enter Try.func20, Try.ntmps20
  go_wp2
  clear i0
  go_loopw [4, 5] (fun v i wr => ∃ k : Nat, k ≤ 3072 ∧ i = .int .i64 (k : Int) ∧ Row wr w.heap.size v (rdTo a.data.toList k) ∧ Below w.heap.size w wr) (fun _ i _ => 3072 - (intOf i).toNat)
  case atStart => exact ⟨0, by omega, rfl, row_nil _ _, Below.refl _ _⟩
  case round =>
    obtain ⟨k, hk, rfl, hr, hb⟩ := hrel
    by_cases hlt : k < 3072
    · have i1 : (k : Int) < 3072 := by omega
      obtain ⟨o, ho⟩ : ∃ o : Nat, o = k / 64 * 129 + 2 * (k % 64) := ⟨_, rfl⟩
      have hsz := HS.out
      have hx0 := fun W => ix_str W .i64 a o (by omega)
      have hx1 := fun W => ix_str W .i64 a (o + 1) (by omega)
      have d0 := dig_lt (a.data.toList.getD o 0)
      have d1 := dig_lt (a.data.toList.getD (o + 1) 0)
      have hval : (rdAt a.data.toList k).toNat = 16 * dig (a.data.toList.getD o 0) + dig (a.data.toList.getD (o + 1) 0) := by
        unfold rdAt
        rw [← ho] at *
        exact UInt8.toNat_ofNat_of_lt' (by show _ < 256; omega)
      obtain ⟨R, hR⟩ : ∃ R, rdAt a.data.toList k = R := ⟨_, rfl⟩
      rw [hR] at hval
      generalize a.data.toList.getD o 0 = c0 at *
      generalize a.data.toList.getD (o + 1) 0 = c1 at *
      have y3 : (k : Int) / 64 * 129 + (k : Int) % 64 * 2 = (o : Int) := by omega
      have y4 : (o : Int) + 1 = ((o + 1 : Nat) : Int) := by omega
      have y5 : IntKind.i64.wrap ((o + 1 : Nat) : Int) = ((o + 1 : Nat) : Int) := by rw [IntKind.wrap_i64]; omega
      generalize o + 1 = o1 at *
      have HK := hid (And.intro hr hb)
      have HO := hid ho
      have HRR := hid hR
      have HV := hid hval
      clear hr hb ho hsz hR hval
      go_wp2_with fail
      refine wp_region_held_drew (S := (fun wz : World => True)) (by kernel_rfl) trivial (fun hHeld => ?_)
      have hr5 : Row wr.drew w.heap.size u4 (rdTo a.data.toList k) := HK.out.1
      have hb5 : Below w.heap.size w wr.drew := ⟨HK.out.2.os, HK.out.2.tape, HK.out.2.output, HK.out.2.size, HK.out.2.block⟩
      generalize wr.drew = y0 at *
      have hh0 := digit_any c0 y0
      have hh1 := digit_any c1 y0
      generalize hq0 : dig c0 = q0 at *
      generalize hq1 : dig c1 = q1 at *
      have hv := HV.out
      have hq2 : IntKind.u8.wrap (16 * (q0 : Int) + (q1 : Int)) = (R.toNat : Int) := by rw [hv]; simp [IntKind.wrap, IntKind.bits, IntKind.signed]; omega
      have z1 : IntKind.i64.wrap (16 * (q0 : Int)) = 16 * (q0 : Int) := by rw [IntKind.wrap_i64]; omega
      have z2 : IntKind.i64.wrap (16 * (q0 : Int) + (q1 : Int)) = 16 * (q0 : Int) + (q1 : Int) := by rw [IntKind.wrap_i64]; omega
      clear hq0 hq1 HV hv
      refine wpAnyH_take (i := 0) (v := ?_) rfl (by kernel_rfl) (by kernel_rfl) (by kernel_rfl) (fun c a w h => h) (Or.inl ⟨by rfl, ?_⟩) hHeld ?_
      rotate_left
      · (intro w hSw; (try dsimp only at hSw); go_simp; try with_reducible rfl)
      simp only [Act.put, List.getElem_toArray, List.getElem_cons_zero, List.getElem_cons_succ, List.setIfInBounds_toArray, List.set_cons_zero, List.set_cons_succ]
      refine wpAnyH_take (i := 1) (v := ?_) rfl (by kernel_rfl) (by kernel_rfl) (by kernel_rfl) (fun c a w h => h) (Or.inl ⟨by rfl, ?_⟩) hHeld ?_
      rotate_left
      · (intro w hSw; (try dsimp only at hSw); go_simp; try with_reducible rfl)
      simp only [Act.put, List.getElem_toArray, List.getElem_cons_zero, List.getElem_cons_succ, List.setIfInBounds_toArray, List.set_cons_zero, List.set_cons_succ]
      refine wpAnyH_take (i := 2) (v := ?_) rfl (by kernel_rfl) (by kernel_rfl) (by kernel_rfl) (fun c a w h => h) (Or.inl ⟨by rfl, ?_⟩) hHeld ?_
      rotate_left
      · (intro w hSw; (try dsimp only at hSw); go_simp; try with_reducible rfl)
      simp only [Act.put, List.getElem_toArray, List.getElem_cons_zero, List.getElem_cons_succ, List.setIfInBounds_toArray, List.set_cons_zero, List.set_cons_succ]
      refine wpAnyH_take (i := 3) (v := ?_) rfl (by kernel_rfl) (by kernel_rfl) (by kernel_rfl) (fun c a w h => h) (Or.inl ⟨by rfl, ?_⟩) hHeld ?_
      rotate_left
      · (intro w hSw; (try dsimp only at hSw); go_simp; try with_reducible rfl)
      simp only [Act.put, List.getElem_toArray, List.getElem_cons_zero, List.getElem_cons_succ, List.setIfInBounds_toArray, List.set_cons_zero, List.set_cons_succ]
      refine wpAnyH_take (i := 6) (v := ?_) rfl (by kernel_rfl) (by kernel_rfl) (by kernel_rfl) (fun c a w h => h) (Or.inl ⟨by rfl, ?_⟩) hHeld ?_
      rotate_left
      · (intro w hSw; (try dsimp only at hSw); go_simp; try with_reducible rfl)
      simp only [Act.put, List.getElem_toArray, List.getElem_cons_zero, List.getElem_cons_succ, List.setIfInBounds_toArray, List.set_cons_zero, List.set_cons_succ]
      refine wpAnyH_take (i := 7) (v := ?_) rfl (by kernel_rfl) (by kernel_rfl) (by kernel_rfl) (fun c a w h => h) (Or.inl ⟨by rfl, ?_⟩) hHeld ?_
      rotate_left
      · (intro w hSw; (try dsimp only at hSw); go_simp; try with_reducible rfl)
      simp only [Act.put, List.getElem_toArray, List.getElem_cons_zero, List.getElem_cons_succ, List.setIfInBounds_toArray, List.set_cons_zero, List.set_cons_succ]
      refine wpAnyH_take (i := 8) (v := ?_) rfl (by kernel_rfl) (by kernel_rfl) (by kernel_rfl) (fun c a w h => h) (Or.inl ⟨by rfl, ?_⟩) hHeld ?_
      rotate_left
      · (intro w hSw; (try dsimp only at hSw); go_simp; try with_reducible rfl)
      simp only [Act.put, List.getElem_toArray, List.getElem_cons_zero, List.getElem_cons_succ, List.setIfInBounds_toArray, List.set_cons_zero, List.set_cons_succ]
      refine wpAnyH_take (i := 9) (v := ?_) rfl (by kernel_rfl) (by kernel_rfl) (by kernel_rfl) (fun c a w h => h) (Or.inl ⟨by rfl, ?_⟩) hHeld ?_
      rotate_left
      · (intro w hSw; (try dsimp only at hSw); go_simp; try with_reducible rfl)
      simp only [Act.put, List.getElem_toArray, List.getElem_cons_zero, List.getElem_cons_succ, List.setIfInBounds_toArray, List.set_cons_zero, List.set_cons_succ]
      refine wpAnyH_ready (rs := [4]) (by kernel_rfl) (by simp) ?_
      refine AllReadyH.cons rfl (fun K hK => ?_) AllReadyH.nil
      rw [if_pos (by rfl)]
      go_simp
      refine (hh0).mono ?_
      rintro e wq ⟨rfl, hwq⟩
      obtain rfl := hwq.symm
      refine hK.out _ _ trivial (fun hHeld => ?_)
      clear hK K
      try simp only [Act.put, List.getElem_toArray, List.getElem_cons_zero, List.getElem_cons_succ, List.setIfInBounds_toArray, List.set_cons_zero, List.set_cons_succ]
      refine wpAnyH_take (i := 5) (v := ?_) rfl (by kernel_rfl) (by kernel_rfl) (by kernel_rfl) (fun c a w h => h) (Or.inl ⟨by rfl, ?_⟩) hHeld ?_
      rotate_left
      · (intro w hSw; (try dsimp only at hSw); go_simp; try with_reducible rfl)
      simp only [Act.put, List.getElem_toArray, List.getElem_cons_zero, List.getElem_cons_succ, List.setIfInBounds_toArray, List.set_cons_zero, List.set_cons_succ]
      refine wpAnyH_ready (rs := [10]) (by kernel_rfl) (by simp) ?_
      refine AllReadyH.cons rfl (fun K hK => ?_) AllReadyH.nil
      rw [if_pos (by rfl)]
      go_simp
      refine (hh1).mono ?_
      rintro e wq ⟨rfl, hwq⟩
      obtain rfl := hwq.symm
      refine hK.out _ _ trivial (fun hHeld => ?_)
      clear hK K
      try simp only [Act.put, List.getElem_toArray, List.getElem_cons_zero, List.getElem_cons_succ, List.setIfInBounds_toArray, List.set_cons_zero, List.set_cons_succ]
      refine wpAnyH_take (i := 11) (v := ?_) rfl (by kernel_rfl) (by kernel_rfl) (by kernel_rfl) (fun c a w h => h) (Or.inl ⟨by rfl, ?_⟩) hHeld ?_
      rotate_left
      · (intro w hSw; (try dsimp only at hSw); go_simp; try with_reducible rfl)
      simp only [Act.put, List.getElem_toArray, List.getElem_cons_zero, List.getElem_cons_succ, List.setIfInBounds_toArray, List.set_cons_zero, List.set_cons_succ]
      refine wpAnyH_take (i := 12) (v := ?_) rfl (by kernel_rfl) (by kernel_rfl) (by kernel_rfl) (fun c a w h => h) (Or.inl ⟨by rfl, ?_⟩) hHeld ?_
      rotate_left
      · (intro w hSw; (try dsimp only at hSw); go_simp; try with_reducible rfl)
      simp only [Act.put, List.getElem_toArray, List.getElem_cons_zero, List.getElem_cons_succ, List.setIfInBounds_toArray, List.set_cons_zero, List.set_cons_succ]
      have hr6 : Row (y0.alloc (.cells (bv [R]).toArray 5)) w.heap.size u4 (rdTo a.data.toList k) := hr5.below ((Below.refl _ _).alloc (Nat.le_refl _) _)
      have hb6 : Below w.heap.size w (y0.alloc (.cells (bv [R]).toArray 5)) := hb5.alloc hb5.size _
      have hs6 := (row_of_alloc y0 w.heap.size hb5.size [R] (by simp [maxLen])).sl
      refine wpAnyH_ready (rs := [13]) (by kernel_rfl) (by simp) ?_
      refine AllReadyH.cons rfl (fun K hK => ?_) AllReadyH.nil
      go_simp
      refine hK.out _ _ trivial (fun hHeld => ?_)
      clear hK K
      try simp only [Act.put, List.getElem_toArray, List.getElem_cons_zero, List.getElem_cons_succ, List.setIfInBounds_toArray, List.set_cons_zero, List.set_cons_succ]
      refine wpAnyH_ready (rs := [14]) (by kernel_rfl) (by simp) ?_
      refine AllReadyH.cons rfl (fun K hK => ?_) AllReadyH.nil
      rw [if_pos (by rfl)]
      refine wp_append_bytes _ _ _ rfl w.heap.size _ (rdTo a.data.toList k) rfl hr6 _ [R] rfl hs6 (by rw [rdTo_len]; unfold room; simp; omega) hb6.size (fun v1 w1 hr1 hg1 => ?_)
      have hb1 := hb6.trans (below_append hr6 hg1 hb6.size)
      refine hK.out _ _ trivial (fun hHeld => ?_)
      clear hK K
      try simp only [Act.put, List.getElem_toArray, List.getElem_cons_zero, List.getElem_cons_succ, List.setIfInBounds_toArray, List.set_cons_zero, List.set_cons_succ]
      refine wpAnyH_take (i := 15) (v := ?_) rfl (by kernel_rfl) (by kernel_rfl) (by kernel_rfl) (fun c a w h => h) (Or.inl ⟨by rfl, ?_⟩) hHeld ?_
      rotate_left
      · (intro w hSw; (try dsimp only at hSw); go_simp; try with_reducible rfl)
      simp only [Act.put, List.getElem_toArray, List.getElem_cons_zero, List.getElem_cons_succ, List.setIfInBounds_toArray, List.set_cons_zero, List.set_cons_succ]
      refine wpAnyH_done (by kernel_rfl) ?_ _
      have HE := hid (And.intro hr1 hb1)
      clear hHeld hh0 hh1 hq2 z1 z2 d0 d1 hx0 hx1 y3 y4 y5 hr6 hb6 hs6 hr5 hb5 hr1 hb1 hg1
      go_wp2
      go_roundw
      case rel => exact ⟨k + 1, by omega, by go_num, by rw [rdTo, HRR.out]; exact HE.out.1, HE.out.2⟩
      case measure => simp [intOf]; omega
    · obtain rfl : k = 3072 := by omega
      have hre : rdTo a.data.toList 3072 = rd a.data.toList := rfl
      rw [hre] at hr
      have hrl := rd_len a.data.toList
      have ha := rart_any _ _ _ hr.sl
      simp only [hrl, if_true] at ha
      have HR := hid (And.intro hr hb)
      clear hr hb hre hrl
      by_cases he : art (rd a.data.toList) = a.data.toList
      · have hse := (str_eq a (art (rd a.data.toList))).2 he
        rw [hse] at ha
        have HK := hid (show okA a from ⟨HS.out, he⟩)
        clear he hse
        go_wp2_with fail
        refine ha.mono ?_
        rintro e w1 ⟨rfl, hb1⟩
        have hr2 := HR.out.1.below hb1
        have hb2 := HR.out.2.trans (hb1.mono HR.out.2.size)
        have HE := hid (And.intro hr2 hb2)
        clear hr2 hb2 hb1 ha
        go_wp2
        go_ret2
        exact ⟨⟨_, .inl ⟨HK.out, rfl, HE.out.1⟩⟩, HE.out.2⟩
      · have hse : ¬ (⟨(art (rd a.data.toList)).toArray⟩ : ByteArray) = a := fun h => he ((str_eq a _).1 h)
        have HK := hid (show ¬ okA a from fun h => he h.2)
        have hsl : ¬ (⟨(art (rd a.data.toList)).toArray⟩ : ByteArray).toList = a.toList := fun h => hse (str_inj h)
        generalize (⟨(art (rd a.data.toList)).toArray⟩ : ByteArray) = Z at *
        have hs3 : (Z.toList == a.toList) = false := by simpa using hsl
        clear he hse
        go_wp2_with fail
        refine ha.mono ?_
        rintro e w1 ⟨rfl, hb1⟩
        have hb2 := HR.out.2.trans (hb1.mono HR.out.2.size)
        have HE := hid hb2
        clear hb2 hb1 ha
        go_wp2
        go_ret2
        exact ⟨⟨undef, .inr ⟨HK.out, rfl⟩⟩, HE.out⟩
end Go.Proofs.Ytlljelfplffglaa.H
