import Derived.Test.YtlljelfplffglabDoorHScr
import Derived.Test.YtlljelfplffglabDoorShelf
import Derived.Laws.Strings
/-! Read, both. -/
namespace Go.Proofs.YtlljelfplffglabDoor.H
open Go.RowKit
open Go.Proofs
open Go.Proofs.YtlljelfplffglabDoor.K
set_option linter.unusedVariables false
set_option linter.unusedSimpArgs false
set_option maxHeartbeats 2000000
set_option maxRecDepth 100000
theorem idx_dig : ((List.range 256).all fun n => decide (max 0 (Lib.indexByte [48, 49, 50, 51, 52, 53, 54, 55, 56, 57, 97, 98, 99, 100, 101, 102] (UInt8.ofNat n)) = (dig (UInt8.ofNat n) : Int))) = true := by kernel_rfl
theorem idx_at (c : UInt8) : max 0 (Lib.indexByte [48, 49, 50, 51, 52, 53, 54, 55, 56, 57, 97, 98, 99, 100, 101, 102] c) = (dig c : Int) := by
  have h := List.all_eq_true.1 idx_dig c.toNat (by simp; exact c.toNat_lt)
  simpa using h
theorem half_any (c : UInt8) (w : World) : Calls Tryd.prog 25 #[.int .u8 (c.toNat : Int)] w fun e w' => e = .returned (.int .u8 (dig c : Int)) ∧ w' = w := by
  have hm := idx_at c
  have hd := dig_lt c
  have hx := Tryd.strings_IndexByte ⟨#[48, 49, 50, 51, 52, 53, 54, 55, 56, 57, 97, 98, 99, 100, 101, 102]⟩ (c.toNat : Int) w
  have e1 : (c.toNat : Int).toNat.toUInt8 = c := by simp
  rw [e1] at hx
  have e2 : (⟨#[48, 49, 50, 51, 52, 53, 54, 55, 56, 57, 97, 98, 99, 100, 101, 102]⟩ : ByteArray).data.toList = [48, 49, 50, 51, 52, 53, 54, 55, 56, 57, 97, 98, 99, 100, 101, 102] := rfl
  rw [e2] at hx
  generalize Lib.indexByte [48, 49, 50, 51, 52, 53, 54, 55, 56, 57, 97, 98, 99, 100, 101, 102] c = z at *
  generalize dig c = d at *
  have u1 : IntKind.u8.wrap (d : Int) = d := by simp [IntKind.wrap, IntKind.bits, IntKind.signed]; omega
  clear e1 e2
  go_enter Tryd.func25, Tryd.ntmps25
  go_wp2_with fail
  refine hx.mono ?_
  rintro e w' ⟨rfl, rfl⟩
  go_wp2
  go_ret
  exact ⟨rfl, rfl⟩
theorem cut_str (W : World) (a : ByteArray) (o : Nat) (h : o ≤ a.size) : (Instr.sliceAt 9 (.string a) (some (.int .i64 (o : Int))) none none).run Tryd.prog W = .ok (.string (a.extract o a.size)) W := by
  rw [run_sliceAt_string W 9 _ _ _ _ Tryd.underlying9]
  have := run_slice_string_from_if (P := Tryd.prog) W 9 a .i64 (o : Int) Tryd.underlying9
  rw [this]
  simp [h]
theorem or8 (a b : Nat) (ha : a < 16) (hb : b < 16) : bits .or .u8 ((16 * a : Nat) : Int) (b : Int) = ((16 * a + b : Nat) : Int) := by
  have : ((List.range 16).all fun a => (List.range 16).all fun b => decide (bits .or .u8 ((16 * a : Nat) : Int) (b : Int) = ((16 * a + b : Nat) : Int))) = true := by kernel_rfl
  have h := List.all_eq_true.1 this a (by simpa using ha)
  have h2 := List.all_eq_true.1 h b (by simpa using hb)
  simpa using h2
theorem ix_str (W : World) (k : IntKind) (a : ByteArray) (n : Nat) (h : n < a.size) : (Instr.index 9 (.string a) (.int k (n : Int))).run Tryd.prog W = .ok (.int .u8 ((a.data.toList.getD n 0).toNat : Int)) W := by
  rw [run_index_string (P := Tryd.prog) W 9 a k n Tryd.underlying9, dif_pos (by omega)]
  have hl : n < a.data.toList.length := by rw [Array.length_toList]; exact h
  simp only [Int.toNat_natCast]
  congr 3
  rw [List.getD_eq_getElem?_getD, List.getElem?_eq_getElem hl]
  rfl
theorem ext_at (a : ByteArray) (o j : Nat) (h : o + j < a.size) : (a.extract o a.size).data.toList.getD j 0 = a.data.toList.getD (o + j) 0 := by
  rw [ByteArray.data_extract, Array.toList_extract, List.getD_eq_getElem?_getD, List.getD_eq_getElem?_getD]
  simp only [List.extract_eq_take_drop]
  rw [List.getElem?_take, if_pos (by have : a.size = a.data.size := rfl; omega), List.getElem?_drop]
theorem ext_size (a : ByteArray) (o : Nat) (h : o ≤ a.size) : (a.extract o a.size).size = a.size - o := by
  simp [ByteArray.size_extract]
theorem rd_step (L : List UInt8) (k : Nat) (hk : k < 3072) : (rdTo L k ++ zs.drop k).set k (rdAt L k) = rdTo L (k + 1) ++ zs.drop (k + 1) := by
  have hl := rdTo_len L k
  rw [List.set_append_right _ _ (by omega), hl, Nat.sub_self, List.drop_eq_getElem_cons (by rw [zs_len]; exact hk), List.set_cons_zero, rdTo, List.append_assoc]
  rfl
theorem rd_len2 (L : List UInt8) (k : Nat) (hk : k ≤ 3072) : (rdTo L k ++ zs.drop k).length = 3072 := by
  rw [List.length_append, rdTo_len, List.length_drop, zs_len]; omega
def okA (a : ByteArray) : Prop := a.size = 6192 ∧ art (rd a.data.toList) = a.data.toList
theorem str_eq (a : ByteArray) (l : List UInt8) : ((⟨l.toArray⟩ : ByteArray) = a) ↔ l = a.data.toList := by
  constructor
  · rintro rfl; simp
  · intro h; subst h; simp
theorem str_inj {a b : ByteArray} (h : a.toList = b.toList) : a = b := by
  rw [ByteArray.toList_eq, ByteArray.toList_eq] at h
  exact ByteArray.ext (Array.toList_inj.1 h)
theorem read_any (a : ByteArray) (w : World) : Calls Tryd.prog 10 #[.string a] w fun e w' => (∃ u, (okA a ∧ e = .returned (.tuple #[u, .int .i64 0]) ∧ Row w' w.heap.size u (rd a.data.toList)) ∨ (¬ okA a ∧ e = .returned (.tuple #[.slice none 0 0, .int .i64 2]))) ∧ Below w.heap.size w w' := by
  by_cases hl : a.size = 6192
  case neg =>
    have i0 : ¬ (a.size : Int) = 6192 := by omega
    go_enter Tryd.func10, Tryd.ntmps10
    go_wp2
    go_ret2
    exact ⟨⟨undef, .inr ⟨fun h => hl h.1, rfl⟩⟩, Below.refl _ _⟩
  obtain ⟨W0, hmk, hr0, hb0⟩ := make_full w
  have i0 : (a.size : Int) = 6192 := by omega
  have HS := hid hl
  clear hl
  have HI := hid i0
  go_enter Tryd.func10, Tryd.ntmps10
  go_wp2
  clear i0
  have HZ := hid (And.intro hr0 hb0)
  clear hr0 hb0 hmk
  go_loopw [17] (fun i wr => ∃ k : Nat, k ≤ 3072 ∧ i = .int .i64 (k : Int) ∧ Row wr w.heap.size (.slice (some ⟨w.heap.size, 0, none⟩) 3072 3072) (rdTo a.data.toList k ++ zs.drop k) ∧ Below w.heap.size w wr) (fun i _ => 3072 - (intOf i).toNat)
  case atStart => exact ⟨0, by omega, rfl, HZ.out.1, HZ.out.2⟩
  case round =>
    clear HZ
    obtain ⟨k, hk, rfl, hr, hb⟩ := hrel
    by_cases hlt : k < 3072
    · have i1 : (k : Int) < 3072 := by omega
      have hst := row_store hr k (by rw [rd_len2 _ _ hk]; exact hlt) (rdAt a.data.toList k)
      rw [rd_step _ _ hlt] at hst
      have hbt : Below w.heap.size w (wr.drew.setCell ⟨w.heap.size, k, none⟩ (.int .u8 ((rdAt a.data.toList k).toNat : Int))) := (show Below w.heap.size w wr.drew from ⟨hb.os, hb.tape, hb.output, hb.size, hb.block⟩).setCell (p := ⟨w.heap.size, k, none⟩) (Nat.le_refl _) _
      have hst2 : Row (wr.drew.setCell ⟨w.heap.size, k, none⟩ (.int .u8 ((rdAt a.data.toList k).toNat : Int))) w.heap.size (.slice (some ⟨w.heap.size, 0, none⟩) 3072 3072) (rdTo a.data.toList (k + 1) ++ zs.drop (k + 1)) := by
        have hr' : Row wr.drew w.heap.size (.slice (some ⟨w.heap.size, 0, none⟩) 3072 3072) (rdTo a.data.toList k ++ zs.drop k) := hr
        have := row_store hr' k (by rw [rd_len2 _ _ hk]; exact hlt) (rdAt a.data.toList k)
        rw [rd_step _ _ hlt] at this
        exact this
      have hce := row_cell hr k (by rw [rd_len2 _ _ hk]; exact hlt)
      have hfz := row_fz hr k
      generalize (rdTo a.data.toList k ++ zs.drop k)[k]'(by rw [rd_len2 _ _ hk]; exact hlt) = old at hce
      obtain ⟨o, ho⟩ : ∃ o : Nat, o = k / 64 * 129 + 2 * (k % 64) := ⟨_, rfl⟩
      have hsz := HS.out
      have hcs := fun W => cut_str W a o (by omega)
      have hx0 := fun W => ix_str W .i64 (a.extract o a.size) 0 (by rw [ext_size _ _ (by omega)]; omega)
      have hx1 := fun W => ix_str W .i64 (a.extract o a.size) 1 (by rw [ext_size _ _ (by omega)]; omega)
      rw [ext_at a o 0 (by omega)] at hx0
      rw [ext_at a o 1 (by omega)] at hx1
      have hval : (rdAt a.data.toList k).toNat = 16 * dig (a.data.toList.getD (o + 0) 0) + dig (a.data.toList.getD (o + 1) 0) := by
        unfold rdAt
        have d0 := dig_lt (a.data.toList.getD (o + 0) 0)
        have d1 := dig_lt (a.data.toList.getD (o + 1) 0)
        rw [← ho, Nat.add_zero] at *
        exact UInt8.toNat_ofNat_of_lt' (by show _ < 256; omega)
      generalize a.data.toList.getD (o + 0) 0 = c0 at *
      generalize a.data.toList.getD (o + 1) 0 = c1 at *
      have y3 : (k : Int) / 64 * 129 + 2 * ((k : Int) % 64) = (o : Int) := by omega
      generalize a.extract o a.size = T at *
      have hx0' : ∀ W, (Instr.index 9 (.string T) (.int .i64 0)).run Tryd.prog W = .ok (.int .u8 (c0.toNat : Int)) W := hx0
      have hx1' : ∀ W, (Instr.index 9 (.string T) (.int .i64 1)).run Tryd.prog W = .ok (.int .u8 (c1.toNat : Int)) W := hx1
      have HE := hid (And.intro hst2 (And.intro hbt hval))
      have HO := hid ho
      have HK := hid hk
      clear hst hst2 hbt hval hx0 hx1 hr hb hsz ho
      go_wp2_with fail
      refine wp_region_held_drew (S := (fun wz : World => True)) (by kernel_rfl) trivial (fun hHeld => ?_)
      generalize hY : wr.drew = y0 at *
      have hce' : y0.cell? ⟨w.heap.size, k, none⟩ = some (.int .u8 (old.toNat : Int)) := by rw [← hY]; exact hce
      have hfz' : y0.frozen? ⟨w.heap.size, k, none⟩ = false := by rw [← hY]; exact hfz
      have hh0 := half_any c0 y0
      have hh1 := half_any c1 y0
      have d0 := dig_lt c0
      have d1 := dig_lt c1
      have hor := or8 (dig c0) (dig c1) d0 d1
      have hv := HE.out.2.2
      rw [← hv] at hor
      clear hv
      generalize hq0 : dig c0 = q0 at *
      generalize hq1 : dig c1 = q1 at *
      have hq2 : IntKind.u8.wrap ((q0 : Int) * 16) = ((16 * q0 : Nat) : Int) := by simp [IntKind.wrap, IntKind.bits, IntKind.signed]; omega
      generalize ((16 * q0 : Nat) : Int) = q2 at *
      clear hY hq0 hq1
      refine wpAnyH_take (i := 0) (v := ?_) rfl (by kernel_rfl) (by kernel_rfl) (by kernel_rfl) (fun c a w h => h) (Or.inl ⟨by rfl, ?_⟩) hHeld ?_
      rotate_left
      · (intro w hSw; (try dsimp only at hSw); go_simp; try with_reducible rfl)
      simp only [Act.put, List.getElem_toArray, List.getElem_cons_zero, List.getElem_cons_succ, List.setIfInBounds_toArray, List.set_cons_zero, List.set_cons_succ]
      refine wpAnyH_take (i := 1) (v := ?_) rfl (by kernel_rfl) (by kernel_rfl) (by kernel_rfl) (fun c a w h => h) (Or.inl ⟨by rfl, ?_⟩) hHeld ?_
      rotate_left
      · (intro w hSw; (try dsimp only at hSw); go_simp; try with_reducible rfl)
      simp only [Act.put, List.getElem_toArray, List.getElem_cons_zero, List.getElem_cons_succ, List.setIfInBounds_toArray, List.set_cons_zero, List.set_cons_succ]
      refine wpAnyH_take (i := 2) (v := ?_) rfl (by kernel_rfl) (by kernel_rfl) (by kernel_rfl) (fun c a w h => h) (Or.inl ⟨by rfl, ?_⟩) hHeld ?_
      rotate_left
      · (intro w hSw; (try dsimp only at hSw); go_simp; try with_reducible rfl)
      simp only [Act.put, List.getElem_toArray, List.getElem_cons_zero, List.getElem_cons_succ, List.setIfInBounds_toArray, List.set_cons_zero, List.set_cons_succ]
      refine wpAnyH_take (i := 3) (v := ?_) rfl (by kernel_rfl) (by kernel_rfl) (by kernel_rfl) (fun c a w h => h) (Or.inl ⟨by rfl, ?_⟩) hHeld ?_
      rotate_left
      · (intro w hSw; (try dsimp only at hSw); go_simp; try with_reducible rfl)
      simp only [Act.put, List.getElem_toArray, List.getElem_cons_zero, List.getElem_cons_succ, List.setIfInBounds_toArray, List.set_cons_zero, List.set_cons_succ]
      refine wpAnyH_take (i := 6) (v := ?_) rfl (by kernel_rfl) (by kernel_rfl) (by kernel_rfl) (fun c a w h => h) (Or.inl ⟨by rfl, ?_⟩) hHeld ?_
      rotate_left
      · (intro w hSw; (try dsimp only at hSw); go_simp; try with_reducible rfl)
      simp only [Act.put, List.getElem_toArray, List.getElem_cons_zero, List.getElem_cons_succ, List.setIfInBounds_toArray, List.set_cons_zero, List.set_cons_succ]
      refine wpAnyH_take (i := 7) (v := ?_) rfl (by kernel_rfl) (by kernel_rfl) (by kernel_rfl) (fun c a w h => h) (Or.inl ⟨by rfl, ?_⟩) hHeld ?_
      rotate_left
      · (intro w hSw; (try dsimp only at hSw); go_simp; try with_reducible rfl)
      simp only [Act.put, List.getElem_toArray, List.getElem_cons_zero, List.getElem_cons_succ, List.setIfInBounds_toArray, List.set_cons_zero, List.set_cons_succ]
      refine wpAnyH_ready (rs := [4]) (by kernel_rfl) (by simp) ?_
      refine AllReadyH.cons rfl (fun K hK => ?_) AllReadyH.nil
      rw [if_pos (by rfl)]
      go_simp
      refine (hh0).mono ?_
      rintro e wq ⟨rfl, hwq⟩
      obtain rfl := hwq.symm
      refine hK.out _ _ trivial (fun hHeld => ?_)
      clear hK K
      try simp only [Act.put, List.getElem_toArray, List.getElem_cons_zero, List.getElem_cons_succ, List.setIfInBounds_toArray, List.set_cons_zero, List.set_cons_succ]
      refine wpAnyH_take (i := 5) (v := ?_) rfl (by kernel_rfl) (by kernel_rfl) (by kernel_rfl) (fun c a w h => h) (Or.inl ⟨by rfl, ?_⟩) hHeld ?_
      rotate_left
      · (intro w hSw; (try dsimp only at hSw); go_simp; try with_reducible rfl)
      simp only [Act.put, List.getElem_toArray, List.getElem_cons_zero, List.getElem_cons_succ, List.setIfInBounds_toArray, List.set_cons_zero, List.set_cons_succ]
      refine wpAnyH_ready (rs := [8]) (by kernel_rfl) (by simp) ?_
      refine AllReadyH.cons rfl (fun K hK => ?_) AllReadyH.nil
      rw [if_pos (by rfl)]
      go_simp
      refine (hh1).mono ?_
      rintro e wq ⟨rfl, hwq⟩
      obtain rfl := hwq.symm
      refine hK.out _ _ trivial (fun hHeld => ?_)
      clear hK K
      try simp only [Act.put, List.getElem_toArray, List.getElem_cons_zero, List.getElem_cons_succ, List.setIfInBounds_toArray, List.set_cons_zero, List.set_cons_succ]
      refine wpAnyH_take (i := 9) (v := ?_) rfl (by kernel_rfl) (by kernel_rfl) (by kernel_rfl) (fun c a w h => h) (Or.inl ⟨by rfl, ?_⟩) hHeld ?_
      rotate_left
      · (intro w hSw; (try dsimp only at hSw); go_simp; try with_reducible rfl)
      simp only [Act.put, List.getElem_toArray, List.getElem_cons_zero, List.getElem_cons_succ, List.setIfInBounds_toArray, List.set_cons_zero, List.set_cons_succ]
      refine wpAnyH_take (i := 10) (v := ?_) rfl (by kernel_rfl) (by kernel_rfl) (by kernel_rfl) (fun c a w h => h) (Or.inl ⟨by rfl, ?_⟩) hHeld ?_
      rotate_left
      · (intro w hSw; (try dsimp only at hSw); go_simp; try with_reducible rfl)
      simp only [Act.put, List.getElem_toArray, List.getElem_cons_zero, List.getElem_cons_succ, List.setIfInBounds_toArray, List.set_cons_zero, List.set_cons_succ]
      refine wpAnyH_ready (rs := [11]) (by kernel_rfl) (by simp) ?_
      refine AllReadyH.cons rfl (fun K hK => ?_) AllReadyH.nil
      go_simp
      refine hK.out _ _ trivial (fun hHeld => ?_)
      clear hK K
      refine wpAnyH_done (by kernel_rfl) ?_ _
      clear hHeld hh0 hh1 hor hq2 d0 d1 hx0' hx1' hcs y3
      go_wp2
      go_roundw
      case rel => exact ⟨k + 1, by omega, by go_num, HE.out.1, HE.out.2.1⟩
      case measure => simp [intOf]; omega
    · obtain rfl : k = 3072 := by omega
      rw [List.drop_of_length_le (by rw [zs_len]; omega), List.append_nil] at hr
      have hre : rdTo a.data.toList 3072 = rd a.data.toList := rfl
      rw [hre] at hr
      have hrl := rd_len a.data.toList
      have ha := art_any _ _ _ hr.sl
      simp only [hrl, if_true] at ha
      have HR := hid (And.intro hr hb)
      clear hr hb hre hrl
      by_cases he : art (rd a.data.toList) = a.data.toList
      · have hse := (str_eq a (art (rd a.data.toList))).2 he
        rw [hse] at ha
        have HK := hid (show okA a from ⟨HS.out, he⟩)
        clear he hse
        go_wp2_with fail
        refine ha.mono ?_
        rintro e w1 ⟨rfl, hb1⟩
        have hr2 := HR.out.1.below hb1
        have hb2 := HR.out.2.trans (hb1.mono HR.out.2.size)
        have HE := hid (And.intro hr2 hb2)
        clear hr2 hb2 hb1 ha
        go_wp2
        go_ret2
        exact ⟨⟨_, .inl ⟨HK.out, rfl, HE.out.1⟩⟩, HE.out.2⟩
      · have hse : ¬ (⟨(art (rd a.data.toList)).toArray⟩ : ByteArray) = a := fun h => he ((str_eq a _).1 h)
        have HK := hid (show ¬ okA a from fun h => he h.2)
        have hsl : ¬ (⟨(art (rd a.data.toList)).toArray⟩ : ByteArray).toList = a.toList := fun h => hse (str_inj h)
        generalize (⟨(art (rd a.data.toList)).toArray⟩ : ByteArray) = Z at *
        have hs3 : (Z.toList == a.toList) = false := by simpa using hsl
        clear he hse
        go_wp2_with fail
        refine ha.mono ?_
        rintro e w1 ⟨rfl, hb1⟩
        have hb2 := HR.out.2.trans (hb1.mono HR.out.2.size)
        have HE := hid hb2
        clear hb2 hb1 ha
        go_wp2
        go_ret2
        exact ⟨⟨undef, .inr ⟨HK.out, rfl⟩⟩, HE.out⟩
end Go.Proofs.YtlljelfplffglabDoor.H
