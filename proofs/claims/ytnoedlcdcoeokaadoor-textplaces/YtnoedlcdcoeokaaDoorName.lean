import Derived.Test.YtnoedlcdcoeokaaDoorParts
/-! text.Name. -/
namespace Go.Proofs.YtnoedlcdcoeokaaDoor
open Go.RowKit
set_option linter.unusedVariables false

theorem seen_rune (s : ByteArray) (pos : Nat) (h : pos < s.size) : seen (Utf8.decode s pos).1 = seen (s[pos]'h).toNat ∧ (seen (Utf8.decode s pos).1 = true → (Utf8.decode s pos).2 = 1) := by
  by_cases ha : (s[pos]'h).toNat < 128
  · rw [decode_ascii s pos h ha]; exact ⟨rfl, fun _ => rfl⟩
  · have h1 := (decode_high s pos h (by omega)).1
    have e1 : seen (Utf8.decode s pos).1 = false := by unfold seen; simp; omega
    have e2 : seen (s[pos]'h).toNat = false := by unfold seen; simp; omega
    rw [e1, e2]
    exact ⟨rfl, fun x => by cases x⟩
theorem all_take_false (l : List UInt8) (k : Nat) (h : (l.take k).all (fun c => seen c.toNat) = false) : l.all (fun c => seen c.toNat) = false := by
  rw [← List.take_append_drop k l, List.all_append, h, Bool.false_and]

theorem nameB_of (l : List UInt8) (h1 : 1 ≤ l.length) (h2 : l.length ≤ 31) (h3 : l ≠ [92]) (h4 : l ≠ [40]) :
    nameB l = (l.all (fun c => seen c.toNat) && decide (numI l = none)) := by
  unfold nameB; simp [h1, h2, h3, h4]
theorem errOf_20 (o : Option Int) : decide (errOf o = 20) = decide (o = none) := by
  cases o with
  | none => rfl
  | some n => unfold errOf; simp only; split <;> simp
theorem list_eq (s : ByteArray) (c : UInt8) : (s.toList == [c]) = decide (s.data.toList = [c]) := by
  rw [ByteArray.toList_eq, Bool.eq_iff_iff]; simp

set_option maxHeartbeats 1000000 in
set_option maxRecDepth 100000 in
theorem name_any (s : ByteArray) (hs : s.size ≤ maxLen) (w : World) :
    Calls Tryd.prog 12 #[.string s] w fun e w' => e = .returned (.bool (nameB s.data.toList)) ∧ Below w.heap.size w w' := by
  have hmax := hs
  unfold maxLen at hs
  by_cases h1 : s.size < 1
  · have H : Hid (nameB s.data.toList = false) := by
      have : ¬ 1 ≤ s.data.toList.length := by rw [size_list]; omega
      show _ = _; unfold nameB; rw [decide_eq_false this]; rfl
    go_enter Tryd.func12, Tryd.ntmps12
    go_wp2
    go_ret
    exact ⟨ret_bool H.out.symm, Below.refl _ _⟩
  · by_cases h2 : 31 < s.size
    · have H : Hid (nameB s.data.toList = false) := by
        have : ¬ s.data.toList.length ≤ 31 := by rw [size_list]; omega
        show _ = _; unfold nameB; rw [decide_eq_false this]; simp
      go_enter Tryd.func12, Tryd.ntmps12
      go_wp2
      go_ret
      exact ⟨ret_bool H.out.symm, Below.refl _ _⟩
    · by_cases h3 : s.data.toList = [92]
      · have H : Hid (nameB s.data.toList = false) := by show _ = _; rw [h3]; rfl
        have e3 : (s.toList == [92]) = true := by rw [list_eq]; simpa using h3
        clear h3
        go_enter Tryd.func12, Tryd.ntmps12
        go_wp2
        go_ret
        exact ⟨ret_bool H.out.symm, Below.refl _ _⟩
      · by_cases h4 : s.data.toList = [40]
        · have H : Hid (nameB s.data.toList = false) := by show _ = _; rw [h4]; rfl
          have e3 : (s.toList == [92]) = false := by rw [list_eq]; simpa using h3
          have e4 : (s.toList == [40]) = true := by rw [list_eq]; simpa using h4
          clear h3 h4
          go_enter Tryd.func12, Tryd.ntmps12
          go_wp2
          go_ret
          exact ⟨ret_bool H.out.symm, Below.refl _ _⟩
        · have H : Hid (nameB s.data.toList = (s.data.toList.all (fun c => seen c.toNat) && decide (numI s.data.toList = none))) :=
            nameB_of _ (by rw [size_list]; omega) (by rw [size_list]; omega) h3 h4
          have e3 : (s.toList == [92]) = false := by rw [list_eq]; simpa using h3
          have e4 : (s.toList == [40]) = false := by rw [list_eq]; simpa using h4
          clear h3 h4
          go_enter Tryd.func12, Tryd.ntmps12
          go_wp2
          go_loopw [4] (fun _ wr => ∃ pos : Nat, pos ≤ s.size ∧ wr.heap[w.heap.size]? = some (.stringIter s pos) ∧ Below w.heap.size w wr ∧ (s.data.toList.take pos).all (fun c => seen c.toNat) = true) (fun _ wr => s.size - wr.iterPos w.heap.size)
          case atStart =>
            refine ⟨0, Nat.zero_le _, ?_, (Below.refl _ w).alloc (Nat.le_refl _) _, rfl⟩
            have := World.iter_heap w s 0
            simpa using this
          case round =>
            obtain ⟨pos, hpos, hit, hbw, hall⟩ := hrel
            have hsz : w.heap.size < wr.heap.size := (Array.getElem?_eq_some_iff.1 hit).1
            by_cases hp : pos < s.size
            · have hnx : ∀ ty, (Instr.next (.pointer (some ⟨w.heap.size, 0, none⟩)) true ty).run Tryd.prog wr = _ := fun ty => Lib.run_next_any_at wr w.heap.size s pos ty hit hp
              obtain ⟨hdr, hd1⟩ := seen_rune s pos hp
              have hle := decode_le s pos
              have hit2 := Lib.iterAt_heap wr w.heap.size s pos (pos + (Utf8.decode s pos).2) hit
              have hbw2 := Lib.below_iterAt hbw (k := w.heap.size) (Nat.le_refl _) s (pos + (Utf8.decode s pos).2)
              have hts := take_snoc s pos hp
              have HA : Hid ((s.data.toList.take (pos + 1)).all (fun c => seen c.toNat) = seen (Utf8.decode s pos).1) := by
                show _ = _; rw [hts, List.all_append, hall, hdr]; simp
              clear hts hdr hall
              generalize hr : (Utf8.decode s pos).1 = r at *
              generalize hw1 : (Utf8.decode s pos).2 = wd at *
              clear hr hw1
              cases hd : seen r with
              | true =>
                obtain rfl := hd1 hd
                go_wp2_with (go_at_call 27; refine (visible_yes r hd _).mono ?_; rintro e w' ⟨rfl, rfl⟩)
                go_roundw
                case rel => exact ⟨pos + 1, by omega, hit2, hbw2, by rw [HA.out, hd]⟩
                case measure => simp only [World.iterPos, hit2, hit]; omega
              | false =>
                have H2 : Hid (nameB s.data.toList = false) := by
                  show _ = _; rw [H.out, all_take_false _ (pos + 1) (by rw [HA.out, hd])]; rfl
                clear HA hd1
                go_wp2_with (go_at_call 27; refine (visible_no r hd _).mono ?_; rintro e w' ⟨rfl, rfl⟩)
                go_ret
                exact ⟨ret_bool H2.out.symm, hbw2⟩
            · have hnx : ∀ ty, (Instr.next (.pointer (some ⟨w.heap.size, 0, none⟩)) true ty).run Tryd.prog wr = _ := fun ty => Lib.run_next_end_at wr w.heap.size s pos ty hit hp
              have hl : s.data.toList.take pos = s.data.toList := List.take_of_length_le (by rw [size_list]; omega)
              rw [hl] at hall
              have H2 : Hid (nameB s.data.toList = decide (numE s.data.toList = 20)) := by
                show _ = _; rw [H.out, hall]; unfold numE; rw [errOf_20]; rfl
              clear hl hall
              go_wp2_with (go_at_call 21; refine (numeral_any s hmax _).mono ?_; rintro e w' ⟨rfl, hbn⟩)
              go_ret
              exact ⟨ret_bool (by rw [H2.out]; rfl), hbw.trans (hbn.mono (by omega))⟩
end Go.Proofs.YtnoedlcdcoeokaaDoor
