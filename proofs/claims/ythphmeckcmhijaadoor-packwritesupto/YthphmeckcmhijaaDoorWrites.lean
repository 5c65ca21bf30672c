import Derived.Test.YthphmeckcmhijaaDoorApart
import Derived.Test.YthphmeckcmhijaaDoorScripts
import Derived.Deep.QuietTactic
/-! PackWrites' walk. -/
namespace Go.Proofs.YthphmeckcmhijaaDoor
open Go.RowKit
set_option linter.unusedVariables false

theorem b_drew {W W' : World} (h : Below W.drew.heap.size W.drew W') : Below W.heap.size W W' := Below.trans (⟨rfl, rfl, rfl, Nat.le_refl _, fun _ _ => rfl⟩ : Below W.heap.size W W.drew) h
theorem lay_len (k n : Int) (m : List UInt8) : (layOf k n m).length ≤ m.length + 10 := by
  have := form_len5 n
  unfold layOf
  repeat' split
  all_goals (try rw [low_len])
  all_goals (try simp)
  all_goals omega

/-- The writer, and the list of all that was laid down beside it. -/
structure WA (W0 W : World) (bw : Nat) (v va : Value) (l : List UInt8) : Prop where
  st : LSt W0 W bw v l
  row : Row W W0.heap.size va l
  sep : ∀ g, va.ownBlock = some g → v.ownBlock ≠ some g
theorem WA.next {W0 W W' : World} {bw : Nat} {v va : Value} {l : List UInt8} (h : WA W0 W bw v va l) (b : Below W.heap.size W W') : WA W0 W' bw v va l := ⟨h.st.next b, h.row.below b, h.sep⟩
theorem WA.nebw {W0 W : World} {bw : Nat} {v va : Value} {l : List UInt8} (h : WA W0 W bw v va l) : va.ownBlock ≠ some bw := by
  intro e
  rcases h.row.2 with ⟨rfl, _⟩ | ⟨g, cap, cur, rfl, _, hg, _⟩
  · simp [Value.ownBlock] at e
  · simp [Value.ownBlock] at e; subst e; rw [h.st.wr.blk] at hg; simp at hg
/-- A call of the writer, then an append of what it laid down. -/
theorem WA.lay {W0 W W2 : World} {bw : Nat} {v va v' : Value} {l m : List UInt8} (h : WA W0 W bw v va l) (s : WStep bw W W2 v v') (h2 : LSt W0 W2 bw v' (l ++ m)) : Row W2 W0.heap.size va l ∧ (∀ g, va.ownBlock = some g → v'.ownBlock ≠ some g) ∧ va.ownBlock ≠ some bw := by
  refine ⟨h.row.kept fun g e hlt => s.block g hlt (by rintro rfl; exact h.nebw e) (fun e2 => h.sep g e e2.symm), fun g e e2 => ?_, h.nebw⟩
  rcases s.own with e3 | e3
  · rw [e3] at e2; exact h.sep g e e2
  · have := e3 g e2; have := (h.row.lt g e).2; omega
theorem WA.app {W0 W2 W3 : World} {bw : Nat} {v' va va' : Value} {l m : List UInt8} (h2 : LSt W0 W2 bw v' (l ++ m)) (hr : Row W2 W0.heap.size va l) (hsep : ∀ g, va.ownBlock = some g → v'.ownBlock ≠ some g) (hbw : va.ownBlock ≠ some bw) (hg : Grew W2 W3 va va') (hr3 : Row W3 W0.heap.size va' (l ++ m)) : WA W0 W3 bw v' va' (l ++ m) := by
  refine ⟨⟨h2.below.trans (hg.below (fun g e => (hr.lt g e).1) h2.size), ⟨(hg.block bw h2.wr.lt (fun e => hbw e.symm)).trans h2.wr.blk, h2.wr.row.kept fun g e hlt => hg.block g hlt (fun e2 => hsep g e2.symm e)⟩, h2.low⟩, hr3, fun g e e2 => ?_⟩
  rcases hg.own with e3 | e3
  · rw [e3] at e; exact hsep g e e2
  · have := e3 g e; have := (h2.wr.row.lt g e2).2; omega
/-- Two rows that were handed out, in a slice of slices. -/
theorem apart_two (W : World) (B : Nat) (hB : B ≤ W.heap.size) (u1 u2 : Value) (l1 l2 : List UInt8) (h1 : Row W B u1 l1) (h2 : Row W B u2 l2) (hs : ∀ g, u1.ownBlock = some g → u2.ownBlock ≠ some g) (hl1 : l1.length + 200 ≤ room) (hl2 : l2.length + 200 ≤ room) :
    Calls Tryd.prog 16 #[.slice (some ⟨W.heap.size, 0, none⟩) 2 2] (W.alloc (.cells #[u1, u2] 22)) fun r w' => r = .returned (.bool true) ∧ Below B W w' := by
  have hal : Below W.heap.size W (W.alloc (.cells #[u1, u2] 22)) := (Below.refl _ _).alloc (Nat.le_refl _) _
  have hnew := heap_alloc_any W (.cells #[u1, u2] 22)
  have hB' : B ≤ (W.alloc (.cells #[u1, u2] 22)).heap.size := Nat.le_trans hB hal.size
  refine (apart_any B W.heap.size 2 (by decide) (fun i => if i = 0 then u1 else u2) (fun i => if i = 0 then l1.length else l2.length) (fun i => if i = 0 then l1 else l2) (W.alloc (.cells #[u1, u2] 22)) ?_ ?_).mono fun r w' ⟨e, hb⟩ => ⟨e, (hal.mono hB).trans hb⟩
  · refine ⟨Below.refl _ _, hB', fun i hi => ?_, ⟨_, hnew⟩, fun i hi => ?_, fun i hi => ?_, fun i j hi hj hij x hx => ?_⟩
    · rw [cell_of_any _ _ i _ _ _ hnew]
      match i, hi with
      | 0, _ => rfl
      | 1, _ => rfl
    · match i, hi with
      | 0, _ => exact h1.below hal
      | 1, _ => exact h2.below hal
    · match i, hi with
      | 0, _ => rfl
      | 1, _ => rfl
    · match i, j, hi, hj with
      | 0, 0, _, _ => exact absurd rfl hij
      | 0, 1, _, _ => exact hs x hx
      | 1, 0, _, _ => exact fun e => hs x e hx
      | 1, 1, _, _ => exact absurd rfl hij
  · intro i hi
    match i, hi with
    | 0, _ => exact hl1
    | 1, _ => exact hl2

set_option maxHeartbeats 4000000 in
set_option maxRecDepth 100000 in
theorem writes_walk (p : Option Addr) (c : Nat) (ps : List (Int × Int × List UInt8)) (hn : ps.length ≤ 1048576) (w : World) (h : PutsS w p ps) (hT : Tab w) :
    Calls Tryd.prog 5 #[.slice p ps.length c] w fun r w' => r = .returned (.bool true) ∧ Below w.heap.size w w' := by
  have hpos := hT.pos
  have hb1 : Below w.heap.size w (w.alloc (.cells #[.slice none 0 0] 36)) := (Below.refl _ _).alloc (Nat.le_refl _) _
  have hw1 : Wr (w.alloc (.cells #[.slice none 0 0] 36)) w.heap.size w.heap.size (.slice none 0 0) [] := ⟨heap_alloc_new w _, row_nil _ _⟩
  have hL1 : LSt w _ w.heap.size (.slice none 0 0) [] := ⟨hb1, hw1, Nat.le_refl _⟩
  clear hb1 hw1
  go_enter Tryd.func5, Tryd.ntmps5
  go_wp2_with fail
  go_loopw [4, 5] (fun va i wr => ∃ (k : Nat) (l : List UInt8) (v : Value), k ≤ ps.length ∧ k ≤ 60 ∧ i = .int .i64 (k : Int) ∧ WA w wr w.heap.size v va l ∧ l.length ≤ k * 1048700) (fun _ i _ => ps.length - (intOf i).toNat)
  case atStart => exact ⟨0, [], _, by omega, by omega, rfl, ⟨hL1, row_nil _ _, fun g hg => by simp [Value.ownBlock] at hg⟩, by simp⟩
  case round =>
    clear hL1
    obtain ⟨k, l, v, hk, hk60, rfl, hWA, hll⟩ := hrel
    have hL := hWA.st
    by_cases hlt : k < ps.length ∧ k < 60
    · obtain ⟨hlt, hlt60⟩ := hlt
      have i1 : (k : Int) < ps.length := by omega
      have i2 : (k : Int) < 60 := by omega
      obtain ⟨b, o, vB, rfl, c0, c1, c2, hs, hm, wk, wn⟩ := h k ps[k] (by simp)
      generalize hpk : ps[k] = t at *
      obtain ⟨tk, tn, tm⟩ := t
      simp only at c0 c1 c2 hs hm wk wn
      have hcl : ∀ {a : Addr} {x : Value}, w.cell? a = some x → wr.cell? a = some x := fun {a x} e => by rw [hL.below.cell (World.block_lt_of_cell? w a e)]; exact e
      have c0' := hcl c0
      have c1' := hcl c1
      have c2' := hcl c2
      have hlay := lay_any w wr w.heap.size v l tm tk tn wn vB hs (by unfold room; omega) hL
      obtain ⟨pB, cB, hvB, _⟩ := hs.ex
      subst hvB
      clear hcl
      go_wp2_with fail
      refine hlay.mono ?_
      rintro r w2 ⟨u, v', rfl, hu, hL2, hs2⟩
      obtain ⟨hr2, hsep2, hbw2⟩ := hWA.lay hs2 hL2
      have hlo := lay_len tk tn tm
      have hl2 : l.length + (layOf tk tn tm).length ≤ (k + 1) * 1048700 := by omega
      have hcl2 : ∀ {a : Addr} {x : Value}, w.cell? a = some x → w2.cell? a = some x := fun {a x} e => by rw [hL2.below.cell (World.block_lt_of_cell? w a e)]; exact e
      generalize hlm : layOf tk tn tm = m at *
      clear hlay hs2 hWA hL
      go_wp2_with (first | (at_builtin; refine wpList_append_bytes _ rfl _ _ rfl w.heap.size _ l rfl hr2 _ m rfl hu (by unfold room; omega) hL2.size ?_))
      intro va' w3 hr3 hg3
      have hWA3 := WA.app hL2 hr2 hsep2 hbw2 hg3 hr3
      have hcl3 : w3.cell? ⟨b, o + k * 3, none⟩ = some (.int .i64 tk) := by rw [hWA3.st.below.cell (World.block_lt_of_cell? w _ c0)]; exact c0
      have hl3 : (l ++ m).length ≤ (k + 1) * 1048700 := by simpa using hl2
      generalize l ++ m = L at *
      clear hcl2 hr2 hsep2 hbw2 hg3 hr3 hL2 hu c0' c1' c2'
      by_cases hkind : tk < 1 ∨ 5 < tk
      · by_cases q1 : tk < 1
        · have hd1 := wdone_any w.heap.size w.heap.size v' L (by unfold room; omega) w3 hWA3.st.wr
          go_wp2_with fail
          refine hd1.mono ?_
          rintro r w4 ⟨u1, rfl, hu1, hb4⟩
          have hWA4 := hWA3.next hb4
          have hd2 := wdone_any w.heap.size w.heap.size v' L (by unfold room; omega) w4 hWA4.st.wr
          go_wp2_with fail
          refine hd2.mono ?_
          rintro r w5 ⟨u2, rfl, hu2, hb5⟩
          have hWA5 := hWA4.next hb5
          have hz4 := hb4.size
          have hz5 := hb5.size
          have hsp : ∀ g, u1.ownBlock = some g → u2.ownBlock ≠ some g := fun g e e2 => by
            have h1 := (hu1.lt g e).2
            have h2 := (hu2.lt g e2).1
            omega
          have hap := apart_two w5 w3.heap.size (by omega) u1 u2 L L (hu1.below hb5) (hu2.mono hz4) hsp (by unfold room; omega) (by unfold room; omega)
          have cv1 := (hu1.below hb5).sl.conv (by unfold maxLen; omega)
          have cv2 := hu2.sl.conv (by unfold maxLen; omega)
          have cv3 := hWA5.row.sl.conv (by unfold maxLen; omega)
          obtain ⟨pu1, cu1, eu1, _⟩ := hu1.sl.ex
          obtain ⟨pu2, cu2, eu2, _⟩ := hu2.sl.ex
          subst eu1 eu2
          clear hu1 hu2 hsp hWA4 hd1 hd2
          go_wp2_with fail
          refine hap.mono ?_
          rintro r w6 ⟨rfl, hb6⟩
          have hWA6 := hWA3.next ((hb4.trans (hb5.mono hz4)).trans hb6)
          go_wp2
          go_roundw
          case rel =>
            first
              | exact ⟨k + 1, L, v', by omega, by omega, by go_num, hWA6, hl3⟩
              | ((repeat apply Exists.intro); refine ⟨⟨k + 1, L, v', by omega, by omega, ?_, hWA6, hl3⟩, rfl⟩; go_num)
          case measure => simp [intOf]; omega
        · have q2 : 5 < tk := by omega
          have q3 : (1 : Int) ≤ tk := by omega
          have hd1 := wdone_any w.heap.size w.heap.size v' L (by unfold room; omega) w3 hWA3.st.wr
          go_wp2_with fail
          refine hd1.mono ?_
          rintro r w4 ⟨u1, rfl, hu1, hb4⟩
          have hWA4 := hWA3.next hb4
          have hd2 := wdone_any w.heap.size w.heap.size v' L (by unfold room; omega) w4 hWA4.st.wr
          go_wp2_with fail
          refine hd2.mono ?_
          rintro r w5 ⟨u2, rfl, hu2, hb5⟩
          have hWA5 := hWA4.next hb5
          have hz4 := hb4.size
          have hz5 := hb5.size
          have hsp : ∀ g, u1.ownBlock = some g → u2.ownBlock ≠ some g := fun g e e2 => by
            have h1 := (hu1.lt g e).2
            have h2 := (hu2.lt g e2).1
            omega
          have hap := apart_two w5 w3.heap.size (by omega) u1 u2 L L (hu1.below hb5) (hu2.mono hz4) hsp (by unfold room; omega) (by unfold room; omega)
          have cv1 := (hu1.below hb5).sl.conv (by unfold maxLen; omega)
          have cv2 := hu2.sl.conv (by unfold maxLen; omega)
          have cv3 := hWA5.row.sl.conv (by unfold maxLen; omega)
          obtain ⟨pu1, cu1, eu1, _⟩ := hu1.sl.ex
          obtain ⟨pu2, cu2, eu2, _⟩ := hu2.sl.ex
          subst eu1 eu2
          clear hu1 hu2 hsp hWA4 hd1 hd2
          go_wp2_with fail
          refine hap.mono ?_
          rintro r w6 ⟨rfl, hb6⟩
          have hWA6 := hWA3.next ((hb4.trans (hb5.mono hz4)).trans hb6)
          go_wp2
          go_roundw
          case rel =>
            first
              | exact ⟨k + 1, L, v', by omega, by omega, by go_num, hWA6, hl3⟩
              | ((repeat apply Exists.intro); refine ⟨⟨k + 1, L, v', by omega, by omega, ?_, hWA6, hl3⟩, rfl⟩; go_num)
          case measure => simp [intOf]; omega
      · have q1 : ¬ tk < 1 := by omega
        have q2 : ¬ 5 < tk := by omega
        go_wp2
        go_roundw
        case rel =>
          first
            | exact ⟨k + 1, L, v', by omega, by omega, by go_num, hWA3, hl3⟩
            | ((repeat apply Exists.intro); refine ⟨⟨k + 1, L, v', by omega, by omega, ?_, hWA3, hl3⟩, rfl⟩; go_num)
        case measure => simp [intOf]; omega
    · by_cases q1 : (k : Int) < ps.length
      · have q2 : decide ((k : Int) < 60) = false := by simp; omega
        go_wp2_with fail
        refine (wbyte_nil 1 wr).mono ?_
        rintro r w4 ⟨rfl, hb4⟩
        go_wp2_with fail
        refine (wnumber_nil1 w4).mono ?_
        rintro r w5 ⟨rfl, hb5⟩
        have hb6 : Below w5.heap.size w5 (w5.alloc (.cells #[.int .u8 1] 5)) := (Below.refl _ _).alloc (Nat.le_refl _) _
        have hWA6 := ((hWA.next hb4).next hb5).next hb6
        generalize hW6 : w5.alloc (.cells #[.int .u8 1] 5) = W6 at *
        go_wp2_with fail
        refine (wbytes_nil _ _).mono ?_
        rintro r w6 ⟨rfl, rfl⟩
        clear hW6 hb4 hb5 hb6 hWA
        have hT6 := hT.below hWA6.st.below hpos
        have hdq := wdone_any w.heap.size w.heap.size v l (by unfold room; omega) w6.drew ⟨hWA6.st.wr.blk, hWA6.st.wr.row⟩
        have cva := Sl.conv (W := w6.drew) hWA6.row.sl (by unfold maxLen; omega)
        have hz6 := hWA6.st.size
        have HB6 : Hid _ := hWA6.st.below
        have HR6 : Hid _ := hWA6.row
        clear hWA6
        go_wp2_with fail
        go_region_with (first
          | (go_at_call 8; refine (known_any _ hT7).mono ?_; rintro e w9 ⟨rfl, hb9⟩)
          | (go_at_call_of 15 (Value.pointer none); refine (wdone_nil _).mono ?_; rintro e w8 ⟨rfl, rfl⟩)
          | (go_at_call 15; refine hdq.mono ?_; rintro e w7 ⟨u, rfl, hu, hb7⟩; have cvu := hu.sl.conv (by unfold maxLen; omega); have cva7 := (Sl.below (W := w6.drew) (Row.sl HR6.out) hb7).conv (by unfold maxLen; omega); have hT7 := Tab.below (W := w6.drew) hT6 hb7 hT6.pos))
        all_goals go_wp2
        all_goals go_ret
        all_goals exact ⟨rfl, (HB6.out.trans (Below.mono (b_drew hb7) hz6)).trans (Below.mono hb9 (Nat.le_trans hz6 hb7.size))⟩
      · have q2 : ¬ ((k : Int) < ps.length) := q1
        go_wp2_with fail
        refine (wbyte_nil 1 wr).mono ?_
        rintro r w4 ⟨rfl, hb4⟩
        go_wp2_with fail
        refine (wnumber_nil1 w4).mono ?_
        rintro r w5 ⟨rfl, hb5⟩
        have hb6 : Below w5.heap.size w5 (w5.alloc (.cells #[.int .u8 1] 5)) := (Below.refl _ _).alloc (Nat.le_refl _) _
        have hWA6 := ((hWA.next hb4).next hb5).next hb6
        generalize hW6 : w5.alloc (.cells #[.int .u8 1] 5) = W6 at *
        go_wp2_with fail
        refine (wbytes_nil _ _).mono ?_
        rintro r w6 ⟨rfl, rfl⟩
        clear hW6 hb4 hb5 hb6 hWA
        have hT6 := hT.below hWA6.st.below hpos
        have hdq := wdone_any w.heap.size w.heap.size v l (by unfold room; omega) w6.drew ⟨hWA6.st.wr.blk, hWA6.st.wr.row⟩
        have cva := Sl.conv (W := w6.drew) hWA6.row.sl (by unfold maxLen; omega)
        have hz6 := hWA6.st.size
        have HB6 : Hid _ := hWA6.st.below
        have HR6 : Hid _ := hWA6.row
        clear hWA6
        go_wp2_with fail
        go_region_with (first
          | (go_at_call 8; refine (known_any _ hT7).mono ?_; rintro e w9 ⟨rfl, hb9⟩)
          | (go_at_call_of 15 (Value.pointer none); refine (wdone_nil _).mono ?_; rintro e w8 ⟨rfl, rfl⟩)
          | (go_at_call 15; refine hdq.mono ?_; rintro e w7 ⟨u, rfl, hu, hb7⟩; have cvu := hu.sl.conv (by unfold maxLen; omega); have cva7 := (Sl.below (W := w6.drew) (Row.sl HR6.out) hb7).conv (by unfold maxLen; omega); have hT7 := Tab.below (W := w6.drew) hT6 hb7 hT6.pos))
        all_goals go_wp2
        all_goals go_ret
        all_goals exact ⟨rfl, (HB6.out.trans (Below.mono (b_drew hb7) hz6)).trans (Below.mono hb9 (Nat.le_trans hz6 hb7.size))⟩
end Go.Proofs.YthphmeckcmhijaaDoor
