import Derived.Test.YtnoedlcdcoeokaaDoorRise
/-! The document's Place and Places. -/
namespace Go.Proofs.YtnoedlcdcoeokaaDoor
open Go.RowKit
set_option linter.unusedVariables false

def Two (w : World) (b : Nat) (x y : Int) : Prop := w.heap[b]? = some (.cells #[.int .i64 x, .int .i64 y] 27 (0, 0))
theorem Two.c0 {w : World} {b : Nat} {x y : Int} (h : Two w b x y) : w.cell? ⟨b, 0, none⟩ = some (.int .i64 x) := cell_of_row w b 0 _ _ _ h
theorem Two.c1 {w : World} {b : Nat} {x y : Int} (h : Two w b x y) : w.cell? ⟨b, 1, none⟩ = some (.int .i64 y) := cell_of_row w b 1 _ _ _ h
theorem Two.z {w : World} {b : Nat} {x y : Int} (h : Two w b x y) (j : Nat) : w.frozen? ⟨b, j, none⟩ = false := frozen_of_row w b j _ _ h
theorem Two.s0 {w : World} {b : Nat} {x y : Int} (h : Two w b x y) (v : Int) : Two (w.setCell ⟨b, 0, none⟩ (.int .i64 v)) b v y := heap_setCell_same w b 0 _ 27 _ h
theorem Two.s1 {w : World} {b : Nat} {x y : Int} (h : Two w b x y) (v : Int) : Two (w.setCell ⟨b, 1, none⟩ (.int .i64 v)) b x v := heap_setCell_same w b 1 _ 27 _ h
theorem Two.lt {w : World} {b : Nat} {x y : Int} (h : Two w b x y) : b < w.heap.size := (Array.getElem?_eq_some_iff.1 h).1

set_option maxHeartbeats 1000000 in
set_option maxRecDepth 100000 in
theorem rplace_at (s : ByteArray) (hs : s.size ≤ 1000000) (o : Int) (q : Nat) (hq : q ≤ s.size) (hcase : (o < 0 ∧ q = 0) ∨ ((s.size : Int) < o ∧ q = s.size) ∨ (0 ≤ o ∧ o ≤ s.size ∧ o = (q : Int))) (w : World) :
    Calls Tryd.prog 31 #[.string s, .int .i64 o] w fun e w' => e = .returned (.agg #[.int .i64 (place s.data.toList q).1, .int .i64 (place s.data.toList q).2]) ∧ Below w.heap.size w w' := by
  rcases hcase with ⟨h1, rfl⟩ | ⟨h1, rfl⟩ | ⟨h1, h2, rfl⟩
  · have h2 : ¬ (s.size : Int) < 0 := by omega
    go_enter Tryd.func31, Tryd.ntmps31
    go_wp2
    go_loopw [6] (fun i wr => ∃ k : Nat, k ≤ 0 ∧ i = .int .i64 (k : Int) ∧ Below w.heap.size w wr ∧ Two wr w.heap.size 0 0 ∧ Two wr (w.heap.size + 1) (place s.data.toList k).1 (place s.data.toList k).2) (fun i _ => 0 - (intOf i).toNat)
    case atStart =>
      refine ⟨0, by omega, rfl, ((Below.refl _ _).alloc (Nat.le_refl _) _).alloc (by simp) _, ?_, ?_⟩
      · exact (Below.heap_alloc _ _ _ (by simp)).trans (heap_alloc_new w _)
      · have := heap_alloc_new (w.alloc (.cells #[.int .i64 0, .int .i64 0] 27)) (.cells #[.int .i64 1, .int .i64 1] 27)
        have hz : (w.alloc (.cells #[.int .i64 0, .int .i64 0] 27)).heap.size = w.heap.size + 1 := by simp
        rw [hz] at this
        exact this
    case round =>
      obtain ⟨k, hk, rfl, hB, hr, hp⟩ := hrel
      have hlt0 := hp.lt
      by_cases hlt : k < 0
      · omega
      · obtain rfl : k = 0 := by omega
        have i1 : ¬ ((0 : Nat) : Int) < (0 : Int) := by omega
        obtain ⟨a, b, hab⟩ : ∃ a b, place s.data.toList 0 = (a, b) := ⟨_, _, rfl⟩
        rw [hab] at hp
        have HAB : Hid (place s.data.toList 0 = (a, b)) := hab
        clear hab
        have q0 := hp.c0
        have q1 := hp.c1
        have q2 := hr.c0
        have q3 := hr.c1
        have z0 := hr.z 0
        have z1 := hr.z 1
        have g0 := (hr.s0 a).s1 b
        have g2 := g0.c0
        have g3 := g0.c1
        have gB := (hB.setCell (p := ⟨w.heap.size, 0, none⟩) (by simp) (.int .i64 a)).setCell (p := ⟨w.heap.size, 1, none⟩) (by simp) (.int .i64 b)
        clear hp hr hB g0
        go_wp2
        exact bodyPost_ret (v := .agg #[.int .i64 a, .int .i64 b]) (by simp [results, Tryd.results31, go_sem, g2, g3]) rfl ⟨by rw [HAB.out], gB⟩
  · have h2 : ¬ o < 0 := by omega
    go_enter Tryd.func31, Tryd.ntmps31
    go_wp2
    go_loopw [6] (fun i wr => ∃ k : Nat, k ≤ s.size ∧ i = .int .i64 (k : Int) ∧ Below w.heap.size w wr ∧ Two wr w.heap.size 0 0 ∧ Two wr (w.heap.size + 1) (place s.data.toList k).1 (place s.data.toList k).2) (fun i _ => s.size - (intOf i).toNat)
    case atStart =>
      refine ⟨0, by omega, rfl, ((Below.refl _ _).alloc (Nat.le_refl _) _).alloc (by simp) _, ?_, ?_⟩
      · exact (Below.heap_alloc _ _ _ (by simp)).trans (heap_alloc_new w _)
      · have := heap_alloc_new (w.alloc (.cells #[.int .i64 0, .int .i64 0] 27)) (.cells #[.int .i64 1, .int .i64 1] 27)
        have hz : (w.alloc (.cells #[.int .i64 0, .int .i64 0] 27)).heap.size = w.heap.size + 1 := by simp
        rw [hz] at this
        exact this
    case round =>
      obtain ⟨k, hk, rfl, hB, hr, hp⟩ := hrel
      have hlt0 := hp.lt
      by_cases hlt : k < s.size
      · have hks : k < s.size := by omega
        have hps := place_byte s k hks
        have hbd := place_line_pos s.data.toList k
        have HP : Hid (place s.data.toList (k + 1) = stepP (place s.data.toList k) s[k]) := hps
        clear hps
        generalize place s.data.toList k = pk at *
        obtain ⟨a, b⟩ := pk
        obtain ⟨x1, x2, x3, x4⟩ := hbd
        simp only at x1 x2 x3 x4 hp
        have q0 := hp.c0
        have q1 := hp.c1
        have z0 := hp.z 0
        have z1 := hp.z 1
        have i0 : (0 : Int) ≤ (k : Int) := by omega
        have i1 : (k : Int) < (s.size : Int) := by omega
        have i2 : (k : Int) < (s.size : Int) := by omega
        by_cases h10 : s[k].toNat = 10
        · have h10I : (s[k].toNat : Int) = 10 := by omega
          have g1 := ((hp.s1 (b + 1)).s0 (a + 1)).s1 1
          have g0 : Two (((wr.setCell ⟨w.heap.size + 1, 1, none⟩ (.int .i64 (b + 1))).setCell ⟨w.heap.size + 1, 0, none⟩ (.int .i64 (a + 1))).setCell ⟨w.heap.size + 1, 1, none⟩ (.int .i64 1)) w.heap.size 0 0 := by
            unfold Two
            rw [Below.heap_setCell _ _ _ _ (by show w.heap.size ≠ w.heap.size + 1; omega), Below.heap_setCell _ _ _ _ (by show w.heap.size ≠ w.heap.size + 1; omega), Below.heap_setCell _ _ _ _ (by show w.heap.size ≠ w.heap.size + 1; omega)]
            exact hr
          have gB := ((hB.setCell (p := ⟨w.heap.size + 1, 1, none⟩) (by simp) (.int .i64 (b + 1))).setCell (p := ⟨w.heap.size + 1, 0, none⟩) (by simp) (.int .i64 (a + 1))).setCell (p := ⟨w.heap.size + 1, 1, none⟩) (by simp) (.int .i64 1)
          have HE : Hid (place s.data.toList (k + 1) = (a + 1, 1)) := by show _ = _; rw [HP.out]; unfold stepP; rw [if_pos h10]
          clear hp hr hB HP h10
          go_wp2
          go_roundw
          case rel => exact ⟨k + 1, by omega, by go_num, gB, g0, by rw [HE.out]; exact g1⟩
          case measure => simp [intOf]; omega
        · have h10I : ¬ (s[k].toNat : Int) = 10 := by omega
          have g1 := hp.s1 (b + 1)
          have g0 : Two (wr.setCell ⟨w.heap.size + 1, 1, none⟩ (.int .i64 (b + 1))) w.heap.size 0 0 := by
            unfold Two
            rw [Below.heap_setCell _ _ _ _ (by show w.heap.size ≠ w.heap.size + 1; omega)]
            exact hr
          have gB := hB.setCell (p := ⟨w.heap.size + 1, 1, none⟩) (by simp) (.int .i64 (b + 1))
          have HE : Hid (place s.data.toList (k + 1) = (a, b + 1)) := by show _ = _; rw [HP.out]; unfold stepP; rw [if_neg h10]
          clear hp hr hB HP h10
          go_wp2
          go_roundw
          case rel => exact ⟨k + 1, by omega, by go_num, gB, g0, by rw [HE.out]; exact g1⟩
          case measure => simp [intOf]; omega
      · obtain rfl : k = s.size := by omega
        have i1 : ¬ ((s.size : Nat) : Int) < (s.size : Int) := by omega
        obtain ⟨a, b, hab⟩ : ∃ a b, place s.data.toList s.size = (a, b) := ⟨_, _, rfl⟩
        rw [hab] at hp
        have HAB : Hid (place s.data.toList s.size = (a, b)) := hab
        clear hab
        have q0 := hp.c0
        have q1 := hp.c1
        have q2 := hr.c0
        have q3 := hr.c1
        have z0 := hr.z 0
        have z1 := hr.z 1
        have g0 := (hr.s0 a).s1 b
        have g2 := g0.c0
        have g3 := g0.c1
        have gB := (hB.setCell (p := ⟨w.heap.size, 0, none⟩) (by simp) (.int .i64 a)).setCell (p := ⟨w.heap.size, 1, none⟩) (by simp) (.int .i64 b)
        clear hp hr hB g0
        go_wp2
        exact bodyPost_ret (v := .agg #[.int .i64 a, .int .i64 b]) (by simp [results, Tryd.results31, go_sem, g2, g3]) rfl ⟨by rw [HAB.out], gB⟩
  · have h3 : ¬ ((s.size : Int) < (q : Int)) := by omega
    have h4 : ¬ (q : Int) < 0 := by omega
    go_enter Tryd.func31, Tryd.ntmps31
    go_wp2
    go_loopw [6] (fun i wr => ∃ k : Nat, k ≤ q ∧ i = .int .i64 (k : Int) ∧ Below w.heap.size w wr ∧ Two wr w.heap.size 0 0 ∧ Two wr (w.heap.size + 1) (place s.data.toList k).1 (place s.data.toList k).2) (fun i _ => q - (intOf i).toNat)
    case atStart =>
      refine ⟨0, by omega, rfl, ((Below.refl _ _).alloc (Nat.le_refl _) _).alloc (by simp) _, ?_, ?_⟩
      · exact (Below.heap_alloc _ _ _ (by simp)).trans (heap_alloc_new w _)
      · have := heap_alloc_new (w.alloc (.cells #[.int .i64 0, .int .i64 0] 27)) (.cells #[.int .i64 1, .int .i64 1] 27)
        have hz : (w.alloc (.cells #[.int .i64 0, .int .i64 0] 27)).heap.size = w.heap.size + 1 := by simp
        rw [hz] at this
        exact this
    case round =>
      obtain ⟨k, hk, rfl, hB, hr, hp⟩ := hrel
      have hlt0 := hp.lt
      by_cases hlt : k < q
      · have hks : k < s.size := by omega
        have hps := place_byte s k hks
        have hbd := place_line_pos s.data.toList k
        have HP : Hid (place s.data.toList (k + 1) = stepP (place s.data.toList k) s[k]) := hps
        clear hps
        generalize place s.data.toList k = pk at *
        obtain ⟨a, b⟩ := pk
        obtain ⟨x1, x2, x3, x4⟩ := hbd
        simp only at x1 x2 x3 x4 hp
        have q0 := hp.c0
        have q1 := hp.c1
        have z0 := hp.z 0
        have z1 := hp.z 1
        have i0 : (0 : Int) ≤ (k : Int) := by omega
        have i1 : (k : Int) < (q : Int) := by omega
        have i2 : (k : Int) < (s.size : Int) := by omega
        by_cases h10 : s[k].toNat = 10
        · have h10I : (s[k].toNat : Int) = 10 := by omega
          have g1 := ((hp.s1 (b + 1)).s0 (a + 1)).s1 1
          have g0 : Two (((wr.setCell ⟨w.heap.size + 1, 1, none⟩ (.int .i64 (b + 1))).setCell ⟨w.heap.size + 1, 0, none⟩ (.int .i64 (a + 1))).setCell ⟨w.heap.size + 1, 1, none⟩ (.int .i64 1)) w.heap.size 0 0 := by
            unfold Two
            rw [Below.heap_setCell _ _ _ _ (by show w.heap.size ≠ w.heap.size + 1; omega), Below.heap_setCell _ _ _ _ (by show w.heap.size ≠ w.heap.size + 1; omega), Below.heap_setCell _ _ _ _ (by show w.heap.size ≠ w.heap.size + 1; omega)]
            exact hr
          have gB := ((hB.setCell (p := ⟨w.heap.size + 1, 1, none⟩) (by simp) (.int .i64 (b + 1))).setCell (p := ⟨w.heap.size + 1, 0, none⟩) (by simp) (.int .i64 (a + 1))).setCell (p := ⟨w.heap.size + 1, 1, none⟩) (by simp) (.int .i64 1)
          have HE : Hid (place s.data.toList (k + 1) = (a + 1, 1)) := by show _ = _; rw [HP.out]; unfold stepP; rw [if_pos h10]
          clear hp hr hB HP h10
          go_wp2
          go_roundw
          case rel => exact ⟨k + 1, by omega, by go_num, gB, g0, by rw [HE.out]; exact g1⟩
          case measure => simp [intOf]; omega
        · have h10I : ¬ (s[k].toNat : Int) = 10 := by omega
          have g1 := hp.s1 (b + 1)
          have g0 : Two (wr.setCell ⟨w.heap.size + 1, 1, none⟩ (.int .i64 (b + 1))) w.heap.size 0 0 := by
            unfold Two
            rw [Below.heap_setCell _ _ _ _ (by show w.heap.size ≠ w.heap.size + 1; omega)]
            exact hr
          have gB := hB.setCell (p := ⟨w.heap.size + 1, 1, none⟩) (by simp) (.int .i64 (b + 1))
          have HE : Hid (place s.data.toList (k + 1) = (a, b + 1)) := by show _ = _; rw [HP.out]; unfold stepP; rw [if_neg h10]
          clear hp hr hB HP h10
          go_wp2
          go_roundw
          case rel => exact ⟨k + 1, by omega, by go_num, gB, g0, by rw [HE.out]; exact g1⟩
          case measure => simp [intOf]; omega
      · obtain rfl : k = q := by omega
        have i1 : ¬ ((k : Nat) : Int) < (k : Int) := by omega
        obtain ⟨a, b, hab⟩ : ∃ a b, place s.data.toList k = (a, b) := ⟨_, _, rfl⟩
        rw [hab] at hp
        have HAB : Hid (place s.data.toList k = (a, b)) := hab
        clear hab
        have q0 := hp.c0
        have q1 := hp.c1
        have q2 := hr.c0
        have q3 := hr.c1
        have z0 := hr.z 0
        have z1 := hr.z 1
        have g0 := (hr.s0 a).s1 b
        have g2 := g0.c0
        have g3 := g0.c1
        have gB := (hB.setCell (p := ⟨w.heap.size, 0, none⟩) (by simp) (.int .i64 a)).setCell (p := ⟨w.heap.size, 1, none⟩) (by simp) (.int .i64 b)
        clear hp hr hB g0
        go_wp2
        exact bodyPost_ret (v := .agg #[.int .i64 a, .int .i64 b]) (by simp [results, Tryd.results31, go_sem, g2, g3]) rfl ⟨by rw [HAB.out], gB⟩

theorem rplace_any (s : ByteArray) (hs : s.size ≤ 1000000) (o : Int) (w : World) :
    Calls Tryd.prog 31 #[.string s, .int .i64 o] w fun e w' => e = .returned (.agg #[.int .i64 (place s.data.toList (clampN o s.size)).1, .int .i64 (place s.data.toList (clampN o s.size)).2]) ∧ Below w.heap.size w w' :=
  rplace_at s hs o (clampN o s.size) (clamp_le _ _) (by unfold clampN clampI; omega) w

def prow (g : Nat → Int × Int) (n : Nat) : List Value := (List.range (n * 2)).map fun j => Value.int .i64 (posf g j)
theorem prow_succ (g : Nat → Int × Int) (k : Nat) : prow g (k + 1) = prow g k ++ [.int .i64 (g k).1, .int .i64 (g k).2] := by
  unfold prow
  have e : (k + 1) * 2 = k * 2 + 1 + 1 := by omega
  rw [e, List.range_succ, List.range_succ]
  have h0 : posf g (k * 2) = (g k).1 := by
    have h1 : k * 2 % 2 = 0 := by omega
    have h2 : k * 2 / 2 = k := by omega
    simp [posf, h1, h2]
  have h1 : posf g (k * 2 + 1) = (g k).2 := by
    have h1 : ¬ (k * 2 + 1) % 2 = 0 := by omega
    have h2 : (k * 2 + 1) / 2 = k := by omega
    simp [posf, h2]
  simp [h0, h1]
theorem prow_get (g : Nat → Int × Int) (n j : Nat) (h : j < n * 2) : (prow g n)[j]? = some (.int .i64 (posf g j)) := by simp [prow, h]
theorem grown_of_below {w w' : World} (h : Below w.heap.size w w') : w.grownBy w' none := ⟨h.os, h.tape, h.output, h.size, fun k hk _ => h.block k hk⟩
theorem own_below {w w' : World} {B : Nat} {e : TypeId} {size : Nat} {v : Value} {n : Nat} {xs : List Value} (h : w.ownsRow B e size v n xs) (b : Below w.heap.size w w') : w'.ownsRow B e size v n xs :=
  h.kept (grown_of_below b) (by
    cases hv : v.ownBlock with
    | none => exact .inl rfl
    | some g => exact .inr (by simp))
theorem own_lst {w : World} {B : Nat} {v : Value} {n : Nat} {g : Nat → Int × Int} (h : w.ownsRow B 27 2 v n (prow g n)) : ∃ p c, v = .slice p n c ∧ Lst w p n (posf g) := by
  have h' := h
  rcases h.2 with ⟨rfl, h0⟩ | ⟨b, cap, cur, rfl, _⟩
  · subst h0; exact ⟨none, 0, rfl, .inl rfl⟩
  · exact ⟨_, cap, rfl, .inr ⟨b, rfl, fun j hj => by rw [h'.cellAt j hj, prow_get _ _ _ hj]⟩⟩

set_option maxHeartbeats 1000000 in
set_option maxRecDepth 100000 in
theorem rplaces_any (s : ByteArray) (hs : s.size ≤ 1000000) (p : Option Addr) (n c : Nat) (hn : n ≤ 1000000) (f : Nat → Int) (w : World)
    (hc : n = 0 ∨ ∃ x, p = some x ∧ x.block < w.heap.size ∧ ∀ j, j < n → w.cell? (x.add j) = some (.int .i64 (f j))) :
    Calls Tryd.prog 19 #[.string s, .slice p n c] w fun e w' => ∃ p' c', e = .returned (.slice p' n c') ∧ Lst w' p' n (posf (want s f)) ∧ Below w.heap.size w w' := by
  obtain ⟨i0, hi, hz0, hz1, hz2⟩ := info_parts info27
  go_enter Tryd.func19, Tryd.ntmps19
  go_wp2_with fail
  go_loopw [5, 6] (fun v i wr => ∃ k : Nat, k ≤ n ∧ i = .int .i64 (k : Int) ∧ wr.ownsRow w.heap.size 27 2 v k (prow (want s f) k) ∧ Below w.heap.size w wr) (fun _ i _ => n - (intOf i).toNat)
  case atStart => exact ⟨0, by omega, rfl, World.ownsRow_nil _ _ _ _, Below.refl _ _⟩
  case round =>
    obtain ⟨k, hk, rfl, hown, hbel⟩ := hrel
    have hsz := hbel.size
    by_cases hlt : k < n
    · rcases hc with h | ⟨x, rfl, hx, hcx⟩
      · omega
      have hcell : wr.cell? (x.add k) = some (.int .i64 (f k)) := by rw [hbel.cell (p := x.add k) (by rw [add_block]; exact hx)]; exact hcx k hlt
      have hltI : (k : Int) < (n : Int) := by omega
      have hcall := rplace_any s hs (f k) wr
      have HP : Hid (prow (want s f) (k + 1) = prow (want s f) k ++ [.int .i64 (place s.data.toList (clampN (f k) s.size)).1, .int .i64 (place s.data.toList (clampN (f k) s.size)).2]) := prow_succ _ _
      generalize place s.data.toList (clampN (f k) s.size) = pp at *
      obtain ⟨a, b⟩ := pp
      simp only at hcall HP
      clear hcx
      go_wp2_with fail
      refine hcall.mono ?_
      rintro e w1 ⟨rfl, b1⟩
      have hown1 := own_below hown b1
      have hbel1 := hbel.trans (b1.mono hsz)
      have hsz1 := hbel1.size
      clear hcall hcell b1
      go_wp2_with (first | (at_builtin; refine wpList_append_own _ rfl _ _ 24 rfl w.heap.size 27 i0 (.agg #[.int .i64 0, .int .i64 0]) 2 16 Tryd.underlying24 hi hz0 hz1 hz2 rfl (by decide) _ _ _ rfl (hown1.alloc _) ⟨w1.heap.size, 0, none⟩ 1 1 [.int .i64 a, .int .i64 b] rfl rfl ?c1 ?c2 ?c3 ?c4 ?c5 ?_))
      case c1 =>
        intro j u hj
        match j, hj with
        | 0, hj => simp at hj; subst hj; simp [Addr.add]
        | 1, hj => simp at hj; subst hj; simp [Addr.add]
      case c2 => intro u hu; simp at hu; rcases hu with rfl | rfl <;> rfl
      case c3 => unfold maxLen; omega
      case c4 => omega
      case c5 => simp; omega
      intro v' w2 hown' hgrow _
      have hb2 : Below w.heap.size w w2 := (hbel1.alloc hsz1 _).grown hgrow (by simp; omega) (fun j hj => (hown1.lt j hj).1)
      have ho2 : w2.ownsRow w.heap.size 27 2 v' (k + 1) (prow (want s f) (k + 1)) := by rw [HP.out]; exact hown'
      clear hown' hgrow hown hbel hsz hown1 hbel1
      go_wp2_with fail
      go_roundw
      case rel => exact ⟨k + 1, by omega, by go_num, ho2, hb2⟩
      case measure => simp [intOf]; omega
    · obtain rfl : k = n := by omega
      obtain ⟨p', c', rfl, hL⟩ := own_lst hown
      have hltI : ¬ (k : Int) < (k : Int) := by omega
      clear hown hc
      go_wp2_with fail
      go_ret
      exact ⟨p', ⟨c', rfl⟩, hL, hbel⟩
end Go.Proofs.YtnoedlcdcoeokaaDoor
