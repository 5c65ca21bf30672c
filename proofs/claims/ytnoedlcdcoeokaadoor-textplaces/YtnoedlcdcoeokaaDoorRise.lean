import Derived.Test.YtnoedlcdcoeokaaDoorFixed
/-! TextRise's walk. -/
namespace Go.Proofs.YtnoedlcdcoeokaaDoor
open Go.RowKit
set_option linter.unusedVariables false
theorem own_form {w : World} {B : Nat} {v : Value} {n : Nat} {f : Nat → Int} (h : w.ownsRow B 3 1 v n ((List.range n).map fun j => Value.int .i64 (f j))) :
    ∃ p c, v = .slice p n c ∧ (n = 0 ∨ ∃ x, p = some x ∧ x.block < w.heap.size ∧ ∀ j, j < n → w.cell? (x.add j) = some (.int .i64 (f j))) := by
  have hc := fun g hg => World.ownsRow.cells h (g := g) hg
  have hl := h.lt
  rcases h.2 with ⟨rfl, h0⟩ | ⟨g, cap, cur, rfl, _⟩
  · subst h0; exact ⟨none, 0, rfl, .inl rfl⟩
  · refine ⟨_, cap, rfl, .inr ⟨_, rfl, (hl g (by simp [Value.ownBlock])).2, fun j hj => ?_⟩⟩
    exact hc g (by simp [Value.ownBlock]) j _ (by simp [hj])
theorem want_id (S : ByteArray) (i : Nat) (h : i ≤ S.size) : want S (fun j : Nat => (j : Int)) i = place S.data.toList i := by
  unfold want
  have : clampN (i : Int) S.size = i := by unfold clampN clampI; omega
  rw [this]
theorem place_byte (S : ByteArray) (k : Nat) (h : k < S.size) : place S.data.toList (k + 1) = stepP (place S.data.toList k) S[k] :=
  place_succ S.data.toList k (by rw [size_list]; exact h)
theorem place_cut (S T : ByteArray) (c : Nat) (h : c ≤ S.size) : place (S.extract 0 c ++ T).data.toList c = place S.data.toList c := by
  have e1 : (S.extract 0 c ++ T).data.toList = S.data.toList.take c ++ T.data.toList := by
    rw [ByteArray.data_append, Array.toList_append, ByteArray.data_extract, Array.toList_extract]; simp
  rw [e1]; unfold place
  rw [List.take_append_of_le_length (by rw [List.length_take, size_list]; omega), List.take_take, Nat.min_self]

set_option maxHeartbeats 2000000 in
set_option maxRecDepth 100000 in
theorem rise_any (a0 a1 : ByteArray) (a2 : Int) (h0 : a0.size ≤ maxLen) (h1 : a1.size ≤ maxLen) (w : World) (hT : Tabs w) :
    Calls Tryd.prog 3 #[.string a0, .string a1, .int .i64 a2] w fun e w' => e = .returned (.bool true) ∧ Below w.heap.size w w' := by
  have hB := Below.refl w.heap.size w
  unfold maxLen at h0 h1
  go_enter Tryd.func3, Tryd.ntmps3
  go_wp2_with (first
    | (go_at_call 9; refine (fixed_any _ (hT.below hB)).mono ?_; rintro e wn ⟨rfl, hb⟩; replace hB := hB.trans (hb.mono hB.size); clear hb))
  have hSs : (a0.extract 0 (min (↑a0.size) 3000 : Int).toNat).size = min (min (↑a0.size) 3000 : Int).toNat a0.size := by simp [ByteArray.size_extract]
  have hTs : (a1.extract 0 (min (↑a1.size) 3000 : Int).toNat).size ≤ 3000 := by rw [ByteArray.size_extract]; omega
  obtain ⟨c, hc, hcS⟩ : ∃ c : Nat, min (max a2 0) ((min (min (↑a0.size) 3000 : Int).toNat a0.size : Nat) : Int) = (c : Int) ∧ c ≤ (a0.extract 0 (min (↑a0.size) 3000 : Int).toNat).size :=
    ⟨(min (max a2 0) ((min (min (↑a0.size) 3000 : Int).toNat a0.size : Nat) : Int)).toNat, by omega, by rw [hSs]; omega⟩
  have hS3 : (a0.extract 0 (min (↑a0.size) 3000 : Int).toNat).size ≤ 3000 := by rw [hSs]; omega
  rw [hc]
  clear hc hSs
  generalize a0.extract 0 (min (↑a0.size) 3000 : Int).toNat = S at *
  generalize a1.extract 0 (min (↑a1.size) 3000 : Int).toNat = T at *
  have hB0 := hB.size
  obtain ⟨i0, hi, hz0, hz1, hz2⟩ := info_parts info3
  go_loopw [7, 8] (fun v i wr => ∃ k : Nat, k ≤ S.size + 1 ∧ i = .int .i64 (k : Int) ∧ wr.ownsRow w.heap.size 3 1 v k ((List.range k).map fun j : Nat => Value.int .i64 (j : Int)) ∧ Below w.heap.size w wr) (fun _ i _ => S.size + 1 - (intOf i).toNat)
  case atStart => exact ⟨0, by omega, rfl, World.ownsRow_nil _ _ _ _, hB⟩
  case round =>
    clear hB
    obtain ⟨k, hk, rfl, hown, hbel⟩ := hrel
    have hsz := hbel.size
    by_cases hlt : k ≤ S.size
    · have hltI : (k : Int) ≤ (S.size : Int) := by omega
      go_wp2_with (first | (at_builtin; refine wpList_append_own _ rfl _ _ 23 rfl w.heap.size 3 i0 (.int .i64 0) 1 8 Tryd.underlying23 hi hz0 hz1 hz2 rfl (by decide) _ _ _ rfl (hown.alloc _) ⟨wr.heap.size, 0, none⟩ 1 1 [.int .i64 (k : Int)] rfl rfl ?c1 ?c2 ?c3 ?c4 ?c5 ?_))
      case c1 =>
        intro j u hj
        match j, hj with
        | 0, hj => simp at hj; subst hj; simp [Addr.add]
      case c2 => intro u hu; simp at hu; subst hu; rfl
      case c3 => unfold maxLen; omega
      case c4 => omega
      case c5 => simp; omega
      intro v' w1 hown' hgrow _
      have hb1 : Below w.heap.size w w1 := (hbel.alloc hsz _).grown hgrow (by simp; omega) (fun j hj => (hown.lt j hj).1)
      have ho1 : w1.ownsRow w.heap.size 3 1 v' (k + 1) ((List.range (k + 1)).map fun j : Nat => Value.int .i64 (j : Int)) := by rw [List.range_succ, List.map_append]; exact hown'
      clear hown' hgrow hown hbel hsz
      go_wp2_with fail
      go_roundw
      case rel => exact ⟨k + 1, by omega, by go_num, ho1, hb1⟩
      case measure => simp [intOf]; omega
    · obtain rfl : k = S.size + 1 := by omega
      obtain ⟨p, cp, rfl, hpc⟩ := own_form hown
      have hcall := places_any S (by omega) p (S.size + 1) cp (by omega) (fun j : Nat => (j : Int)) wr hpc
      clear hown hi hz0 hz1 hz2
      have hltI : ¬ ((S.size : Int) + 1) ≤ (S.size : Int) := by omega
      have hmaxS : S.size ≤ maxLen := by unfold maxLen; omega
      go_wp2_with fail
      refine hcall.mono ?_
      rintro e w1 ⟨rfl, b1, r1⟩
      have B1 := hbel.trans (b1.mono hsz)
      have hz1 := B1.size
      have hr1 := r1.lt
      have hcz : (S.extract 0 c).size = c := by rw [ByteArray.size_extract]; omega
      have hST : (S.extract 0 c ++ T).size ≤ 1000000 := by rw [ByteArray.size_append, hcz]; omega
      have ra : IRow (w1.alloc (.cells #[.int .i64 (c : Int)] 3)) w1.heap.size 3 (fun _ => (c : Int)) 1 := heap_alloc_new w1 _
      have hcall2 := places_any (S.extract 0 c ++ T) hST (some ⟨w1.heap.size, 0, none⟩) 1 1 (by omega) (fun _ => (c : Int)) (w1.alloc (.cells #[.int .i64 (c : Int)] 3)) (.inr ⟨_, rfl, ra.lt, fun j hj => by
        obtain rfl : j = 0 := by omega
        have ha : (⟨w1.heap.size, 0, none⟩ : Addr).add 0 = ⟨w1.heap.size, 0, none⟩ := by unfold Addr.add; simp
        rw [ha]; exact ra.cell 0 (by omega)⟩)
      have hzz : (w1.alloc (.cells #[.int .i64 (c : Int)] 3)).heap.size = w1.heap.size + 1 := by simp
      rw [hzz] at hcall2
      have HW : Hid (∀ k, k ≤ S.size → want S (fun j : Nat => (j : Int)) k = place S.data.toList k) := fun k hk => want_id S k hk
      have HM : Hid (want (S.extract 0 c ++ T) (fun _ => (c : Int)) 0 = place S.data.toList c) := by
        show _ = _
        unfold want
        have hcl : clampN (c : Int) (S.extract 0 c ++ T).size = c := by
          have : c ≤ (S.extract 0 c ++ T).size := by rw [ByteArray.size_append, hcz]; omega
          unfold clampN clampI; omega
        rw [hcl, place_cut S T c hcS]
      clear hcall ra b1 hbel hsz hpc hzz
      go_wp2_with fail
      refine hcall2.mono ?_
      rintro e w2 ⟨rfl, b2, r2⟩
      have B2 := (B1.alloc hz1 _).trans (b2.mono (by omega))
      have r3 : IRow w2 (wr.heap.size + 1) 27 (posf (want S (fun j : Nat => (j : Int)))) ((S.size + 1) * 2) := r1.kept ((b2.block _ (by omega)).trans (Below.heap_alloc _ _ _ hr1))
      have q0 : w2.cell? ⟨w1.heap.size + 2, 0, none⟩ = some (.int .i64 (place S.data.toList c).1) := by
        have := r2.cell 0 (by omega)
        rw [show posf (want (S.extract 0 c ++ T) (fun _ => (c : Int))) 0 = (want (S.extract 0 c ++ T) (fun _ => (c : Int)) 0).1 from rfl, HM.out] at this
        exact this
      have q1 : w2.cell? ⟨w1.heap.size + 2, 1, none⟩ = some (.int .i64 (place S.data.toList c).2) := by
        have := r2.cell 1 (by omega)
        rw [show posf (want (S.extract 0 c ++ T) (fun _ => (c : Int))) 1 = (want (S.extract 0 c ++ T) (fun _ => (c : Int)) 0).2 from rfl, HM.out] at this
        exact this
      have lc0 : ∀ k, k ≤ S.size → w2.cell? ⟨wr.heap.size + 1, k * 2, none⟩ = some (.int .i64 (place S.data.toList k).1) := fun k hk => by
        have := r3.cell (k * 2) (by omega)
        rw [this]
        have h1 : k * 2 % 2 = 0 := by omega
        have h2 : k * 2 / 2 = k := by omega
        simp only [posf, h1, h2, if_true]
        rw [HW.out k hk]
      have lc1 : ∀ k, k ≤ S.size → w2.cell? ⟨wr.heap.size + 1, k * 2 + 1, none⟩ = some (.int .i64 (place S.data.toList k).2) := fun k hk => by
        have := r3.cell (k * 2 + 1) (by omega)
        rw [this]
        have h1 : ¬ (k * 2 + 1) % 2 = 0 := by omega
        have h2 : (k * 2 + 1) / 2 = k := by omega
        simp only [posf, h1, h2, if_false]
        rw [HW.out k hk]
      clear HM HW r1 r2 r3 b2 hcall2 B1
      have L0 : Hid _ := lc0
      have L1 : Hid _ := lc1
      have s0 := lc0 c hcS
      have s1 := lc1 c hcS
      have z0 : w2.cell? ⟨wr.heap.size + 1, 0, none⟩ = some (.int .i64 1) := lc0 0 (by omega)
      have z1 : w2.cell? ⟨wr.heap.size + 1, 1, none⟩ = some (.int .i64 1) := lc1 0 (by omega)
      clear lc0 lc1
      generalize place S.data.toList c = pc at *
      obtain ⟨pa, pb⟩ := pc
      have i0 : (0 : Int) ≤ (c : Int) := by omega
      have i1 : (c : Int) < (S.size : Int) + 1 := by omega
      go_wp2_with fail
      go_quiet (fail)
      clear s0 s1 z0 z1 q0 q1 i0 i1
      generalize wr.heap.size + 1 = A at *
      go_wp2_with fail
      go_loopw [11, 12] (fun i _ w3 => ∃ k q : Nat, k ≤ S.size ∧ i = .int .i64 ((k : Int) + 1) ∧ w3 = w2.drewN q) (fun i _ _ => S.size + 1 - (intOf i).toNat)
      case atStart => exact ⟨0, _, by omega, rfl, rfl⟩
      case round =>
        obtain ⟨k, q, hk, rfl, rfl⟩ := hrel
        by_cases hlt : k < S.size
        · have c1 := L0.out (k + 1) (by omega)
          have c2 := L1.out (k + 1) (by omega)
          have c3 := L0.out k (by omega)
          have c4 := L1.out k (by omega)
          have hps := place_byte S k hlt
          have hbd := place_line_pos S.data.toList k
          rw [hps] at c1 c2
          clear hps
          generalize place S.data.toList k = pk at *
          obtain ⟨a, b⟩ := pk
          simp only at hbd c3 c4
          obtain ⟨x1, x2, x3, x4⟩ := hbd
          have i0 : (0 : Int) ≤ (k : Int) := by omega
          have i1 : (k : Int) < (S.size : Int) := by omega
          have i2 : (k : Int) + 1 < (S.size : Int) + 1 := by omega
          by_cases h10 : S[k].toNat = 10
          · have h10I : (S[k].toNat : Int) = 10 := by omega
            unfold stepP at c1 c2
            rw [if_pos h10] at c1 c2
            clear h10
            go_wp2_with fail
            go_quiet (fail)
            go_wp2_with fail
            go_roundw
            case rel => exact ⟨k + 1, _, by omega, by go_num, rfl⟩
            case measure => simp [intOf]; omega
          · have h10I : ((S[k].toNat : Int) == 10) = false := by simp; omega
            unfold stepP at c1 c2
            rw [if_neg h10] at c1 c2
            clear h10
            go_wp2_with fail
            go_quiet (fail)
            go_wp2_with fail
            go_roundw
            case rel => exact ⟨k + 1, _, by omega, by go_num, rfl⟩
            case measure => simp [intOf]; omega
        · have i2 : ¬ (k : Int) + 1 < (S.size : Int) + 1 := by omega
          go_wp2_with fail
          go_ret
          exact ⟨rfl, B2.trans ((below_drewN _ q).mono B2.size)⟩
end Go.Proofs.YtnoedlcdcoeokaaDoor
