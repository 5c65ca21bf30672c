import Derived.Test.YtlljelfplffglabDoorHUn
import Derived.Test.YtlljelfplffglabDoorSRow
import Derived.Lib.MakeNoZero
/-! bytes.Repeat of one byte. -/
namespace Go.Proofs.YtlljelfplffglabDoor.H
open Go.RowKit Go.Shelf
open Go.Proofs
open Go.Proofs.YtlljelfplffglabDoor.K
set_option linter.unusedVariables false
set_option linter.unusedSimpArgs false
set_option maxHeartbeats 2000000
set_option maxRecDepth 100000
theorem sizeB : (Tryd.prog.info? 5).map (·.size) = some 1 := by kernel_rfl
theorem repl_cells (c : UInt8) (n : Nat) (j : Nat) (v : Value) (h : (List.replicate n (Value.int .u8 (c.toNat : Int)))[j]? = some v) : j < n ∧ v = .int .u8 (c.toNat : Int) := by
  have hj := (List.getElem?_eq_some_iff.1 h).1
  rw [List.length_replicate] at hj
  rw [List.getElem?_replicate, if_pos hj] at h
  exact ⟨hj, (Option.some.inj h).symm⟩
theorem repeat_any (v : Value) (c : UInt8) (n : Nat) (h1 : 1 ≤ n) (h2 : n ≤ 256) (w : World) (h : Sl w v [c]) :
    Calls Tryd.prog 20 #[v, .int .i64 (n : Int)] w fun e w' => ∃ p c', e = .returned (.slice p n c') ∧ Sl w' (.slice p n c') (List.replicate n c) ∧ Below w.heap.size w w' := by
  rcases h with ⟨_, h⟩ | ⟨x, cc, rfl, _, hc⟩
  · cases h
  have hc0 := hc 0 c rfl
  obtain ⟨cs, hrun, hle, _⟩ := Lib.run_makeNoZero (P := Tryd.prog) w #[3] 23 5 Tryd.underlying23 n (by omega)
  have hcall : (callFunc 39 #[.int .i64 (n : Int)]).run Tryd.prog w = .ok (.value (.slice (some ⟨w.heap.size, 0, none⟩) n cs.size)) (w.drew.drew.alloc (.cells cs 5)) := by
    rw [run_callFunc_extern Tryd.func39 (by kernel_rfl) (by kernel_rfl) (by kernel_rfl) (e := Extern.BytealgMakeNoZero.makeNoZero #[3] #[23]) (by kernel_rfl), hrun]
    rfl
  obtain ⟨W0, hW0⟩ : ∃ W0, w.drew.drew.alloc (.cells cs 5) = W0 := ⟨_, rfl⟩
  rw [hW0] at hcall
  have hb0 : Below w.heap.size w W0 := by rw [← hW0]; exact (show Below w.heap.size w w.drew.drew from ⟨rfl, rfl, rfl, Nat.le_refl _, fun _ _ => rfl⟩).alloc (Nat.le_refl _) _
  have hg0 : W0.heap[w.heap.size]? = some (.cells cs 5 (0, 0)) := by rw [← hW0]; exact heap_alloc_new w.drew.drew _
  have hx := World.block_lt_of_cell? w _ hc0
  have hc1 : W0.cell? (x.add 0) = some (.int .u8 (c.toNat : Int)) := (hb0.cell hx).trans hc0
  have hcp := S.run_copy_rows (P := Tryd.prog) W0 23 23 3 5 w.heap.size 0 n n 1 x 1 cc cs 5 [.int .u8 (c.toNat : Int)] Tryd.underlying23 sizeB hg0 (by rw [show Nat.min 1 n = 1 from Nat.min_eq_left h1]; rfl) (fun j v hj => by
    obtain ⟨hj1, rfl⟩ := repl_cells c 1 j v hj
    obtain rfl : j = 0 := by omega
    exact hc1) (by simp; omega) (by intro v hv; simp at hv; subst hv; rfl)
  rw [show Nat.min 1 n = 1 from Nat.min_eq_left h1] at hcp
  have hmul := Tryd.bits_Mul 1 n (by omega) (by omega) w
  rw [show 1 * n / 18446744073709551616 = 0 by omega, show 1 * n % 18446744073709551616 = n by omega] at hmul
  have k1 : ¬ (n : Int) = 0 := by omega
  have k2 : ¬ (n : Int) < 0 := by omega
  have k3 : (n : Int) ≤ 9223372036854775807 := by omega
  have k4 : (n : Int) ≤ 8192 := by omega
  have k5 : IntKind.u64.wrap (n : Int) = n := by simp [IntKind.wrap, IntKind.bits, IntKind.signed]; omega
  have k6 : IntKind.i64.wrap (n : Int) = n := by rw [IntKind.wrap_i64]; omega
  have k7 : (n : Int) ≤ cs.size := by omega
  obtain ⟨W1, hW1⟩ : ∃ W1, W0.setRow w.heap.size (cs.toList.take 0 ++ [Value.int .u8 (c.toNat : Int)] ++ cs.toList.drop (0 + [Value.int .u8 (c.toNat : Int)].length)).toArray = W1 := ⟨_, rfl⟩
  rw [hW1] at hcp
  have HW := hid (And.intro hb0 (And.intro hg0 hW1))
  clear hc0 hc1 hx hrun hg0 hb0 hW0 hW1 hc
  simp only [List.length_cons, List.length_nil, Nat.zero_add]
  go_enter Tryd.func20, Tryd.ntmps20
  go_wp2_with fail
  refine hmul.mono ?_
  rintro e w' ⟨rfl, hw'⟩
  obtain rfl := hw'.symm
  clear hmul
  go_wp2
  have hg1 : W1.heap[w.heap.size]? = some (.cells (Value.int .u8 (c.toNat : Int) :: cs.toList.drop 1).toArray 5 (0, 0)) := by
    have e := S.setRow_eq W0 w.heap.size cs.toList 5 (Value.int .u8 (c.toNat : Int) :: cs.toList.drop 1) (by simpa using HW.out.2.1)
    rw [← HW.out.2.2]
    simpa using e
  have hb1 : Below w.heap.size w W1 := by
    rw [← HW.out.2.2]
    refine HW.out.1.trans ⟨rfl, rfl, rfl, by simp [World.setRow], fun k hk => ?_⟩
    exact setRow_other _ _ _ _ (by omega)
  have HZ := hid (And.intro hg1 (And.intro hb1 hle))
  clear hg1 hb1 hcp hcall HW hle k7
  go_loopw [10] (fun i wr => ∃ (k : Nat) (cur : List Value), 1 ≤ k ∧ k ≤ n ∧ i = .int .i64 (k : Int) ∧ wr.heap[w.heap.size]? = some (.cells cur.toArray 5 (0, 0)) ∧ n ≤ cur.length ∧ cur.take k = List.replicate k (.int .u8 (c.toNat : Int)) ∧ Below w.heap.size w wr) (fun i _ => n - (intOf i).toNat)
  case atStart => exact ⟨1, _, by omega, by omega, rfl, HZ.out.1, by have := HZ.out.2.2; simp; omega, rfl, HZ.out.2.1⟩
  case round =>
    obtain ⟨k, cur, hk1, hk, rfl, hg, hcl, htk, hb⟩ := hrel
    by_cases hlt : k < n
    · have i1 : (k : Int) < n := by omega
      obtain ⟨m, hm⟩ : ∃ m, Nat.min k (n - k) = m := ⟨_, rfl⟩
      have hm1 : 1 ≤ m := by rw [← hm]; exact Nat.le_min.2 ⟨hk1, by omega⟩
      have hm2 : k + m ≤ n := by have := Nat.min_le_right k (n - k); rw [← hm]; show k + Nat.min k (n - k) ≤ n; have : Nat.min k (n - k) ≤ n - k := Nat.min_le_right _ _; omega
      have hm3 : m ≤ k := by rw [← hm]; exact Nat.min_le_left _ _
      have hcell : ∀ j, j < k → cur[j]? = some (.int .u8 (c.toNat : Int)) := fun j hj => by
        have : (cur.take k)[j]? = (List.replicate k (Value.int .u8 (c.toNat : Int)))[j]? := by rw [htk]
        rw [List.getElem?_take, if_pos hj, List.getElem?_replicate, if_pos hj] at this
        exact this
      obtain ⟨y0, hy0⟩ : ∃ y0, wr.drew = y0 := ⟨_, rfl⟩
      have hgy : y0.heap[w.heap.size]? = some (.cells cur.toArray 5 (0, 0)) := by rw [← hy0]; exact hg
      have hcp := S.run_copy_rows (P := Tryd.prog) y0 23 23 3 5 w.heap.size k (n - k) (n - k) 1 ⟨w.heap.size, 0, none⟩ k n cur.toArray 5 (List.replicate m (.int .u8 (c.toNat : Int))) Tryd.underlying23 sizeB hgy (by rw [List.length_replicate, hm, Nat.mul_one]) (fun j v hj => by
        obtain ⟨hj1, rfl⟩ := repl_cells c m j v hj
        rw [Addr.add_lit, Nat.zero_add]
        exact S.cell_of _ _ _ cur 5 _ hgy (hcell j (by omega))) (by rw [List.length_replicate]; simp; omega) (by intro v hv; rw [List.eq_of_mem_replicate hv]; rfl)
      rw [hm] at hcp
      obtain ⟨W2, hW2⟩ : ∃ W2, y0.setRow w.heap.size (cur.toArray.toList.take k ++ List.replicate m (Value.int .u8 (c.toNat : Int)) ++ cur.toArray.toList.drop (k + (List.replicate m (Value.int .u8 (c.toNat : Int))).length)).toArray = W2 := ⟨_, rfl⟩
      rw [hW2] at hcp
      have hg2 : W2.heap[w.heap.size]? = some (.cells (cur.take k ++ List.replicate m (Value.int .u8 (c.toNat : Int)) ++ cur.drop (k + m)).toArray 5 (0, 0)) := by
        have e := S.setRow_eq y0 w.heap.size cur 5 (cur.take k ++ List.replicate m (Value.int .u8 (c.toNat : Int)) ++ cur.drop (k + m)) hgy
        rw [← hW2]
        simpa using e
      have hb2 : Below w.heap.size w W2 := by
        rw [← hW2, ← hy0]
        refine (show Below w.heap.size w wr.drew from ⟨hb.os, hb.tape, hb.output, hb.size, hb.block⟩).trans ⟨rfl, rfl, rfl, by simp [World.setRow], fun k hk => ?_⟩
        exact setRow_other _ _ _ _ (by omega)
      have hln : n ≤ (cur.take k ++ List.replicate m (Value.int .u8 (c.toNat : Int)) ++ cur.drop (k + m)).length := by simp; omega
      have htk2 : (cur.take k ++ List.replicate m (Value.int .u8 (c.toNat : Int)) ++ cur.drop (k + m)).take (k + m) = List.replicate (k + m) (.int .u8 (c.toNat : Int)) := by
        rw [htk, List.replicate_append_replicate, List.take_append_of_le_length (by simp), List.take_of_length_le (by simp)]
      have z1 := fun W => slice_from W (some ⟨w.heap.size, 0, none⟩) n n k (k : Int) rfl hk
      rw [if_neg (by omega), Option.map_some, Addr.add_lit, Nat.zero_add] at z1
      have z2 := fun W => slice_to W (some ⟨w.heap.size, 0, none⟩) n n k (k : Int) rfl hk
      have z3 : (if (n : Int) < (k : Int) then (n : Int) else (k : Int)) = (k : Int) := by rw [if_neg (by omega)]
      have z4 : IntKind.i64.wrap ((k : Int) + (m : Int)) = ((k + m : Nat) : Int) := by rw [IntKind.wrap_i64]; omega
      have z5 : min (k : Int) (n : Int) = (k : Int) := by omega
      have HE := hid (And.intro hg2 (And.intro hln (And.intro htk2 hb2)))
      clear hg2 hln htk2 hb2 hg htk hcell hcl hb hgy hW2 hm
      go_wp2_with fail
      refine wp_region_held_drew (S := (fun wz : World => True)) (by kernel_rfl) trivial (fun hHeld => ?_)
      rw [hy0]
      clear hy0
      refine wpAnyH_take (i := 0) (v := ?_) rfl (by kernel_rfl) (by kernel_rfl) (by kernel_rfl) (fun c a w h => h) (Or.inl ⟨by rfl, ?_⟩) hHeld ?_
      rotate_left
      · (intro w hSw; (try dsimp only at hSw); go_simp; try with_reducible rfl)
      simp only [Act.put, List.getElem_toArray, List.getElem_cons_zero, List.getElem_cons_succ, List.setIfInBounds_toArray, List.set_cons_zero, List.set_cons_succ]
      refine wpAnyH_take (i := 1) (v := ?_) rfl (by kernel_rfl) (by kernel_rfl) (by kernel_rfl) (fun c a w h => h) (Or.inl ⟨by rfl, ?_⟩) hHeld ?_
      rotate_left
      · (intro w hSw; (try dsimp only at hSw); go_simp; try with_reducible rfl)
      simp only [Act.put, List.getElem_toArray, List.getElem_cons_zero, List.getElem_cons_succ, List.setIfInBounds_toArray, List.set_cons_zero, List.set_cons_succ]
      refine wpAnyH_take (i := 2) (v := ?_) rfl (by kernel_rfl) (by kernel_rfl) (by kernel_rfl) (fun c a w h => h) (Or.inl ⟨by rfl, ?_⟩) hHeld ?_
      rotate_left
      · (intro w hSw; (try dsimp only at hSw); go_simp; try with_reducible rfl)
      simp only [Act.put, List.getElem_toArray, List.getElem_cons_zero, List.getElem_cons_succ, List.setIfInBounds_toArray, List.set_cons_zero, List.set_cons_succ]
      refine wpAnyH_take (i := 3) (v := ?_) rfl (by kernel_rfl) (by kernel_rfl) (by kernel_rfl) (fun c a w h => h) (Or.inl ⟨by rfl, ?_⟩) hHeld ?_
      rotate_left
      · (intro w hSw; (try dsimp only at hSw); go_simp; try with_reducible rfl)
      simp only [Act.put, List.getElem_toArray, List.getElem_cons_zero, List.getElem_cons_succ, List.setIfInBounds_toArray, List.set_cons_zero, List.set_cons_succ]
      refine wpAnyH_take (i := 4) (v := ?_) rfl (by kernel_rfl) (by kernel_rfl) (by kernel_rfl) (fun c a w h => h) (Or.inl ⟨by rfl, ?_⟩) hHeld ?_
      rotate_left
      · (intro w hSw; (try dsimp only at hSw); go_simp; try with_reducible rfl)
      simp only [Act.put, List.getElem_toArray, List.getElem_cons_zero, List.getElem_cons_succ, List.setIfInBounds_toArray, List.set_cons_zero, List.set_cons_succ]
      refine wpAnyH_take (i := 5) (v := ?_) rfl (by kernel_rfl) (by kernel_rfl) (by kernel_rfl) (fun c a w h => h) (Or.inl ⟨by rfl, ?_⟩) hHeld ?_
      rotate_left
      · (intro w hSw; (try dsimp only at hSw); go_simp; try with_reducible rfl)
      simp only [Act.put, List.getElem_toArray, List.getElem_cons_zero, List.getElem_cons_succ, List.setIfInBounds_toArray, List.set_cons_zero, List.set_cons_succ]
      refine wpAnyH_take (i := 6) (v := ?_) rfl (by kernel_rfl) (by kernel_rfl) (by kernel_rfl) (fun c a w h => h) (Or.inl ⟨by rfl, ?_⟩) hHeld ?_
      rotate_left
      · (intro w hSw; (try dsimp only at hSw); go_simp; try with_reducible rfl)
      simp only [Act.put, List.getElem_toArray, List.getElem_cons_zero, List.getElem_cons_succ, List.setIfInBounds_toArray, List.set_cons_zero, List.set_cons_succ]
      refine wpAnyH_ready (rs := [7]) (by kernel_rfl) (by simp) ?_
      refine AllReadyH.cons rfl (fun K hK => ?_) AllReadyH.nil
      go_simp
      refine hK.out _ _ trivial (fun hHeld => ?_)
      clear hK K
      try simp only [Act.put, List.getElem_toArray, List.getElem_cons_zero, List.getElem_cons_succ, List.setIfInBounds_toArray, List.set_cons_zero, List.set_cons_succ]
      refine wpAnyH_take (i := 8) (v := ?_) rfl (by kernel_rfl) (by kernel_rfl) (by kernel_rfl) (fun c a w h => h) (Or.inl ⟨by rfl, ?_⟩) hHeld ?_
      rotate_left
      · (intro w hSw; (try dsimp only at hSw); go_simp; try with_reducible rfl)
      simp only [Act.put, List.getElem_toArray, List.getElem_cons_zero, List.getElem_cons_succ, List.setIfInBounds_toArray, List.set_cons_zero, List.set_cons_succ]
      refine wpAnyH_take (i := 9) (v := ?_) rfl (by kernel_rfl) (by kernel_rfl) (by kernel_rfl) (fun c a w h => h) (Or.inl ⟨by rfl, ?_⟩) hHeld ?_
      rotate_left
      · (intro w hSw; (try dsimp only at hSw); go_simp; try with_reducible rfl)
      simp only [Act.put, List.getElem_toArray, List.getElem_cons_zero, List.getElem_cons_succ, List.setIfInBounds_toArray, List.set_cons_zero, List.set_cons_succ]
      refine wpAnyH_done (by kernel_rfl) ?_ _
      clear hcp z1 z2 z3 z4 z5 hHeld
      go_wp2
      go_roundw
      case rel => exact ⟨k + m, _, by omega, by omega, by go_num, HE.out.1, HE.out.2.1, HE.out.2.2.1, HE.out.2.2.2⟩
      case measure => simp [intOf]; omega
    · obtain rfl : k = n := by omega
      have hS : Sl wr (.slice (some ⟨w.heap.size, 0, none⟩) k k) (List.replicate k c) := by
        refine .inr ⟨⟨w.heap.size, 0, none⟩, k, by rw [List.length_replicate], by rw [List.length_replicate]; exact Nat.le_refl _, fun j b hj => ?_⟩
        have hj1 := (List.getElem?_eq_some_iff.1 hj).1
        rw [List.length_replicate] at hj1
        rw [List.getElem?_replicate, if_pos hj1] at hj
        cases hj
        rw [Addr.add_lit, Nat.zero_add]
        refine S.cell_of _ _ _ cur 5 _ hg ?_
        have : (cur.take k)[j]? = (List.replicate k (Value.int .u8 (c.toNat : Int)))[j]? := by rw [htk]
        rw [List.getElem?_take, if_pos hj1, List.getElem?_replicate, if_pos hj1] at this
        exact this
      have HE := hid (And.intro hS hb)
      clear hS hb hg htk hcl
      go_wp2
      go_ret
      exact ⟨_, _, rfl, HE.out.1, HE.out.2⟩
end Go.Proofs.YtlljelfplffglabDoor.H
