import Derived.Test.YtokhlcioekbjdaaKDrK
/-! The law's dressed. -/
namespace Go.Proofs.Ytokhlcioekbjdaa.K
open Go.RowKit
open Go.Proofs
open Go.Proofs.Ytokhlcioekbjdaa
open Go.Proofs.Ytokhlcioekbjdaa.T (size_list numE numC)
set_option linter.unusedVariables false
set_option linter.unusedSimpArgs false
set_option maxHeartbeats 1500000
set_option maxRecDepth 20000

/-- Two rows of bytes. -/
structure DB (w wr : World) (v1 v2 : Value) (l1 l2 : List UInt8) : Prop where
  r1 : RB wr w.heap.size v1 l1
  r2 : RB wr w.heap.size v2 l2
  apart : ∀ g, v1.ownBlock = some g → v2.ownBlock ≠ some g
  bel : Below w.heap.size w wr
theorem DB.start (w : World) : DB w w (.slice none 0 0) (.slice none 0 0) [] [] :=
  ⟨World.ownsRow_nil w _ _ _, World.ownsRow_nil w _ _ _, (fun g h => by cases h), Below.refl _ _⟩
theorem DB.below {w wr wq : World} {v1 v2 : Value} {l1 l2 : List UInt8} (h : DB w wr v1 v2 l1 l2) (k : Below wr.heap.size wr wq) : DB w wq v1 v2 l1 l2 :=
  ⟨h.r1.below k, h.r2.below k, h.apart, trB h.bel k h.bel.size⟩
theorem DB.put1 {w wr w4 : World} {v1 v2 v' : Value} {l1 l2 : List UInt8} {x : UInt8} (h : DB w wr v1 v2 l1 l2) (ho : w4.ownsRow w.heap.size 5 1 v' (l1.length + 1) (S.en eB l1 ++ eB x)) (hg : S.Grew wr w4 v1 v') : DB w w4 v' v2 (l1 ++ [x]) l2 := by
  refine ⟨?_, ?_, ?_, hg.belowAll (fun g e => (h.r1.lt g e).1) h.bel (Nat.le_refl _)⟩
  · unfold RB; rw [S.en_append, List.length_append]; simpa [S.en] using ho
  · exact S.own_kept h.r2 fun g hg2 hlt => hg.block g hlt fun e => h.apart g e.symm hg2
  · intro g e1 e2
    rcases hg.own with q | q
    · exact h.apart g (by rw [← q]; exact e1) e2
    · have h1 := q g e1
      have h2 := (h.r2.lt g e2).2
      omega
theorem DB.put2 {w wr w4 : World} {v1 v2 v' : Value} {l1 l2 : List UInt8} {x : UInt8} (h : DB w wr v1 v2 l1 l2) (ho : w4.ownsRow w.heap.size 5 1 v' (l2.length + 1) (S.en eB l2 ++ eB x)) (hg : S.Grew wr w4 v2 v') : DB w w4 v1 v' l1 (l2 ++ [x]) := by
  refine ⟨?_, ?_, ?_, hg.belowAll (fun g e => (h.r2.lt g e).1) h.bel (Nat.le_refl _)⟩
  · exact S.own_kept h.r1 fun g hg2 hlt => hg.block g hlt fun e => h.apart g hg2 e.symm
  · unfold RB; rw [S.en_append, List.length_append]; simpa [S.en] using ho
  · intro g e1 e2
    rcases hg.own with q | q
    · exact h.apart g e1 (by rw [← q]; exact e2)
    · have h1 := q g e2
      have h2 := (h.r1.lt g e1).2
      omega
theorem RB.conv_any {W : World} {B : Nat} {v : Value} {l : List UInt8} (h : RB W B v l) : (convert 41 9 v).run Try.prog W = .ok (.string ⟨l.toArray⟩) W := by
  have h' := h
  rcases h.2 with ⟨rfl, e⟩ | ⟨g, cap, cur, rfl, _⟩
  · have hl : l = [] := List.eq_nil_of_length_eq_zero e
    subst hl
    exact run_convert_bytes_nil W 41 5 Try.underlying41 Try.underlying5 0 0 9 Try.underlying9
  · exact h'.conv rfl
theorem cs_byte (W : World) (c : UInt8) : S.Cs (W.alloc (.cells #[.int .u8 (c.toNat : Int)] 5)) (.slice (some ⟨W.heap.size, 0, none⟩) 1 1) 1 1 (eB c) := cs_alloc W (eB c) 5 1 rfl (by intro v hv; simp [eB] at hv; subst hv; rfl)
theorem mk_list (l : List UInt8) : (⟨l.toArray⟩ : ByteArray).data.toList = l := by simp
theorem mk_size (l : List UInt8) : (⟨l.toArray⟩ : ByteArray).size = l.length := by show l.toArray.size = _; simp
/-- What dressed hands back. -/
structure Dr (w : World) (e : Ending) (w' : World) : Prop where
  out : ∃ A B : ByteArray, e = .returned (.tuple #[.string A, .string B]) ∧ Sep A.data.toList ∧ Sep B.data.toList ∧ A.size ≤ 24 ∧ B.size ≤ 24
  bel : Below w.heap.size w w'
theorem dr_of {w w' : World} {l1 l2 : List UInt8} (h1 : ∀ y ∈ l1, y.toNat ≠ 41) (h2 : ∀ y ∈ l2, y.toNat ≠ 10) (z1 : l1.length ≤ 20) (z2 : l2.length ≤ 20) (hb : Below w.heap.size w w') :
    Dr w (.returned (.tuple #[.string (((⟨#[32, 40, 32]⟩ : ByteArray) ++ ⟨l1.toArray⟩) ++ ⟨#[41]⟩), .string (((⟨#[9, 92, 32]⟩ : ByteArray) ++ ⟨l2.toArray⟩) ++ ⟨#[10]⟩)])) w' := by
  refine ⟨⟨_, _, rfl, ?_, ?_, ?_, ?_⟩, hb⟩
  · rw [app_list, app_list, mk_list]
    exact sep_comment 32 40 41 l1 (by decide) (by decide) (.inr ⟨rfl, rfl⟩) (fun y hy => h1 y hy)
  · rw [app_list, app_list, mk_list]
    exact sep_comment 9 92 10 l2 (by decide) (by decide) (.inl ⟨rfl, rfl⟩) (fun y hy => h2 y hy)
  · rw [app_size, app_size, mk_size]; show 3 + l1.length + 1 ≤ 24; omega
  · rw [app_size, app_size, mk_size]; show 3 + l2.length + 1 ≤ 24; omega
theorem dressed_any (r : ByteArray) (hr : r.size ≤ 140737488355328) (w : World) : Calls Try.prog 12 #[.string r] w fun e w' => Dr w e w' := by
  go_enter Try.func12, Try.ntmps12
  go_wp2_with fail
  go_loopw [4, 5, 6] (fun v1 v2 x wr => ∃ (k : Nat) (l1 l2 : List UInt8), x = .int .i64 (k : Int) ∧ k ≤ 20 ∧ k ≤ r.size ∧ l1.length ≤ k ∧ l2.length ≤ k ∧ (∀ y ∈ l1, y.toNat ≠ 41) ∧ (∀ y ∈ l2, y.toNat ≠ 10) ∧ DB w wr v1 v2 l1 l2) (fun _ _ x _ => 20 - (Lib.intOf x).toNat)
  case atStart => exact ⟨0, [], [], rfl, by omega, Nat.zero_le _, Nat.le_refl _, Nat.le_refl _, by simp, by simp, DB.start w⟩
  case round =>
    obtain ⟨k, l1, l2, rfl, hk, hkr, z1, z2, n1, n2, hD⟩ := hrel
    have HN1 := hid n1
    have HN2 := hid n2
    have HD := hid hD
    clear n1 n2 hD
    by_cases hlt : k < r.size ∧ k < 20
    case neg =>
      by_cases d1 : k < r.size
      · have d2 : decide ((k : Int) < 20) = false := decide_eq_false (by omega)
        have d3 : (k : Int) < (r.size : Int) := by omega
        have t1 : ¬ 9223372036854775807 < 3 + l1.length := by omega
        have t2 : ¬ 9223372036854775807 < 3 + l1.length + 1 := by omega
        have t3 : ¬ 9223372036854775807 < 3 + l2.length := by omega
        have t4 : ¬ 9223372036854775807 < 3 + l2.length + 1 := by omega
        have hs1 : (⟨l1.toArray⟩ : ByteArray).size ≤ 20 := by rw [mk_size]; omega
        have hs2 : (⟨l2.toArray⟩ : ByteArray).size ≤ 20 := by rw [mk_size]; omega
        have HDR := hid (HD.out.bel.drew)
        have s0 : (fun wz => (convert 41 9 u4).run Try.prog wz = .ok (.string ⟨l1.toArray⟩) wz ∧ (convert 41 9 u5).run Try.prog wz = .ok (.string ⟨l2.toArray⟩) wz) wr.drew := ⟨HD.out.r1.drew.conv_any, HD.out.r2.drew.conv_any⟩
        go_wp2_with fail
        refine wp_region_held_drew (S := (fun wz => (convert 41 9 u4).run Try.prog wz = .ok (.string ⟨l1.toArray⟩) wz ∧ (convert 41 9 u5).run Try.prog wz = .ok (.string ⟨l2.toArray⟩) wz)) (by kernel_rfl) s0 (fun hHeld => ?_)
        generalize hWd : wr.drew = Wd at *
        refine wpAnyH_take (i := 0) (v := ?_) rfl (by kernel_rfl) (by kernel_rfl) (by kernel_rfl) (fun c a w h => h) (Or.inl ⟨by rfl, ?_⟩) hHeld ?_
        rotate_left
        · (intro w hSw; (try dsimp only at hSw); go_simp; try with_reducible rfl)
        simp only [Act.put, List.getElem_toArray, List.getElem_cons_zero, List.getElem_cons_succ, List.setIfInBounds_toArray, List.set_cons_zero, List.set_cons_succ]
        refine wpAnyH_take (i := 1) (v := ?_) rfl (by kernel_rfl) (by kernel_rfl) (by kernel_rfl) (fun c a w h => h) (Or.inl ⟨by rfl, ?_⟩) hHeld ?_
        rotate_left
        · (intro w hSw; (try dsimp only at hSw); go_simp; try with_reducible rfl)
        simp only [Act.put, List.getElem_toArray, List.getElem_cons_zero, List.getElem_cons_succ, List.setIfInBounds_toArray, List.set_cons_zero, List.set_cons_succ]
        refine wpAnyH_take (i := 2) (v := ?_) rfl (by kernel_rfl) (by kernel_rfl) (by kernel_rfl) (fun c a w h => h) (Or.inl ⟨by rfl, ?_⟩) hHeld ?_
        rotate_left
        · (intro w hSw; (try dsimp only at hSw); go_simp; try with_reducible rfl)
        simp only [Act.put, List.getElem_toArray, List.getElem_cons_zero, List.getElem_cons_succ, List.setIfInBounds_toArray, List.set_cons_zero, List.set_cons_succ]
        refine wpAnyH_take (i := 3) (v := ?_) rfl (by kernel_rfl) (by kernel_rfl) (by kernel_rfl) (fun c a w h => h) (Or.inl ⟨by rfl, ?_⟩) hHeld ?_
        rotate_left
        · (intro w hSw; (try dsimp only at hSw); go_simp; try with_reducible rfl)
        simp only [Act.put, List.getElem_toArray, List.getElem_cons_zero, List.getElem_cons_succ, List.setIfInBounds_toArray, List.set_cons_zero, List.set_cons_succ]
        refine wpAnyH_take (i := 4) (v := ?_) rfl (by kernel_rfl) (by kernel_rfl) (by kernel_rfl) (fun c a w h => h) (Or.inl ⟨by rfl, ?_⟩) hHeld ?_
        rotate_left
        · (intro w hSw; (try dsimp only at hSw); go_simp; try with_reducible rfl)
        simp only [Act.put, List.getElem_toArray, List.getElem_cons_zero, List.getElem_cons_succ, List.setIfInBounds_toArray, List.set_cons_zero, List.set_cons_succ]
        refine wpAnyH_take (i := 5) (v := ?_) rfl (by kernel_rfl) (by kernel_rfl) (by kernel_rfl) (fun c a w h => h) (Or.inl ⟨by rfl, ?_⟩) hHeld ?_
        rotate_left
        · (intro w hSw; (try dsimp only at hSw); go_simp; try with_reducible rfl)
        simp only [Act.put, List.getElem_toArray, List.getElem_cons_zero, List.getElem_cons_succ, List.setIfInBounds_toArray, List.set_cons_zero, List.set_cons_succ]
        refine wpAnyH_take (i := 6) (v := ?_) rfl (by kernel_rfl) (by kernel_rfl) (by kernel_rfl) (fun c a w h => h) (Or.inl ⟨by rfl, ?_⟩) hHeld ?_
        rotate_left
        · (intro w hSw; (try dsimp only at hSw); go_simp; try with_reducible rfl)
        simp only [Act.put, List.getElem_toArray, List.getElem_cons_zero, List.getElem_cons_succ, List.setIfInBounds_toArray, List.set_cons_zero, List.set_cons_succ]
        refine wpAnyH_take (i := 7) (v := ?_) rfl (by kernel_rfl) (by kernel_rfl) (by kernel_rfl) (fun c a w h => h) (Or.inl ⟨by rfl, ?_⟩) hHeld ?_
        rotate_left
        · (intro w hSw; (try dsimp only at hSw); go_simp; try with_reducible rfl)
        simp only [Act.put, List.getElem_toArray, List.getElem_cons_zero, List.getElem_cons_succ, List.setIfInBounds_toArray, List.set_cons_zero, List.set_cons_succ]
        refine wpAnyH_take (i := 8) (v := ?_) rfl (by kernel_rfl) (by kernel_rfl) (by kernel_rfl) (fun c a w h => h) (Or.inl ⟨by rfl, ?_⟩) hHeld ?_
        rotate_left
        · (intro w hSw; (try dsimp only at hSw); go_simp; try with_reducible rfl)
        simp only [Act.put, List.getElem_toArray, List.getElem_cons_zero, List.getElem_cons_succ, List.setIfInBounds_toArray, List.set_cons_zero, List.set_cons_succ]
        refine wpAnyH_take (i := 9) (v := ?_) rfl (by kernel_rfl) (by kernel_rfl) (by kernel_rfl) (fun c a w h => h) (Or.inl ⟨by rfl, ?_⟩) hHeld ?_
        rotate_left
        · (intro w hSw; (try dsimp only at hSw); go_simp; try with_reducible rfl)
        simp only [Act.put, List.getElem_toArray, List.getElem_cons_zero, List.getElem_cons_succ, List.setIfInBounds_toArray, List.set_cons_zero, List.set_cons_succ]
        refine wpAnyH_done (by kernel_rfl) ?_ _
        clear hHeld
        try simp only [Act.put, List.getElem_toArray, List.getElem_cons_zero, List.getElem_cons_succ, List.setIfInBounds_toArray, List.set_cons_zero, List.set_cons_succ]
        go_wp2_with fail
        go_ret2
        exact dr_of HN1.out HN2.out (by omega) (by omega) HDR.out
      · have d2 : decide ((k : Int) < (r.size : Int)) = false := decide_eq_false (by omega)
        have t1 : ¬ 9223372036854775807 < 3 + l1.length := by omega
        have t2 : ¬ 9223372036854775807 < 3 + l1.length + 1 := by omega
        have t3 : ¬ 9223372036854775807 < 3 + l2.length := by omega
        have t4 : ¬ 9223372036854775807 < 3 + l2.length + 1 := by omega
        have hs1 : (⟨l1.toArray⟩ : ByteArray).size ≤ 20 := by rw [mk_size]; omega
        have hs2 : (⟨l2.toArray⟩ : ByteArray).size ≤ 20 := by rw [mk_size]; omega
        have HDR := hid (HD.out.bel.drew)
        have s0 : (fun wz => (convert 41 9 u4).run Try.prog wz = .ok (.string ⟨l1.toArray⟩) wz ∧ (convert 41 9 u5).run Try.prog wz = .ok (.string ⟨l2.toArray⟩) wz) wr.drew := ⟨HD.out.r1.drew.conv_any, HD.out.r2.drew.conv_any⟩
        go_wp2_with fail
        refine wp_region_held_drew (S := (fun wz => (convert 41 9 u4).run Try.prog wz = .ok (.string ⟨l1.toArray⟩) wz ∧ (convert 41 9 u5).run Try.prog wz = .ok (.string ⟨l2.toArray⟩) wz)) (by kernel_rfl) s0 (fun hHeld => ?_)
        generalize hWd : wr.drew = Wd at *
        refine wpAnyH_take (i := 0) (v := ?_) rfl (by kernel_rfl) (by kernel_rfl) (by kernel_rfl) (fun c a w h => h) (Or.inl ⟨by rfl, ?_⟩) hHeld ?_
        rotate_left
        · (intro w hSw; (try dsimp only at hSw); go_simp; try with_reducible rfl)
        simp only [Act.put, List.getElem_toArray, List.getElem_cons_zero, List.getElem_cons_succ, List.setIfInBounds_toArray, List.set_cons_zero, List.set_cons_succ]
        refine wpAnyH_take (i := 1) (v := ?_) rfl (by kernel_rfl) (by kernel_rfl) (by kernel_rfl) (fun c a w h => h) (Or.inl ⟨by rfl, ?_⟩) hHeld ?_
        rotate_left
        · (intro w hSw; (try dsimp only at hSw); go_simp; try with_reducible rfl)
        simp only [Act.put, List.getElem_toArray, List.getElem_cons_zero, List.getElem_cons_succ, List.setIfInBounds_toArray, List.set_cons_zero, List.set_cons_succ]
        refine wpAnyH_take (i := 2) (v := ?_) rfl (by kernel_rfl) (by kernel_rfl) (by kernel_rfl) (fun c a w h => h) (Or.inl ⟨by rfl, ?_⟩) hHeld ?_
        rotate_left
        · (intro w hSw; (try dsimp only at hSw); go_simp; try with_reducible rfl)
        simp only [Act.put, List.getElem_toArray, List.getElem_cons_zero, List.getElem_cons_succ, List.setIfInBounds_toArray, List.set_cons_zero, List.set_cons_succ]
        refine wpAnyH_take (i := 3) (v := ?_) rfl (by kernel_rfl) (by kernel_rfl) (by kernel_rfl) (fun c a w h => h) (Or.inl ⟨by rfl, ?_⟩) hHeld ?_
        rotate_left
        · (intro w hSw; (try dsimp only at hSw); go_simp; try with_reducible rfl)
        simp only [Act.put, List.getElem_toArray, List.getElem_cons_zero, List.getElem_cons_succ, List.setIfInBounds_toArray, List.set_cons_zero, List.set_cons_succ]
        refine wpAnyH_take (i := 4) (v := ?_) rfl (by kernel_rfl) (by kernel_rfl) (by kernel_rfl) (fun c a w h => h) (Or.inl ⟨by rfl, ?_⟩) hHeld ?_
        rotate_left
        · (intro w hSw; (try dsimp only at hSw); go_simp; try with_reducible rfl)
        simp only [Act.put, List.getElem_toArray, List.getElem_cons_zero, List.getElem_cons_succ, List.setIfInBounds_toArray, List.set_cons_zero, List.set_cons_succ]
        refine wpAnyH_take (i := 5) (v := ?_) rfl (by kernel_rfl) (by kernel_rfl) (by kernel_rfl) (fun c a w h => h) (Or.inl ⟨by rfl, ?_⟩) hHeld ?_
        rotate_left
        · (intro w hSw; (try dsimp only at hSw); go_simp; try with_reducible rfl)
        simp only [Act.put, List.getElem_toArray, List.getElem_cons_zero, List.getElem_cons_succ, List.setIfInBounds_toArray, List.set_cons_zero, List.set_cons_succ]
        refine wpAnyH_take (i := 6) (v := ?_) rfl (by kernel_rfl) (by kernel_rfl) (by kernel_rfl) (fun c a w h => h) (Or.inl ⟨by rfl, ?_⟩) hHeld ?_
        rotate_left
        · (intro w hSw; (try dsimp only at hSw); go_simp; try with_reducible rfl)
        simp only [Act.put, List.getElem_toArray, List.getElem_cons_zero, List.getElem_cons_succ, List.setIfInBounds_toArray, List.set_cons_zero, List.set_cons_succ]
        refine wpAnyH_take (i := 7) (v := ?_) rfl (by kernel_rfl) (by kernel_rfl) (by kernel_rfl) (fun c a w h => h) (Or.inl ⟨by rfl, ?_⟩) hHeld ?_
        rotate_left
        · (intro w hSw; (try dsimp only at hSw); go_simp; try with_reducible rfl)
        simp only [Act.put, List.getElem_toArray, List.getElem_cons_zero, List.getElem_cons_succ, List.setIfInBounds_toArray, List.set_cons_zero, List.set_cons_succ]
        refine wpAnyH_take (i := 8) (v := ?_) rfl (by kernel_rfl) (by kernel_rfl) (by kernel_rfl) (fun c a w h => h) (Or.inl ⟨by rfl, ?_⟩) hHeld ?_
        rotate_left
        · (intro w hSw; (try dsimp only at hSw); go_simp; try with_reducible rfl)
        simp only [Act.put, List.getElem_toArray, List.getElem_cons_zero, List.getElem_cons_succ, List.setIfInBounds_toArray, List.set_cons_zero, List.set_cons_succ]
        refine wpAnyH_take (i := 9) (v := ?_) rfl (by kernel_rfl) (by kernel_rfl) (by kernel_rfl) (fun c a w h => h) (Or.inl ⟨by rfl, ?_⟩) hHeld ?_
        rotate_left
        · (intro w hSw; (try dsimp only at hSw); go_simp; try with_reducible rfl)
        simp only [Act.put, List.getElem_toArray, List.getElem_cons_zero, List.getElem_cons_succ, List.setIfInBounds_toArray, List.set_cons_zero, List.set_cons_succ]
        refine wpAnyH_done (by kernel_rfl) ?_ _
        clear hHeld
        try simp only [Act.put, List.getElem_toArray, List.getElem_cons_zero, List.getElem_cons_succ, List.setIfInBounds_toArray, List.set_cons_zero, List.set_cons_succ]
        go_wp2_with fail
        go_ret2
        exact dr_of HN1.out HN2.out (by omega) (by omega) HDR.out
    obtain ⟨hkr2, hk20⟩ := hlt
    have i1 : (k : Int) < (r.size : Int) := by omega
    have i2 : (k : Int) < 20 := by omega
    have hm1 : ∀ (c : UInt8), c.toNat ≠ 41 → ∀ y ∈ l1 ++ [c], y.toNat ≠ 41 := fun c hc y hy => by
      rcases List.mem_append.1 hy with hy | hy
      · exact HN1.out y hy
      · simp at hy; subst hy; exact hc
    have hm2 : ∀ (c : UInt8), c.toNat ≠ 10 → ∀ y ∈ l2 ++ [c], y.toNat ≠ 10 := fun c hc y hy => by
      rcases List.mem_append.1 hy with hy | hy
      · exact HN2.out y hy
      · simp at hy; subst hy; exact hc
    have HM1 := hid hm1
    have HM2 := hid hm2
    clear hm1 hm2
    by_cases c41 : r[k].toNat = 41
    · have b1 : ((r[k].toNat : Int) == 41) = true := by simp; omega
      have b2 : ((r[k].toNat : Int) != 41) = false := by simp; omega
      have b3 : decide ((r[k].toNat : Int) = 41) = true := decide_eq_true (by omega)
      have e10 : ¬ (r[k].toNat : Int) = 10 := by omega
      have c10 : r[k].toNat ≠ 10 := by omega
      clear c41
      have hal2 := bel_alloc wr (.cells #[.int .u8 (r[k].toNat : Int)] 5)
      have hX2 := HD.out.below hal2
      have hwz2 := hX2.bel.size
      have hend2 : ∀ v4 w4, w4.ownsRow w.heap.size 5 1 v4 (l2.length + 1) (S.en eB l2 ++ eB r[k]) → S.Grew (wr.alloc (.cells #[.int .u8 (r[k].toNat : Int)] 5)) w4 u5 v4 → _ := fun v4 w4 ho hg => hX2.put2 ho hg
      have hrow2 := hX2.r2
      have HE2 := hid hend2
      have hcs2 := cs_byte wr r[k]
      clear hend2 hX2
      go_wp2_with (first | (at_builtin; refine S.wpList_append_row _ rfl (.tmp 31) (.tmp 35) 41 5 (.int .u8 0) 1 1 Try.underlying41 infoU rfl (by decide) rfl w.heap.size u5 l2.length (S.en eB l2) rfl hrow2 _ 1 (eB r[k]) rfl hcs2 (by unfold S.room; omega) (by unfold maxLen; omega) hwz2 ?_))
      intro v4_2 w4_2 ho_2 hg_2
      have HD := hid (HE2.out v4_2 w4_2 ho_2 hg_2)
      clear HE2 hcs2 hrow2 ho_2 hg_2 hal2 hwz2
      go_wp2_with fail
      go_roundw
      case rel => exact ⟨k + 1, l1, l2 ++ [r[k]], by simp, by omega, by omega, by omega, by simp; omega, HN1.out, HM2.out _ c10, HD.out⟩
      case measure => simp only [Lib.intOf]; omega
    · have e41 : ¬ (r[k].toNat : Int) = 41 := by omega
      by_cases c10 : r[k].toNat = 10
      · have b1 : ((r[k].toNat : Int) == 10) = true := by simp; omega
        have b2 : ((r[k].toNat : Int) != 10) = false := by simp; omega
        have b3 : decide ((r[k].toNat : Int) = 10) = true := decide_eq_true (by omega)
        clear c10
        have hal1 := bel_alloc wr (.cells #[.int .u8 (r[k].toNat : Int)] 5)
        have hX1 := HD.out.below hal1
        have hwz1 := hX1.bel.size
        have hend1 : ∀ v4 w4, w4.ownsRow w.heap.size 5 1 v4 (l1.length + 1) (S.en eB l1 ++ eB r[k]) → S.Grew (wr.alloc (.cells #[.int .u8 (r[k].toNat : Int)] 5)) w4 u4 v4 → _ := fun v4 w4 ho hg => hX1.put1 ho hg
        have hrow1 := hX1.r1
        have HE1 := hid hend1
        have hcs1 := cs_byte wr r[k]
        clear hend1 hX1
        go_wp2_with (first | (at_builtin; refine S.wpList_append_row _ rfl (.tmp 21) (.tmp 25) 41 5 (.int .u8 0) 1 1 Try.underlying41 infoU rfl (by decide) rfl w.heap.size u4 l1.length (S.en eB l1) rfl hrow1 _ 1 (eB r[k]) rfl hcs1 (by unfold S.room; omega) (by unfold maxLen; omega) hwz1 ?_))
        intro v4_1 w4_1 ho_1 hg_1
        have HD := hid (HE1.out v4_1 w4_1 ho_1 hg_1)
        clear HE1 hcs1 hrow1 ho_1 hg_1 hal1 hwz1
        go_wp2_with fail
        go_roundw
        case rel => exact ⟨k + 1, l1 ++ [r[k]], l2, by simp, by omega, by omega, by simp; omega, by omega, HM1.out _ c41, HN2.out, HD.out⟩
        case measure => simp only [Lib.intOf]; omega
      · have e10 : ¬ (r[k].toNat : Int) = 10 := by omega
        have hal1 := bel_alloc wr (.cells #[.int .u8 (r[k].toNat : Int)] 5)
        have hX1 := HD.out.below hal1
        have hwz1 := hX1.bel.size
        have hend1 : ∀ v4 w4, w4.ownsRow w.heap.size 5 1 v4 (l1.length + 1) (S.en eB l1 ++ eB r[k]) → S.Grew (wr.alloc (.cells #[.int .u8 (r[k].toNat : Int)] 5)) w4 u4 v4 → _ := fun v4 w4 ho hg => hX1.put1 ho hg
        have hrow1 := hX1.r1
        have HE1 := hid hend1
        have hcs1 := cs_byte wr r[k]
        clear hend1 hX1
        go_wp2_with (first | (at_builtin; refine S.wpList_append_row _ rfl (.tmp 21) (.tmp 25) 41 5 (.int .u8 0) 1 1 Try.underlying41 infoU rfl (by decide) rfl w.heap.size u4 l1.length (S.en eB l1) rfl hrow1 _ 1 (eB r[k]) rfl hcs1 (by unfold S.room; omega) (by unfold maxLen; omega) hwz1 ?_))
        intro v4_1 w4_1 ho_1 hg_1
        have HD := hid (HE1.out v4_1 w4_1 ho_1 hg_1)
        clear HE1 hcs1 hrow1 ho_1 hg_1 hal1 hwz1
        have hal2 := bel_alloc w4_1 (.cells #[.int .u8 (r[k].toNat : Int)] 5)
        have hX2 := HD.out.below hal2
        have hwz2 := hX2.bel.size
        have hend2 : ∀ v4 w4, w4.ownsRow w.heap.size 5 1 v4 (l2.length + 1) (S.en eB l2 ++ eB r[k]) → S.Grew (w4_1.alloc (.cells #[.int .u8 (r[k].toNat : Int)] 5)) w4 u5 v4 → _ := fun v4 w4 ho hg => hX2.put2 ho hg
        have hrow2 := hX2.r2
        have HE2 := hid hend2
        have hcs2 := cs_byte w4_1 r[k]
        clear hend2 hX2
        go_wp2_with (first | (at_builtin; refine S.wpList_append_row _ rfl (.tmp 31) (.tmp 35) 41 5 (.int .u8 0) 1 1 Try.underlying41 infoU rfl (by decide) rfl w.heap.size u5 l2.length (S.en eB l2) rfl hrow2 _ 1 (eB r[k]) rfl hcs2 (by unfold S.room; omega) (by unfold maxLen; omega) hwz2 ?_))
        intro v4_2 w4_2 ho_2 hg_2
        have HD := hid (HE2.out v4_2 w4_2 ho_2 hg_2)
        clear HE2 hcs2 hrow2 ho_2 hg_2 hal2 hwz2
        go_wp2_with fail
        go_roundw
        case rel => exact ⟨k + 1, l1 ++ [r[k]], l2 ++ [r[k]], by simp, by omega, by omega, by simp; omega, by simp; omega, HM1.out _ c41, HM2.out _ c10, HD.out⟩
        case measure => simp only [Lib.intOf]; omega
end Go.Proofs.Ytokhlcioekbjdaa.K
