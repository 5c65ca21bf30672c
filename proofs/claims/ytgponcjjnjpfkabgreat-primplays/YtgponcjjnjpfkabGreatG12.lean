import Derived.Test.YtgponcjjnjpfkabGreatG11
/-! The law's near. -/
namespace Go.Proofs.YtgponcjjnjpfkabGreat.L
open Go.RowKit
open Go.Proofs
open P
set_option linter.unusedVariables false
set_option linter.unusedSimpArgs false
set_option maxHeartbeats 20000000
set_option maxRecDepth 100000
theorem bdNn {B : Nat} (W : World) (q : Nat) (h : B ≤ W.heap.size) : Below B W (W.drewN q) := ⟨rfl, rfl, rfl, Nat.le_refl _, fun _ _ => rfl⟩
theorem u16_inc (z : Int) : IntKind.u16.wrap (z + 1) = (z + 1) % 65536 := by simp [IntKind.wrap, IntKind.bits, IntKind.signed]
theorem msrN (n : Nat) (a b : Value) (k : Nat) (ha : a = .int .i64 ((k + 1 : Nat) : Int)) (hb : b = .int .i64 (k : Int)) (h : k < n) : n - (intOf a).toNat < n - (intOf b).toNat := by
  subst ha hb; simp only [intOf, Int.toNat_natCast]; omega
theorem inc_n {n : Nat} (h : n < 1000) : wrap64 ((n : Int) + 1) = ((n + 1 : Nat) : Int) := by simp [wrap64]; omega
theorem port_at (W : World) (b k : Nat) (hk : k < 5) (h : W.heap[b]? = some (.cells [.int .u16 65280, .int .u16 65282, .int .u16 65284, .int .u16 65286, .int .u16 65288].toArray 31 (0, 0))) : ∃ z, C.C z ∧ W.cell? ⟨b, k, none⟩ = some (.int .u16 z) := by
  obtain rfl | rfl | rfl | rfl | rfl : k = 0 ∨ k = 1 ∨ k = 2 ∨ k = 3 ∨ k = 4 := by omega
  · exact ⟨65280, ⟨by decide, by decide⟩, S.cell_of W b 0 _ _ _ h rfl⟩
  · exact ⟨65282, ⟨by decide, by decide⟩, S.cell_of W b 1 _ _ _ h rfl⟩
  · exact ⟨65284, ⟨by decide, by decide⟩, S.cell_of W b 2 _ _ _ h rfl⟩
  · exact ⟨65286, ⟨by decide, by decide⟩, S.cell_of W b 3 _ _ _ h rfl⟩
  · exact ⟨65288, ⟨by decide, by decide⟩, S.cell_of W b 4 _ _ _ h rfl⟩
section
variable {W : World} {B g bd br bm bx bq bz : Nat} {F G : Nat → Prop} {ev qv : Value} {D : List Int} {R : List (Int × Int)} {m : M.MS}
theorem near_any (h : WW W B g bd br bm bx bq bz F G ev qv D R m) (ht : m.tones.length ≤ 1000000) (p : Option Addr) (c : Nat) (X : List Int) (hX : X.length ≤ 3) (hC : ∀ x ∈ X, C.C x) (hs : S.Sl S.eU 1 W p X) :
    Calls Tryz.prog 30 #[.pointer (some ⟨g, 0, none⟩), .slice p X.length c] W fun e w' => e = .returned (.bool true) ∧ Below W.heap.size W w' := by
  have H := S.hid h
  have HX := S.hid hs
  have HC := S.hid hC
  clear h hs hC
  go_enter Tryz.func30, Tryz.ntmps30
  go_wp2
  go_loopw [5] (fun i wr => ∃ k : Nat, k ≤ X.length ∧ i = .int .i64 (k : Int) ∧ Below W.heap.size W wr) (fun i _ => X.length - (intOf i).toNat)
  case atStart => exact ⟨0, Nat.zero_le _, rfl, Below.refl _ _⟩
  case round =>
    obtain ⟨k, hk, rfl, hB⟩ := hrel
    by_cases hlt : k < X.length
    · have d1 : decide ((k : Int) < (X.length : Int)) = true := decide_eq_true (by omega)
      have d1' : (k : Int) < (X.length : Int) := by omega
      have d2 : decide ((k : Int) < 4) = true := decide_eq_true (by omega)
      have w1' := inc_n (show k < 1000 by omega)
      obtain ⟨b, o, rfl, hx⟩ := HX.out.u k X[k] (List.getElem?_eq_getElem hlt)
      have hz := HC.out X[k] (List.getElem_mem hlt)
      generalize X[k] = z at *
      have hW := H.out.below hB
      obtain ⟨c0, c1, c2, c3, c4, c5⟩ := hW.c6
      have hxr := bcell hB hx
      have hSS : ∀ W', Below wr.heap.size wr W' → (fun w' : World => w'.cell? ⟨g, 2, none⟩ = some (.pointer (some ⟨bm, 0, none⟩)) ∧ w'.cell? ⟨g, 5, none⟩ = some (.pointer (some ⟨bz, 0, none⟩)) ∧ w'.cell? ⟨b, o + k, none⟩ = some (.int .u16 z)) W' := fun W' j => ⟨bcell j c2, bcell j c5, bcell j hxr⟩
      have hA := fun W' (j : Below wr.heap.size wr W') => M.cell_any bm z hz.1 hz.2 W' (hW.below j).p.m
      have hR := fun W' (j : Below wr.heap.size wr W') => M.rcell_any bz z hz.1 hz.2 W' (hW.below j).z
      have hA2 := fun W' (j : Below wr.heap.size wr W') => M.cell_any bm ((z + 1) % 65536) (by omega) (by omega) W' (hW.below j).p.m
      have hR2 := fun W' (j : Below wr.heap.size wr W') => M.rcell_any bz ((z + 1) % 65536) (by omega) (by omega) W' (hW.below j).z
      have s0 := hSS _ ((Below.refl _ wr).drew)
      have HB0 := S.hid ((Below.refl wr.heap.size wr).drew)
      have HS := S.hid hSS
      have HA := S.hid hA
      have HR := S.hid hR
      have HA2 := S.hid hA2
      have HR2 := S.hid hR2
      have HBr := S.hid hB
      have v1 := u16_inc z
      clear hSS hA hR hA2 hR2 hW hxr c0 c1 c2 c3 c4 c5 hx hB
      generalize M.cl m z = q1 at *
      generalize M.cl m ((z + 1) % 65536) = q2 at *
      go_upto_region 4 with fail
      try simp only [Act.put, List.getElem_toArray, List.getElem_cons_zero, List.getElem_cons_succ, List.setIfInBounds_toArray, List.set_cons_zero, List.set_cons_succ]
      refine wp_region_held_drew (S := (fun w' : World => w'.cell? ⟨g, 2, none⟩ = some (.pointer (some ⟨bm, 0, none⟩)) ∧ w'.cell? ⟨g, 5, none⟩ = some (.pointer (some ⟨bz, 0, none⟩)) ∧ w'.cell? ⟨b, o + k, none⟩ = some (.int .u16 z))) (by kernel_rfl) s0 (fun hHeld => ?_)
      clear s0
      refine wpAnyH_take (i := 0) (v := ?_) rfl (by kernel_rfl) (by kernel_rfl) (by kernel_rfl) (fun c a w h => h) (Or.inl ⟨by rfl, ?_⟩) hHeld ?_
      rotate_left
      · (intro w hSw; (try dsimp only at hSw); go_simp; try with_reducible rfl)
      simp only [Act.put, List.getElem_toArray, List.getElem_cons_zero, List.getElem_cons_succ, List.setIfInBounds_toArray, List.set_cons_zero, List.set_cons_succ]
      refine wpAnyH_take (i := 1) (v := ?_) rfl (by kernel_rfl) (by kernel_rfl) (by kernel_rfl) (fun c a w h => h) (Or.inl ⟨by rfl, ?_⟩) hHeld ?_
      rotate_left
      · (intro w hSw; (try dsimp only at hSw); go_simp; try with_reducible rfl)
      simp only [Act.put, List.getElem_toArray, List.getElem_cons_zero, List.getElem_cons_succ, List.setIfInBounds_toArray, List.set_cons_zero, List.set_cons_succ]
      refine wpAnyH_take (i := 2) (v := ?_) rfl (by kernel_rfl) (by kernel_rfl) (by kernel_rfl) (fun c a w h => h) (Or.inl ⟨by rfl, ?_⟩) hHeld ?_
      rotate_left
      · (intro w hSw; (try dsimp only at hSw); go_simp; try with_reducible rfl)
      simp only [Act.put, List.getElem_toArray, List.getElem_cons_zero, List.getElem_cons_succ, List.setIfInBounds_toArray, List.set_cons_zero, List.set_cons_succ]
      refine wpAnyH_take (i := 3) (v := ?_) rfl (by kernel_rfl) (by kernel_rfl) (by kernel_rfl) (fun c a w h => h) (Or.inl ⟨by rfl, ?_⟩) hHeld ?_
      rotate_left
      · (intro w hSw; (try dsimp only at hSw); go_simp; try with_reducible rfl)
      simp only [Act.put, List.getElem_toArray, List.getElem_cons_zero, List.getElem_cons_succ, List.setIfInBounds_toArray, List.set_cons_zero, List.set_cons_succ]
      refine wpAnyH_take (i := 4) (v := ?_) rfl (by kernel_rfl) (by kernel_rfl) (by kernel_rfl) (fun c a w h => h) (Or.inl ⟨by rfl, ?_⟩) hHeld ?_
      rotate_left
      · (intro w hSw; (try dsimp only at hSw); go_simp; try with_reducible rfl)
      simp only [Act.put, List.getElem_toArray, List.getElem_cons_zero, List.getElem_cons_succ, List.setIfInBounds_toArray, List.set_cons_zero, List.set_cons_succ]
      refine wpAnyH_take (i := 5) (v := ?_) rfl (by kernel_rfl) (by kernel_rfl) (by kernel_rfl) (fun c a w h => h) (Or.inl ⟨by rfl, ?_⟩) hHeld ?_
      rotate_left
      · (intro w hSw; (try dsimp only at hSw); go_simp; try with_reducible rfl)
      simp only [Act.put, List.getElem_toArray, List.getElem_cons_zero, List.getElem_cons_succ, List.setIfInBounds_toArray, List.set_cons_zero, List.set_cons_succ]
      refine wpAnyH_take (i := 6) (v := ?_) rfl (by kernel_rfl) (by kernel_rfl) (by kernel_rfl) (fun c a w h => h) (Or.inl ⟨by rfl, ?_⟩) hHeld ?_
      rotate_left
      · (intro w hSw; (try dsimp only at hSw); go_simp; try with_reducible rfl)
      simp only [Act.put, List.getElem_toArray, List.getElem_cons_zero, List.getElem_cons_succ, List.setIfInBounds_toArray, List.set_cons_zero, List.set_cons_succ]
      refine wpAnyH_take (i := 7) (v := ?_) rfl (by kernel_rfl) (by kernel_rfl) (by kernel_rfl) (fun c a w h => h) (Or.inl ⟨by rfl, ?_⟩) hHeld ?_
      rotate_left
      · (intro w hSw; (try dsimp only at hSw); go_simp; try with_reducible rfl)
      simp only [Act.put, List.getElem_toArray, List.getElem_cons_zero, List.getElem_cons_succ, List.setIfInBounds_toArray, List.set_cons_zero, List.set_cons_succ]
      refine wpAnyH_take (i := 9) (v := ?_) rfl (by kernel_rfl) (by kernel_rfl) (by kernel_rfl) (fun c a w h => h) (Or.inl ⟨by rfl, ?_⟩) hHeld ?_
      rotate_left
      · (intro w hSw; (try dsimp only at hSw); go_simp; try with_reducible rfl)
      simp only [Act.put, List.getElem_toArray, List.getElem_cons_zero, List.getElem_cons_succ, List.setIfInBounds_toArray, List.set_cons_zero, List.set_cons_succ]
      refine wpAnyH_take (i := 10) (v := ?_) rfl (by kernel_rfl) (by kernel_rfl) (by kernel_rfl) (fun c a w h => h) (Or.inl ⟨by rfl, ?_⟩) hHeld ?_
      rotate_left
      · (intro w hSw; (try dsimp only at hSw); go_simp; try with_reducible rfl)
      simp only [Act.put, List.getElem_toArray, List.getElem_cons_zero, List.getElem_cons_succ, List.setIfInBounds_toArray, List.set_cons_zero, List.set_cons_succ]
      refine wpAnyH_take (i := 11) (v := ?_) rfl (by kernel_rfl) (by kernel_rfl) (by kernel_rfl) (fun c a w h => h) (Or.inl ⟨by rfl, ?_⟩) hHeld ?_
      rotate_left
      · (intro w hSw; (try dsimp only at hSw); go_simp; try with_reducible rfl)
      simp only [Act.put, List.getElem_toArray, List.getElem_cons_zero, List.getElem_cons_succ, List.setIfInBounds_toArray, List.set_cons_zero, List.set_cons_succ]
      refine wpAnyH_take (i := 12) (v := ?_) rfl (by kernel_rfl) (by kernel_rfl) (by kernel_rfl) (fun c a w h => h) (Or.inl ⟨by rfl, ?_⟩) hHeld ?_
      rotate_left
      · (intro w hSw; (try dsimp only at hSw); go_simp; try with_reducible rfl)
      simp only [Act.put, List.getElem_toArray, List.getElem_cons_zero, List.getElem_cons_succ, List.setIfInBounds_toArray, List.set_cons_zero, List.set_cons_succ]
      refine wpAnyH_take (i := 13) (v := ?_) rfl (by kernel_rfl) (by kernel_rfl) (by kernel_rfl) (fun c a w h => h) (Or.inl ⟨by rfl, ?_⟩) hHeld ?_
      rotate_left
      · (intro w hSw; (try dsimp only at hSw); go_simp; try with_reducible rfl)
      simp only [Act.put, List.getElem_toArray, List.getElem_cons_zero, List.getElem_cons_succ, List.setIfInBounds_toArray, List.set_cons_zero, List.set_cons_succ]
      refine wpAnyH_take (i := 14) (v := ?_) rfl (by kernel_rfl) (by kernel_rfl) (by kernel_rfl) (fun c a w h => h) (Or.inl ⟨by rfl, ?_⟩) hHeld ?_
      rotate_left
      · (intro w hSw; (try dsimp only at hSw); go_simp; try with_reducible rfl)
      simp only [Act.put, List.getElem_toArray, List.getElem_cons_zero, List.getElem_cons_succ, List.setIfInBounds_toArray, List.set_cons_zero, List.set_cons_succ]
      refine wpAnyH_take (i := 15) (v := ?_) rfl (by kernel_rfl) (by kernel_rfl) (by kernel_rfl) (fun c a w h => h) (Or.inl ⟨by rfl, ?_⟩) hHeld ?_
      rotate_left
      · (intro w hSw; (try dsimp only at hSw); go_simp; try with_reducible rfl)
      simp only [Act.put, List.getElem_toArray, List.getElem_cons_zero, List.getElem_cons_succ, List.setIfInBounds_toArray, List.set_cons_zero, List.set_cons_succ]
      refine wpAnyH_take (i := 16) (v := ?_) rfl (by kernel_rfl) (by kernel_rfl) (by kernel_rfl) (fun c a w h => h) (Or.inl ⟨by rfl, ?_⟩) hHeld ?_
      rotate_left
      · (intro w hSw; (try dsimp only at hSw); go_simp; try with_reducible rfl)
      simp only [Act.put, List.getElem_toArray, List.getElem_cons_zero, List.getElem_cons_succ, List.setIfInBounds_toArray, List.set_cons_zero, List.set_cons_succ]
      refine wpAnyH_ready (rs := [8]) (by kernel_rfl) (by simp) ?_
      refine AllReadyH.cons rfl (fun K hK => ?_) AllReadyH.nil
      go_simp
      refine (HA.out _ HB0.out).mono ?_
      rintro e wa8 ⟨rfl, qq8, hw8⟩
      have HB8 := S.hid (show Below wr.heap.size wr wa8 by rw [hw8]; exact HB0.out.trans (bdNn _ _ HB0.out.size))
      have ss8 := HS.out _ HB8.out
      clear hw8
      refine hK.out _ _ ss8 (fun hHeld => ?_)
      clear hK K
      try simp only [Act.put, List.getElem_toArray, List.getElem_cons_zero, List.getElem_cons_succ, List.setIfInBounds_toArray, List.set_cons_zero, List.set_cons_succ]
      refine wpAnyH_ready (rs := [17]) (by kernel_rfl) (by simp) ?_
      refine AllReadyH.cons rfl (fun K hK => ?_) AllReadyH.nil
      go_simp
      refine (HR.out _ HB8.out).mono ?_
      rintro e wa17 ⟨rfl, hw17⟩
      have HB17 := S.hid (HB8.out.trans (hw17.mono HB8.out.size))
      have ss17 := HS.out _ HB17.out
      clear hw17
      refine hK.out _ _ ss17 (fun hHeld => ?_)
      clear hK K
      try simp only [Act.put, List.getElem_toArray, List.getElem_cons_zero, List.getElem_cons_succ, List.setIfInBounds_toArray, List.set_cons_zero, List.set_cons_succ]
      refine wpAnyH_take (i := 18) (v := ?_) rfl (by kernel_rfl) (by kernel_rfl) (by kernel_rfl) (fun c a w h => h) (Or.inl ⟨by rfl, ?_⟩) hHeld ?_
      rotate_left
      · (intro w hSw; (try dsimp only at hSw); go_simp; try with_reducible rfl)
      simp only [Act.put, List.getElem_toArray, List.getElem_cons_zero, List.getElem_cons_succ, List.setIfInBounds_toArray, List.set_cons_zero, List.set_cons_succ]
      refine wpAnyH_take (i := 19) (v := ?_) rfl (by kernel_rfl) (by kernel_rfl) (by kernel_rfl) (fun c a w h => h) (Or.inl ⟨by rfl, ?_⟩) hHeld ?_
      rotate_left
      · (intro w hSw; (try dsimp only at hSw); go_simp; try with_reducible rfl)
      simp only [Act.put, List.getElem_toArray, List.getElem_cons_zero, List.getElem_cons_succ, List.setIfInBounds_toArray, List.set_cons_zero, List.set_cons_succ]
      refine wpAnyH_take (i := 20) (v := ?_) rfl (by kernel_rfl) (by kernel_rfl) (by kernel_rfl) (fun c a w h => h) (Or.inl ⟨by rfl, ?_⟩) hHeld ?_
      rotate_left
      · (intro w hSw; (try dsimp only at hSw); go_simp; try with_reducible rfl)
      simp only [Act.put, List.getElem_toArray, List.getElem_cons_zero, List.getElem_cons_succ, List.setIfInBounds_toArray, List.set_cons_zero, List.set_cons_succ]
      refine wpAnyH_take (i := 21) (v := ?_) rfl (by kernel_rfl) (by kernel_rfl) (by kernel_rfl) (fun c a w h => h) (Or.inl ⟨by rfl, ?_⟩) hHeld ?_
      rotate_left
      · (intro w hSw; (try dsimp only at hSw); go_simp; try with_reducible rfl)
      simp only [Act.put, List.getElem_toArray, List.getElem_cons_zero, List.getElem_cons_succ, List.setIfInBounds_toArray, List.set_cons_zero, List.set_cons_succ]
      refine wpAnyH_take (i := 22) (v := ?_) rfl (by kernel_rfl) (by kernel_rfl) (by kernel_rfl) (fun c a w h => h) (Or.inl ⟨by rfl, ?_⟩) hHeld ?_
      rotate_left
      · (intro w hSw; (try dsimp only at hSw); go_simp; try with_reducible rfl)
      simp only [Act.put, List.getElem_toArray, List.getElem_cons_zero, List.getElem_cons_succ, List.setIfInBounds_toArray, List.set_cons_zero, List.set_cons_succ]
      refine wpAnyH_take (i := 23) (v := ?_) rfl (by kernel_rfl) (by kernel_rfl) (by kernel_rfl) (fun c a w h => h) (Or.inl ⟨by rfl, ?_⟩) hHeld ?_
      rotate_left
      · (intro w hSw; (try dsimp only at hSw); go_simp; try with_reducible rfl)
      simp only [Act.put, List.getElem_toArray, List.getElem_cons_zero, List.getElem_cons_succ, List.setIfInBounds_toArray, List.set_cons_zero, List.set_cons_succ]
      refine wpAnyH_take (i := 24) (v := ?_) rfl (by kernel_rfl) (by kernel_rfl) (by kernel_rfl) (fun c a w h => h) (Or.inl ⟨by rfl, ?_⟩) hHeld ?_
      rotate_left
      · (intro w hSw; (try dsimp only at hSw); go_simp; try with_reducible rfl)
      simp only [Act.put, List.getElem_toArray, List.getElem_cons_zero, List.getElem_cons_succ, List.setIfInBounds_toArray, List.set_cons_zero, List.set_cons_succ]
      refine wpAnyH_take (i := 25) (v := ?_) rfl (by kernel_rfl) (by kernel_rfl) (by kernel_rfl) (fun c a w h => h) (Or.inl ⟨by rfl, ?_⟩) hHeld ?_
      rotate_left
      · (intro w hSw; (try dsimp only at hSw); go_simp; try with_reducible rfl)
      simp only [Act.put, List.getElem_toArray, List.getElem_cons_zero, List.getElem_cons_succ, List.setIfInBounds_toArray, List.set_cons_zero, List.set_cons_succ]
      refine wpAnyH_take (i := 26) (v := ?_) rfl (by kernel_rfl) (by kernel_rfl) (by kernel_rfl) (fun c a w h => h) (Or.inl ⟨by rfl, ?_⟩) hHeld ?_
      rotate_left
      · (intro w hSw; (try dsimp only at hSw); go_simp; try with_reducible rfl)
      simp only [Act.put, List.getElem_toArray, List.getElem_cons_zero, List.getElem_cons_succ, List.setIfInBounds_toArray, List.set_cons_zero, List.set_cons_succ]
      refine wpAnyH_take (i := 27) (v := ?_) rfl (by kernel_rfl) (by kernel_rfl) (by kernel_rfl) (fun c a w h => h) (Or.inl ⟨by rfl, ?_⟩) hHeld ?_
      rotate_left
      · (intro w hSw; (try dsimp only at hSw); go_simp; try with_reducible rfl)
      simp only [Act.put, List.getElem_toArray, List.getElem_cons_zero, List.getElem_cons_succ, List.setIfInBounds_toArray, List.set_cons_zero, List.set_cons_succ]
      refine wpAnyH_take (i := 28) (v := ?_) rfl (by kernel_rfl) (by kernel_rfl) (by kernel_rfl) (fun c a w h => h) (Or.inl ⟨by rfl, ?_⟩) hHeld ?_
      rotate_left
      · (intro w hSw; (try dsimp only at hSw); go_simp; try with_reducible rfl)
      simp only [Act.put, List.getElem_toArray, List.getElem_cons_zero, List.getElem_cons_succ, List.setIfInBounds_toArray, List.set_cons_zero, List.set_cons_succ]
      refine wpAnyH_take (i := 30) (v := ?_) rfl (by kernel_rfl) (by kernel_rfl) (by kernel_rfl) (fun c a w h => h) (Or.inl ⟨by rfl, ?_⟩) hHeld ?_
      rotate_left
      · (intro w hSw; (try dsimp only at hSw); go_simp; try with_reducible rfl)
      simp only [Act.put, List.getElem_toArray, List.getElem_cons_zero, List.getElem_cons_succ, List.setIfInBounds_toArray, List.set_cons_zero, List.set_cons_succ]
      refine wpAnyH_take (i := 31) (v := ?_) rfl (by kernel_rfl) (by kernel_rfl) (by kernel_rfl) (fun c a w h => h) (Or.inl ⟨by rfl, ?_⟩) hHeld ?_
      rotate_left
      · (intro w hSw; (try dsimp only at hSw); go_simp; try with_reducible rfl)
      simp only [Act.put, List.getElem_toArray, List.getElem_cons_zero, List.getElem_cons_succ, List.setIfInBounds_toArray, List.set_cons_zero, List.set_cons_succ]
      refine wpAnyH_take (i := 32) (v := ?_) rfl (by kernel_rfl) (by kernel_rfl) (by kernel_rfl) (fun c a w h => h) (Or.inl ⟨by rfl, ?_⟩) hHeld ?_
      rotate_left
      · (intro w hSw; (try dsimp only at hSw); go_simp; try with_reducible rfl)
      simp only [Act.put, List.getElem_toArray, List.getElem_cons_zero, List.getElem_cons_succ, List.setIfInBounds_toArray, List.set_cons_zero, List.set_cons_succ]
      refine wpAnyH_take (i := 33) (v := ?_) rfl (by kernel_rfl) (by kernel_rfl) (by kernel_rfl) (fun c a w h => h) (Or.inl ⟨by rfl, ?_⟩) hHeld ?_
      rotate_left
      · (intro w hSw; (try dsimp only at hSw); go_simp; try with_reducible rfl)
      simp only [Act.put, List.getElem_toArray, List.getElem_cons_zero, List.getElem_cons_succ, List.setIfInBounds_toArray, List.set_cons_zero, List.set_cons_succ]
      refine wpAnyH_take (i := 34) (v := ?_) rfl (by kernel_rfl) (by kernel_rfl) (by kernel_rfl) (fun c a w h => h) (Or.inl ⟨by rfl, ?_⟩) hHeld ?_
      rotate_left
      · (intro w hSw; (try dsimp only at hSw); go_simp; try with_reducible rfl)
      simp only [Act.put, List.getElem_toArray, List.getElem_cons_zero, List.getElem_cons_succ, List.setIfInBounds_toArray, List.set_cons_zero, List.set_cons_succ]
      refine wpAnyH_take (i := 35) (v := ?_) rfl (by kernel_rfl) (by kernel_rfl) (by kernel_rfl) (fun c a w h => h) (Or.inl ⟨by rfl, ?_⟩) hHeld ?_
      rotate_left
      · (intro w hSw; (try dsimp only at hSw); go_simp; try with_reducible rfl)
      simp only [Act.put, List.getElem_toArray, List.getElem_cons_zero, List.getElem_cons_succ, List.setIfInBounds_toArray, List.set_cons_zero, List.set_cons_succ]
      refine wpAnyH_take (i := 36) (v := ?_) rfl (by kernel_rfl) (by kernel_rfl) (by kernel_rfl) (fun c a w h => h) (Or.inl ⟨by rfl, ?_⟩) hHeld ?_
      rotate_left
      · (intro w hSw; (try dsimp only at hSw); go_simp; try with_reducible rfl)
      simp only [Act.put, List.getElem_toArray, List.getElem_cons_zero, List.getElem_cons_succ, List.setIfInBounds_toArray, List.set_cons_zero, List.set_cons_succ]
      refine wpAnyH_take (i := 37) (v := ?_) rfl (by kernel_rfl) (by kernel_rfl) (by kernel_rfl) (fun c a w h => h) (Or.inl ⟨by rfl, ?_⟩) hHeld ?_
      rotate_left
      · (intro w hSw; (try dsimp only at hSw); go_simp; try with_reducible rfl)
      simp only [Act.put, List.getElem_toArray, List.getElem_cons_zero, List.getElem_cons_succ, List.setIfInBounds_toArray, List.set_cons_zero, List.set_cons_succ]
      refine wpAnyH_take (i := 38) (v := ?_) rfl (by kernel_rfl) (by kernel_rfl) (by kernel_rfl) (fun c a w h => h) (Or.inl ⟨by rfl, ?_⟩) hHeld ?_
      rotate_left
      · (intro w hSw; (try dsimp only at hSw); go_simp; try with_reducible rfl)
      simp only [Act.put, List.getElem_toArray, List.getElem_cons_zero, List.getElem_cons_succ, List.setIfInBounds_toArray, List.set_cons_zero, List.set_cons_succ]
      refine wpAnyH_ready (rs := [29]) (by kernel_rfl) (by simp) ?_
      refine AllReadyH.cons rfl (fun K hK => ?_) AllReadyH.nil
      go_simp
      refine (HA2.out _ HB17.out).mono ?_
      rintro e wa29 ⟨rfl, qq29, hw29⟩
      have HB29 := S.hid (show Below wr.heap.size wr wa29 by rw [hw29]; exact HB17.out.trans (bdNn _ _ HB17.out.size))
      have ss29 := HS.out _ HB29.out
      clear hw29
      refine hK.out _ _ ss29 (fun hHeld => ?_)
      clear hK K
      try simp only [Act.put, List.getElem_toArray, List.getElem_cons_zero, List.getElem_cons_succ, List.setIfInBounds_toArray, List.set_cons_zero, List.set_cons_succ]
      refine wpAnyH_ready (rs := [39]) (by kernel_rfl) (by simp) ?_
      refine AllReadyH.cons rfl (fun K hK => ?_) AllReadyH.nil
      go_simp
      refine (HR2.out _ HB29.out).mono ?_
      rintro e wa39 ⟨rfl, hw39⟩
      have HB39 := S.hid (HB29.out.trans (hw39.mono HB29.out.size))
      have ss39 := HS.out _ HB39.out
      clear hw39
      refine hK.out _ _ ss39 (fun hHeld => ?_)
      clear hK K
      try simp only [Act.put, List.getElem_toArray, List.getElem_cons_zero, List.getElem_cons_succ, List.setIfInBounds_toArray, List.set_cons_zero, List.set_cons_succ]
      refine wpAnyH_take (i := 40) (v := ?_) rfl (by kernel_rfl) (by kernel_rfl) (by kernel_rfl) (fun c a w h => h) (Or.inl ⟨by rfl, ?_⟩) hHeld ?_
      rotate_left
      · (intro w hSw; (try dsimp only at hSw); go_simp; try with_reducible rfl)
      simp only [Act.put, List.getElem_toArray, List.getElem_cons_zero, List.getElem_cons_succ, List.setIfInBounds_toArray, List.set_cons_zero, List.set_cons_succ]
      refine wpAnyH_take (i := 41) (v := ?_) rfl (by kernel_rfl) (by kernel_rfl) (by kernel_rfl) (fun c a w h => h) (Or.inl ⟨by rfl, ?_⟩) hHeld ?_
      rotate_left
      · (intro w hSw; (try dsimp only at hSw); go_simp; try with_reducible rfl)
      simp only [Act.put, List.getElem_toArray, List.getElem_cons_zero, List.getElem_cons_succ, List.setIfInBounds_toArray, List.set_cons_zero, List.set_cons_succ]
      refine wpAnyH_done (by kernel_rfl) ?_ _
      clear hHeld
      try simp only [Act.put, List.getElem_toArray, List.getElem_cons_zero, List.getElem_cons_succ, List.setIfInBounds_toArray, List.set_cons_zero, List.set_cons_succ]
      have HBE := S.hid (HBr.out.trans (HB39.out.mono HBr.out.size))
      clear HA HR HA2 HR2 HS HB0 HB8 HB17 HB29 HB39 HBr ss8 ss17 ss29 ss39
      go_wp2
      go_roundw
      case rel =>
        first
          | exact ⟨k + 1, by omega, (by first | rfl | rw [w1']), HBE.out⟩
          | ((repeat apply Exists.intro); refine ⟨⟨k + 1, by omega, ?_, HBE.out⟩, rfl⟩; first | rfl | rw [w1'])
      case measure => exact msrN X.length _ _ k (by first | rfl | rw [w1']) rfl hlt
    · obtain rfl : k = X.length := by omega
      have d1 : decide ((X.length : Int) < (X.length : Int)) = false := decide_eq_false (by omega)
      have hb6 : Below W.heap.size W (wr.alloc (.cells #[.int .u16 65280, .int .u16 65282, .int .u16 65284, .int .u16 65286, .int .u16 65288] 31)) := hB.alloc hB.size _
      have hr6 := heap_alloc_new wr (.cells #[.int .u16 65280, .int .u16 65282, .int .u16 65284, .int .u16 65286, .int .u16 65288] 31)
      have HB6 := S.hid hb6
      have HR6 := S.hid hr6
      clear hB hb6 hr6 HX HC
      go_upto_region 7 with fail
      try simp only [Act.put, List.getElem_toArray, List.getElem_cons_zero, List.getElem_cons_succ, List.setIfInBounds_toArray, List.set_cons_zero, List.set_cons_succ]
      generalize hb6 : wr.heap.size = b6 at *
      generalize (wr.alloc (.cells #[.int .u16 65280, .int .u16 65282, .int .u16 65284, .int .u16 65286, .int .u16 65288] 31)) = w6 at *
      clear hb6
      go_wp2
      go_loopw [7] (fun i wr => ∃ k : Nat, k ≤ 5 ∧ i = .int .i64 (k : Int) ∧ Below w6.heap.size w6 wr) (fun i _ => 5 - (intOf i).toNat)
      case atStart => exact ⟨0, Nat.zero_le _, rfl, Below.refl _ _⟩
      case round =>
        obtain ⟨k, hk5, rfl, hB⟩ := hrel
        by_cases hlt : k < 5
        · have d1 : decide ((k : Int) < 5) = true := decide_eq_true (by omega)
          have d1' : (k : Int) < 5 := by omega
          have w1' := inc_n (show k < 1000 by omega)
          obtain ⟨z, hz, hx⟩ := port_at w6 b6 k hlt HR6.out
          have hW := H.out.below (HB6.out.trans (hB.mono HB6.out.size))
          obtain ⟨c0, c1, c2, c3, c4, c5⟩ := hW.c6
          have hxr := bcell hB hx
          have hSS : ∀ W', Below wr.heap.size wr W' → (fun w' : World => w'.cell? ⟨g, 2, none⟩ = some (.pointer (some ⟨bm, 0, none⟩)) ∧ w'.cell? ⟨g, 5, none⟩ = some (.pointer (some ⟨bz, 0, none⟩)) ∧ w'.cell? ⟨b6, k, none⟩ = some (.int .u16 z)) W' := fun W' j => ⟨bcell j c2, bcell j c5, bcell j hxr⟩
          have hA := fun W' (j : Below wr.heap.size wr W') => M.cell_any bm z hz.1 hz.2 W' (hW.below j).p.m
          have hR := fun W' (j : Below wr.heap.size wr W') => M.rcell_any bz z hz.1 hz.2 W' (hW.below j).z
          have s0 := hSS _ ((Below.refl _ wr).drew)
          have HB0 := S.hid ((Below.refl wr.heap.size wr).drew)
          have HS := S.hid hSS
          have HA := S.hid hA
          have HR := S.hid hR
          have HBr := S.hid hB
          clear hSS hA hR hW hxr c0 c1 c2 c3 c4 c5 hx hB
          generalize M.cl m z = q1 at *
          go_upto_region 10 with fail
          try simp only [Act.put, List.getElem_toArray, List.getElem_cons_zero, List.getElem_cons_succ, List.setIfInBounds_toArray, List.set_cons_zero, List.set_cons_succ]
          refine wp_region_held_drew (S := (fun w' : World => w'.cell? ⟨g, 2, none⟩ = some (.pointer (some ⟨bm, 0, none⟩)) ∧ w'.cell? ⟨g, 5, none⟩ = some (.pointer (some ⟨bz, 0, none⟩)) ∧ w'.cell? ⟨b6, k, none⟩ = some (.int .u16 z))) (by kernel_rfl) s0 (fun hHeld => ?_)
          clear s0
          refine wpAnyH_take (i := 0) (v := ?_) rfl (by kernel_rfl) (by kernel_rfl) (by kernel_rfl) (fun c a w h => h) (Or.inl ⟨by rfl, ?_⟩) hHeld ?_
          rotate_left
          · (intro w hSw; (try dsimp only at hSw); go_simp; try with_reducible rfl)
          simp only [Act.put, List.getElem_toArray, List.getElem_cons_zero, List.getElem_cons_succ, List.setIfInBounds_toArray, List.set_cons_zero, List.set_cons_succ]
          refine wpAnyH_take (i := 1) (v := ?_) rfl (by kernel_rfl) (by kernel_rfl) (by kernel_rfl) (fun c a w h => h) (Or.inl ⟨by rfl, ?_⟩) hHeld ?_
          rotate_left
          · (intro w hSw; (try dsimp only at hSw); go_simp; try with_reducible rfl)
          simp only [Act.put, List.getElem_toArray, List.getElem_cons_zero, List.getElem_cons_succ, List.setIfInBounds_toArray, List.set_cons_zero, List.set_cons_succ]
          refine wpAnyH_take (i := 2) (v := ?_) rfl (by kernel_rfl) (by kernel_rfl) (by kernel_rfl) (fun c a w h => h) (Or.inl ⟨by rfl, ?_⟩) hHeld ?_
          rotate_left
          · (intro w hSw; (try dsimp only at hSw); go_simp; try with_reducible rfl)
          simp only [Act.put, List.getElem_toArray, List.getElem_cons_zero, List.getElem_cons_succ, List.setIfInBounds_toArray, List.set_cons_zero, List.set_cons_succ]
          refine wpAnyH_take (i := 3) (v := ?_) rfl (by kernel_rfl) (by kernel_rfl) (by kernel_rfl) (fun c a w h => h) (Or.inl ⟨by rfl, ?_⟩) hHeld ?_
          rotate_left
          · (intro w hSw; (try dsimp only at hSw); go_simp; try with_reducible rfl)
          simp only [Act.put, List.getElem_toArray, List.getElem_cons_zero, List.getElem_cons_succ, List.setIfInBounds_toArray, List.set_cons_zero, List.set_cons_succ]
          refine wpAnyH_take (i := 4) (v := ?_) rfl (by kernel_rfl) (by kernel_rfl) (by kernel_rfl) (fun c a w h => h) (Or.inl ⟨by rfl, ?_⟩) hHeld ?_
          rotate_left
          · (intro w hSw; (try dsimp only at hSw); go_simp; try with_reducible rfl)
          simp only [Act.put, List.getElem_toArray, List.getElem_cons_zero, List.getElem_cons_succ, List.setIfInBounds_toArray, List.set_cons_zero, List.set_cons_succ]
          refine wpAnyH_take (i := 5) (v := ?_) rfl (by kernel_rfl) (by kernel_rfl) (by kernel_rfl) (fun c a w h => h) (Or.inl ⟨by rfl, ?_⟩) hHeld ?_
          rotate_left
          · (intro w hSw; (try dsimp only at hSw); go_simp; try with_reducible rfl)
          simp only [Act.put, List.getElem_toArray, List.getElem_cons_zero, List.getElem_cons_succ, List.setIfInBounds_toArray, List.set_cons_zero, List.set_cons_succ]
          refine wpAnyH_take (i := 6) (v := ?_) rfl (by kernel_rfl) (by kernel_rfl) (by kernel_rfl) (fun c a w h => h) (Or.inl ⟨by rfl, ?_⟩) hHeld ?_
          rotate_left
          · (intro w hSw; (try dsimp only at hSw); go_simp; try with_reducible rfl)
          simp only [Act.put, List.getElem_toArray, List.getElem_cons_zero, List.getElem_cons_succ, List.setIfInBounds_toArray, List.set_cons_zero, List.set_cons_succ]
          refine wpAnyH_take (i := 7) (v := ?_) rfl (by kernel_rfl) (by kernel_rfl) (by kernel_rfl) (fun c a w h => h) (Or.inl ⟨by rfl, ?_⟩) hHeld ?_
          rotate_left
          · (intro w hSw; (try dsimp only at hSw); go_simp; try with_reducible rfl)
          simp only [Act.put, List.getElem_toArray, List.getElem_cons_zero, List.getElem_cons_succ, List.setIfInBounds_toArray, List.set_cons_zero, List.set_cons_succ]
          refine wpAnyH_take (i := 9) (v := ?_) rfl (by kernel_rfl) (by kernel_rfl) (by kernel_rfl) (fun c a w h => h) (Or.inl ⟨by rfl, ?_⟩) hHeld ?_
          rotate_left
          · (intro w hSw; (try dsimp only at hSw); go_simp; try with_reducible rfl)
          simp only [Act.put, List.getElem_toArray, List.getElem_cons_zero, List.getElem_cons_succ, List.setIfInBounds_toArray, List.set_cons_zero, List.set_cons_succ]
          refine wpAnyH_take (i := 10) (v := ?_) rfl (by kernel_rfl) (by kernel_rfl) (by kernel_rfl) (fun c a w h => h) (Or.inl ⟨by rfl, ?_⟩) hHeld ?_
          rotate_left
          · (intro w hSw; (try dsimp only at hSw); go_simp; try with_reducible rfl)
          simp only [Act.put, List.getElem_toArray, List.getElem_cons_zero, List.getElem_cons_succ, List.setIfInBounds_toArray, List.set_cons_zero, List.set_cons_succ]
          refine wpAnyH_take (i := 11) (v := ?_) rfl (by kernel_rfl) (by kernel_rfl) (by kernel_rfl) (fun c a w h => h) (Or.inl ⟨by rfl, ?_⟩) hHeld ?_
          rotate_left
          · (intro w hSw; (try dsimp only at hSw); go_simp; try with_reducible rfl)
          simp only [Act.put, List.getElem_toArray, List.getElem_cons_zero, List.getElem_cons_succ, List.setIfInBounds_toArray, List.set_cons_zero, List.set_cons_succ]
          refine wpAnyH_take (i := 12) (v := ?_) rfl (by kernel_rfl) (by kernel_rfl) (by kernel_rfl) (fun c a w h => h) (Or.inl ⟨by rfl, ?_⟩) hHeld ?_
          rotate_left
          · (intro w hSw; (try dsimp only at hSw); go_simp; try with_reducible rfl)
          simp only [Act.put, List.getElem_toArray, List.getElem_cons_zero, List.getElem_cons_succ, List.setIfInBounds_toArray, List.set_cons_zero, List.set_cons_succ]
          refine wpAnyH_take (i := 13) (v := ?_) rfl (by kernel_rfl) (by kernel_rfl) (by kernel_rfl) (fun c a w h => h) (Or.inl ⟨by rfl, ?_⟩) hHeld ?_
          rotate_left
          · (intro w hSw; (try dsimp only at hSw); go_simp; try with_reducible rfl)
          simp only [Act.put, List.getElem_toArray, List.getElem_cons_zero, List.getElem_cons_succ, List.setIfInBounds_toArray, List.set_cons_zero, List.set_cons_succ]
          refine wpAnyH_take (i := 14) (v := ?_) rfl (by kernel_rfl) (by kernel_rfl) (by kernel_rfl) (fun c a w h => h) (Or.inl ⟨by rfl, ?_⟩) hHeld ?_
          rotate_left
          · (intro w hSw; (try dsimp only at hSw); go_simp; try with_reducible rfl)
          simp only [Act.put, List.getElem_toArray, List.getElem_cons_zero, List.getElem_cons_succ, List.setIfInBounds_toArray, List.set_cons_zero, List.set_cons_succ]
          refine wpAnyH_take (i := 15) (v := ?_) rfl (by kernel_rfl) (by kernel_rfl) (by kernel_rfl) (fun c a w h => h) (Or.inl ⟨by rfl, ?_⟩) hHeld ?_
          rotate_left
          · (intro w hSw; (try dsimp only at hSw); go_simp; try with_reducible rfl)
          simp only [Act.put, List.getElem_toArray, List.getElem_cons_zero, List.getElem_cons_succ, List.setIfInBounds_toArray, List.set_cons_zero, List.set_cons_succ]
          refine wpAnyH_take (i := 16) (v := ?_) rfl (by kernel_rfl) (by kernel_rfl) (by kernel_rfl) (fun c a w h => h) (Or.inl ⟨by rfl, ?_⟩) hHeld ?_
          rotate_left
          · (intro w hSw; (try dsimp only at hSw); go_simp; try with_reducible rfl)
          simp only [Act.put, List.getElem_toArray, List.getElem_cons_zero, List.getElem_cons_succ, List.setIfInBounds_toArray, List.set_cons_zero, List.set_cons_succ]
          refine wpAnyH_ready (rs := [8]) (by kernel_rfl) (by simp) ?_
          refine AllReadyH.cons rfl (fun K hK => ?_) AllReadyH.nil
          go_simp
          refine (HA.out _ HB0.out).mono ?_
          rintro e wa8 ⟨rfl, qq8, hw8⟩
          have HB8 := S.hid (show Below wr.heap.size wr wa8 by rw [hw8]; exact HB0.out.trans (bdNn _ _ HB0.out.size))
          have ss8 := HS.out _ HB8.out
          clear hw8
          refine hK.out _ _ ss8 (fun hHeld => ?_)
          clear hK K
          try simp only [Act.put, List.getElem_toArray, List.getElem_cons_zero, List.getElem_cons_succ, List.setIfInBounds_toArray, List.set_cons_zero, List.set_cons_succ]
          refine wpAnyH_ready (rs := [17]) (by kernel_rfl) (by simp) ?_
          refine AllReadyH.cons rfl (fun K hK => ?_) AllReadyH.nil
          go_simp
          refine (HR.out _ HB8.out).mono ?_
          rintro e wa17 ⟨rfl, hw17⟩
          have HB17 := S.hid (HB8.out.trans (hw17.mono HB8.out.size))
          have ss17 := HS.out _ HB17.out
          clear hw17
          refine hK.out _ _ ss17 (fun hHeld => ?_)
          clear hK K
          try simp only [Act.put, List.getElem_toArray, List.getElem_cons_zero, List.getElem_cons_succ, List.setIfInBounds_toArray, List.set_cons_zero, List.set_cons_succ]
          refine wpAnyH_take (i := 18) (v := ?_) rfl (by kernel_rfl) (by kernel_rfl) (by kernel_rfl) (fun c a w h => h) (Or.inl ⟨by rfl, ?_⟩) hHeld ?_
          rotate_left
          · (intro w hSw; (try dsimp only at hSw); go_simp; try with_reducible rfl)
          simp only [Act.put, List.getElem_toArray, List.getElem_cons_zero, List.getElem_cons_succ, List.setIfInBounds_toArray, List.set_cons_zero, List.set_cons_succ]
          refine wpAnyH_done (by kernel_rfl) ?_ _
          clear hHeld
          try simp only [Act.put, List.getElem_toArray, List.getElem_cons_zero, List.getElem_cons_succ, List.setIfInBounds_toArray, List.set_cons_zero, List.set_cons_succ]
          have HBE := S.hid (HBr.out.trans (HB17.out.mono HBr.out.size))
          clear HA HR HS HB0 HB8 HB17 HBr ss8 ss17
          go_wp2
          go_roundw
          case rel =>
            first
              | exact ⟨k + 1, by omega, (by first | rfl | rw [w1']), HBE.out⟩
              | ((repeat apply Exists.intro); refine ⟨⟨k + 1, by omega, ?_, HBE.out⟩, rfl⟩; first | rfl | rw [w1'])
          case measure => exact msrN 5 _ _ k (by first | rfl | rw [w1']) rfl hlt
        · obtain rfl : k = 5 := by omega
          have hB7 := HB6.out.trans (hB.mono HB6.out.size)
          have hW := H.out.below hB7
          obtain ⟨c0, c1, c2, c3, c4, c5⟩ := hW.c6
          have kt := M.tones_any bm wr hW.p.m ht
          have HB7 := S.hid hB7
          have HW := S.hid hW
          clear hB hB7 hW c0 c1 c3 c4
          go_wp2_with fail
          refine kt.mono ?_
          rintro e w8 ⟨u, rfl, hu, hb8⟩
          have hW8 := HW.out.below hb8
          obtain ⟨c0, c1, c2', c3, c4, c5'⟩ := hW8.c6
          obtain ⟨wf, uu, ggr, ggc, ggs, tv, hR8⟩ := hW8.z
          have ct := S.cell_of w8 bz 9 _ _ _ hR8.blk rfl
          have ks := M.sameTones_any _ _ m.tones (by unfold M.room; omega) w8 hu hR8.tones
          obtain ⟨pu, cu, hpu⟩ := S.ex_slice hu
          obtain ⟨pt, cct, hpt⟩ := S.ex_slice hR8.tones
          subst hpu hpt
          have HB8 := S.hid (HB7.out.trans (hb8.mono HB7.out.size))
          clear kt hu hb8 hW8 hR8 c0 c1 c2' c3 c4 HW c2 c5
          go_wp2_with fail
          refine ks.mono ?_
          rintro e w9 ⟨rfl, q9, hw9⟩
          have HB9 := S.hid (show Below W.heap.size W w9 by rw [hw9]; exact HB8.out.trans (bdNn _ _ HB8.out.size))
          clear ks hw9
          go_wp2
          go_ret
          exact ⟨rfl, HB9.out⟩
end
end Go.Proofs.YtgponcjjnjpfkabGreat.L
/-! fixed. -/
namespace Go.Proofs.YtgponcjjnjpfkabGreat.L
open Go.RowKit
open Go.Proofs
open P
set_option linter.unusedVariables false
set_option linter.unusedSimpArgs false
set_option maxHeartbeats 4000000
set_option maxRecDepth 100000
theorem bb {a b c : World} (h : Below a.heap.size a b) (k : Below b.heap.size b c) : Below a.heap.size a c := h.trans ⟨k.os, k.tape, k.output, k.size, fun i hi => k.block i (Nat.lt_of_lt_of_le hi h.size)⟩
/-- A row in a box. -/
def RX (W : World) (b : Nat) (op : Int) (name : ByteArray) (i o c : Int) (f : Bool) : Prop := W.heap[b]? = some (.cells [.int .i64 op, .string name, .int .i64 i, .int .i64 o, .int .i64 c, .bool f].toArray 57 (0, 0))
theorem RX.below {W W' : World} {B b : Nat} {op : Int} {name : ByteArray} {i o c : Int} {f : Bool} (h : RX W b op name i o c f) (k : Below B W W') (hb : b < B) : RX W' b op name i o c f := (k.block b hb).trans h
theorem of24 (w : World) : Calls Tryz.prog 19 #[.int .i64 24] w fun e w' => e = .returned (.tuple #[.agg #[.int .i64 24, .string ⟨#[47]⟩, .int .i64 2, .int .i64 1, .int .i64 4, .bool false], .int .i64 0]) ∧ Below w.heap.size w w' := of_yes 24 ⟨#[47]⟩ 2 1 4 false 0 0 0 _ (by decide) (by decide) ent_24 w
theorem of64 (w : World) : Calls Tryz.prog 19 #[.int .i64 64] w fun e w' => e = .returned (.tuple #[.agg #[.int .i64 0, .string ⟨#[]⟩, .int .i64 0, .int .i64 0, .int .i64 0, .bool false], .int .i64 60]) ∧ Below w.heap.size w w' := of_no 64 (by decide) w
theorem n2dup (w : World) : Calls Tryz.prog 20 #[.string ⟨#[50, 100, 117, 112]⟩] w fun e w' => e = .returned (.tuple #[.agg #[.int .i64 19, .string ⟨#[50, 100, 117, 112]⟩, .int .i64 2, .int .i64 4, .int .i64 2, .bool false], .bool true]) ∧ Below w.heap.size w w' := named_2dup w
theorem fixed_any (w : World) : Calls Tryz.prog 5 #[] w fun e w' => e = .returned (.bool true) ∧ Below w.heap.size w w' := by
  go_enter Tryz.func5, Tryz.ntmps5
  go_wp2_with fail
  refine (of24 w).mono ?_
  rintro e w1 ⟨rfl, h1⟩
  go_wp2_with fail
  refine (of64 _).mono ?_
  rintro e w2 ⟨rfl, h2⟩
  obtain ⟨bp, hbp⟩ : ∃ bp, w1.heap.size = bp := ⟨_, rfl⟩
  have a1 := bel_alloc w1 (.cells #[.int .i64 24, .string ⟨#[47]⟩, .int .i64 2, .int .i64 1, .int .i64 4, .bool false] 57)
  have r1 : RX w2 bp 24 ⟨#[47]⟩ 2 1 4 false := by rw [← hbp]; exact (h2.block _ (by simp)).trans (heap_alloc_new w1 _)
  have H2 := S.hid (bb h1 (bb a1 h2))
  rw [hbp]
  clear h1 a1 h2 hbp
  go_wp2_with fail
  refine (n2dup _).mono ?_
  rintro e w3 ⟨rfl, h3⟩
  have a2 := bel_alloc w2 (.cells #[.int .i64 0, .string ⟨#[]⟩, .int .i64 0, .int .i64 0, .int .i64 0, .bool false] 57)
  have b3 := bb a2 h3
  have r1 := r1.below b3 (S.lt_of r1)
  have H3 := S.hid (bb H2.out b3)
  clear a2 h3 b3 H2
  obtain ⟨bq, hbq⟩ : ∃ bq, w3.heap.size = bq := ⟨_, rfl⟩
  obtain ⟨w4, hw4⟩ : ∃ w4, (w3.alloc (.cells #[.int .i64 19, .string ⟨#[50, 100, 117, 112]⟩, .int .i64 2, .int .i64 4, .int .i64 2, .bool false] 57)).alloc (.cells #[.int .u16 1, .int .u16 2, .int .u16 3] 31) = w4 := ⟨_, rfl⟩
  have b4 : Below w3.heap.size w3 w4 := by rw [← hw4]; exact (bel_alloc w3 _).alloc (bel_alloc w3 _).size _
  have z4 : w4.heap.size = bq + 2 := by rw [← hw4, ← hbq]; simp
  have r2 : RX w4 bq 19 ⟨#[50, 100, 117, 112]⟩ 2 4 2 false := by rw [← hw4, ← hbq]; exact (Below.heap_alloc _ _ _ (by simp)).trans (heap_alloc_new w3 _)
  have s4 : S.Sl S.eU 1 w4 (some ⟨bq + 1, 0, none⟩) [1, 2, 3] := by rw [← hw4, ← hbq]; exact sl_block S.hU _ _ 31 _ (heap_alloc2_new w3 _ _)
  have hbo : Calls Tryz.prog 6 #[.slice (some ⟨bq + 1, 0, none⟩) 3 3, .slice none 0 0] w4 fun e w' => BornR w4 w' e [1, 2, 3] [] := born_any (some ⟨bq + 1, 0, none⟩) none 3 0 [1, 2, 3] [] (by decide) (by decide) (by intro e; cases e) (fun _ => rfl) (by decide) (by decide) w4 s4 (fun i a h => by simp at h)
  have r1 := r1.below b4 (S.lt_of r1)
  have RQ1 := S.hid (S.lt_of r1)
  have H4 := S.hid (bb H3.out b4)
  clear H3 b4 s4
  go_wp2_with fail
  refine hbo.mono ?_
  rintro e w5 ⟨g, bd, br, bm, bx, bq', bz, F, G, ev, qv, rfl, hW, b5⟩
  have r1 := r1.below b5 (S.lt_of r1)
  have r2 := r2.below b5 (S.lt_of r2)
  have hE := hW.e
  have H5 := S.hid (bb H4.out b5)
  have RP1 : bp < w4.heap.size := RQ1.out
  have RP2 : bq < w4.heap.size := by omega
  have HS4 := S.hid H4.out.size
  have l45 := b5.size
  clear hW b5 hbo H4 hw4
  have hdo := do_w 16 rfl w4.heap.size g bd br bm [1, 2, 3] [] mB (allC rfl) (by decide) w5.drew hE.drew l45
  rw [show fl 16 [1, 2, 3] [] = 0 from rfl, show xD 16 [1, 2, 3] [] mB = [2, 3, 1] from rfl, show xR 16 [1, 2, 3] [] = [] from rfl, show xM 16 [1, 2, 3] [] mB = mB from rfl] at hdo
  have s0 := hE.drew.cells
  clear hE
  go_wp2_with fail
  go_region_held (fun w' => w'.cell? ⟨g, 0, none⟩ = some (.pointer (some ⟨bd, 0, none⟩)) ∧ w'.cell? ⟨g, 1, none⟩ = some (.pointer (some ⟨br, 0, none⟩)) ∧ w'.cell? ⟨g, 2, none⟩ = some (.pointer (some ⟨bm, 0, none⟩)))
    (first | (with_reducible exact s0) | (with_reducible exact s1))
    (first | (go_at_call 21; refine hdo.mono ?_; rintro e w6 ⟨rfl, hE6, b6⟩; have s1 := hE6.cells))
  have b56 : Below w4.heap.size w5 w6 := ⟨b6.os, b6.tape, b6.output, b6.size, b6.block⟩
  have lp := S.lt_of r1
  have hdc := S.dcells bd [2, 3, 1] w6 hE6.d
  have HE6 := S.hid hE6
  have r1 := r1.below b56 RP1
  have r2 := r2.below b56 RP2
  have H6 : Below w.heap.size w w6 := H5.out.trans (b56.mono HS4.out)
  have H6 := S.hid H6
  have c0 := hE6.cells.1
  clear hdo s0 s1 b6 b56 hE6 lp
  go_wp2_with fail
  refine hdc.mono ?_
  rintro e w7 ⟨u, rfl, hu, b7⟩
  have r1 := r1.below b7 (S.lt_of r1)
  have r2 := r2.below b7 (S.lt_of r2)
  have H7 := S.hid (bb H6.out b7)
  obtain ⟨p7, c7, rfl, -, sl7⟩ := hu.ls.ex
  have e0 := S.cell_of w7 bp 0 _ 57 _ r1 rfl
  have e1 := S.cell_of w7 bp 1 _ 57 _ r1 rfl
  have e2 := S.cell_of w7 bp 2 _ 57 _ r1 rfl
  have e3 := S.cell_of w7 bp 3 _ 57 _ r1 rfl
  have e4 := S.cell_of w7 bp 4 _ 57 _ r1 rfl
  have e5 := S.cell_of w7 bp 5 _ 57 _ r1 rfl
  have hs1 := same_row 24 ⟨#[47]⟩ 2 1 4 false w7
  unfold rowV at hs1
  clear hdc hu b7 c0 H6
  go_wp2_with fail
  refine hs1.mono ?_
  rintro e w8 ⟨rfl, b8⟩
  have r2 := r2.below b8 (S.lt_of r2)
  have sl8 := sl7.below b8
  have H8 := S.hid (bb H7.out b8)
  have f0 := S.cell_of w8 bq 0 _ 57 _ r2 rfl
  have f1 := S.cell_of w8 bq 1 _ 57 _ r2 rfl
  have f2 := S.cell_of w8 bq 2 _ 57 _ r2 rfl
  have f3 := S.cell_of w8 bq 3 _ 57 _ r2 rfl
  have f4 := S.cell_of w8 bq 4 _ 57 _ r2 rfl
  have f5 := S.cell_of w8 bq 5 _ 57 _ r2 rfl
  have hs2 := same_row 19 ⟨#[50, 100, 117, 112]⟩ 2 4 2 false w8
  unfold rowV at hs2
  clear hs1 b8 H7 sl7
  go_wp2_with fail
  refine hs2.mono ?_
  rintro e w9 ⟨rfl, b9⟩
  have sl9 := sl8.below b9
  have H9 := S.hid (bb H8.out b9)
  have a9 := bel_alloc w9 (.cells #[.int .u16 2, .int .u16 3, .int .u16 1] 31)
  have hsm := S.sameU p7 (some ⟨w9.heap.size, 0, none⟩) c7 3 [2, 3, 1] (by decide) (w9.alloc (.cells #[.int .u16 2, .int .u16 3, .int .u16 1] 31)) (sl9.below a9) (sl_block S.hU _ _ 31 _ (heap_alloc_new w9 _))
  simp only [List.length_cons, List.length_nil, Nat.reduceAdd] at hsm
  have H9a := S.hid (bb H9.out a9)
  clear hs2 b9 H8 sl8 sl9 a9
  go_wp2_with fail
  refine hsm.mono ?_
  rintro e w10 ⟨rfl, q, rfl⟩
  go_wp2_with fail
  refine (plain_yes 16 16 _ _ _ _ _ _ _ _ _ ent_16 _).mono ?_
  rintro e w11 ⟨rfl, b11⟩
  go_wp2_with fail
  refine (plain_no 3 3 _ _ _ _ _ _ _ _ ent_3 _).mono ?_
  rintro e w12 ⟨rfl, b12⟩
  have b11' : Below (w9.alloc (.cells #[.int .u16 2, .int .u16 3, .int .u16 1] 31)).heap.size (w9.alloc (.cells #[.int .u16 2, .int .u16 3, .int .u16 1] 31)) w11 := ⟨b11.os, b11.tape, b11.output, b11.size, b11.block⟩
  have hlast := bb H9a.out (bb b11' b12)
  clear hsm b11 b12 b11'
  go_wp2
  go_ret
  exact ⟨rfl, hlast⟩
end Go.Proofs.YtgponcjjnjpfkabGreat.L
/-! Do without a stack or a memory, and of what is not plain. -/
namespace Go.Proofs.YtgponcjjnjpfkabGreat.L
open Go.RowKit
open Go.Proofs
open P
set_option linter.unusedVariables false
set_option linter.unusedSimpArgs false
theorem plain_at (x : Nat) (h1 : 1 ≤ x) (h2 : x < 64) (w : World) : Calls Tryz.prog 25 #[.int .i64 (x : Int)] w fun e w' => e = .returned (.bool (plain (x : Int))) ∧ Below w.heap.size w w' := by
  rcases num_cases x h1 h2 with rfl | rfl | rfl | rfl | rfl | rfl | rfl | rfl | rfl | rfl | rfl | rfl | rfl | rfl | rfl | rfl | rfl | rfl | rfl | rfl | rfl | rfl | rfl | rfl | rfl | rfl | rfl | rfl | rfl | rfl | rfl | rfl | rfl | rfl | rfl | rfl | rfl | rfl | rfl | rfl | rfl | rfl | rfl | rfl | rfl | rfl | rfl | rfl | rfl | rfl | rfl | rfl | rfl | rfl | rfl | rfl | rfl | rfl | rfl | rfl | rfl | rfl | rfl
  · exact plain_no _ _ _ _ _ _ _ _ _ _ ent_1 w
  · exact plain_no _ _ _ _ _ _ _ _ _ _ ent_2 w
  · exact plain_no _ _ _ _ _ _ _ _ _ _ ent_3 w
  · exact plain_no _ _ _ _ _ _ _ _ _ _ ent_4 w
  · exact plain_no _ _ _ _ _ _ _ _ _ _ ent_5 w
  · exact plain_yes _ _ _ _ _ _ _ _ _ _ _ ent_6 w
  · exact plain_no _ _ _ _ _ _ _ _ _ _ ent_7 w
  · exact plain_no _ _ _ _ _ _ _ _ _ _ ent_8 w
  · exact plain_yes _ _ _ _ _ _ _ _ _ _ _ ent_9 w
  · exact plain_no _ _ _ _ _ _ _ _ _ _ ent_10 w
  · exact plain_no _ _ _ _ _ _ _ _ _ _ ent_11 w
  · exact plain_yes _ _ _ _ _ _ _ _ _ _ _ ent_12 w
  · exact plain_yes _ _ _ _ _ _ _ _ _ _ _ ent_13 w
  · exact plain_yes _ _ _ _ _ _ _ _ _ _ _ ent_14 w
  · exact plain_yes _ _ _ _ _ _ _ _ _ _ _ ent_15 w
  · exact plain_yes _ _ _ _ _ _ _ _ _ _ _ ent_16 w
  · exact plain_yes _ _ _ _ _ _ _ _ _ _ _ ent_17 w
  · exact plain_yes _ _ _ _ _ _ _ _ _ _ _ ent_18 w
  · exact plain_yes _ _ _ _ _ _ _ _ _ _ _ ent_19 w
  · exact plain_yes _ _ _ _ _ _ _ _ _ _ _ ent_20 w
  · exact plain_yes _ _ _ _ _ _ _ _ _ _ _ ent_21 w
  · exact plain_yes _ _ _ _ _ _ _ _ _ _ _ ent_22 w
  · exact plain_yes _ _ _ _ _ _ _ _ _ _ _ ent_23 w
  · exact plain_yes _ _ _ _ _ _ _ _ _ _ _ ent_24 w
  · exact plain_yes _ _ _ _ _ _ _ _ _ _ _ ent_25 w
  · exact plain_yes _ _ _ _ _ _ _ _ _ _ _ ent_26 w
  · exact plain_yes _ _ _ _ _ _ _ _ _ _ _ ent_27 w
  · exact plain_yes _ _ _ _ _ _ _ _ _ _ _ ent_28 w
  · exact plain_yes _ _ _ _ _ _ _ _ _ _ _ ent_29 w
  · exact plain_yes _ _ _ _ _ _ _ _ _ _ _ ent_30 w
  · exact plain_yes _ _ _ _ _ _ _ _ _ _ _ ent_31 w
  · exact plain_yes _ _ _ _ _ _ _ _ _ _ _ ent_32 w
  · exact plain_yes _ _ _ _ _ _ _ _ _ _ _ ent_33 w
  · exact plain_yes _ _ _ _ _ _ _ _ _ _ _ ent_34 w
  · exact plain_yes _ _ _ _ _ _ _ _ _ _ _ ent_35 w
  · exact plain_yes _ _ _ _ _ _ _ _ _ _ _ ent_36 w
  · exact plain_yes _ _ _ _ _ _ _ _ _ _ _ ent_37 w
  · exact plain_yes _ _ _ _ _ _ _ _ _ _ _ ent_38 w
  · exact plain_yes _ _ _ _ _ _ _ _ _ _ _ ent_39 w
  · exact plain_yes _ _ _ _ _ _ _ _ _ _ _ ent_40 w
  · exact plain_yes _ _ _ _ _ _ _ _ _ _ _ ent_41 w
  · exact plain_yes _ _ _ _ _ _ _ _ _ _ _ ent_42 w
  · exact plain_yes _ _ _ _ _ _ _ _ _ _ _ ent_43 w
  · exact plain_yes _ _ _ _ _ _ _ _ _ _ _ ent_44 w
  · exact plain_yes _ _ _ _ _ _ _ _ _ _ _ ent_45 w
  · exact plain_yes _ _ _ _ _ _ _ _ _ _ _ ent_46 w
  · exact plain_yes _ _ _ _ _ _ _ _ _ _ _ ent_47 w
  · exact plain_yes _ _ _ _ _ _ _ _ _ _ _ ent_48 w
  · exact plain_yes _ _ _ _ _ _ _ _ _ _ _ ent_49 w
  · exact plain_yes _ _ _ _ _ _ _ _ _ _ _ ent_50 w
  · exact plain_yes _ _ _ _ _ _ _ _ _ _ _ ent_51 w
  · exact plain_yes _ _ _ _ _ _ _ _ _ _ _ ent_52 w
  · exact plain_yes _ _ _ _ _ _ _ _ _ _ _ ent_53 w
  · exact plain_yes _ _ _ _ _ _ _ _ _ _ _ ent_54 w
  · exact plain_yes _ _ _ _ _ _ _ _ _ _ _ ent_55 w
  · exact plain_yes _ _ _ _ _ _ _ _ _ _ _ ent_56 w
  · exact plain_yes _ _ _ _ _ _ _ _ _ _ _ ent_57 w
  · exact plain_yes _ _ _ _ _ _ _ _ _ _ _ ent_58 w
  · exact plain_yes _ _ _ _ _ _ _ _ _ _ _ ent_59 w
  · exact plain_yes _ _ _ _ _ _ _ _ _ _ _ ent_60 w
  · exact plain_yes _ _ _ _ _ _ _ _ _ _ _ ent_61 w
  · exact plain_yes _ _ _ _ _ _ _ _ _ _ _ ent_62 w
  · exact plain_yes _ _ _ _ _ _ _ _ _ _ _ ent_63 w
theorem plain_out (op : Int) (h : op < 1 ∨ 64 ≤ op) : plain op = false := by
  have a : ¬ op = 6 := by omega
  have b : ¬ op = 9 := by omega
  have c : ¬ (12 ≤ op ∧ op ≤ 63) := by omega
  unfold plain
  simp only [beq_eq_false_iff_ne.2 a, beq_eq_false_iff_ne.2 b, Bool.false_or, Bool.and_eq_false_iff, decide_eq_false_iff_not]
  omega
theorem plain_any (op : Int) (w : World) : Calls Tryz.prog 25 #[.int .i64 op] w fun e w' => e = .returned (.bool (plain op)) ∧ Below w.heap.size w w' := by
  by_cases h : op < 1 ∨ 64 ≤ op
  · rw [plain_out op h]
    exact plain_no _ _ _ _ _ _ _ _ _ _ (ent_none op h) w
  · obtain ⟨x, rfl⟩ : ∃ x : Nat, op = (x : Int) := ⟨op.toNat, by omega⟩
    exact plain_at x (by omega) (by omega) w
theorem do_nil (op : Int) (d r m : Option Addr) (hn : d = none ∨ r = none ∨ m = none) (w : World) :
    Calls Tryz.prog 21 #[.int .i64 op, .pointer d, .pointer r, .pointer m] w fun e w' => e = .returned (.int .i64 6) ∧ Below w.heap.size w w' := by
  by_cases h : op < 1 ∨ 64 ≤ op
  · exact do_code _ _ _ _ _ _ _ _ _ _ (ent_none op h) d r m w
  · obtain ⟨x, rfl⟩ : ∃ x : Nat, op = (x : Int) := ⟨op.toNat, by omega⟩
    rcases num_cases x (by omega) (by omega) with rfl | rfl | rfl | rfl | rfl | rfl | rfl | rfl | rfl | rfl | rfl | rfl | rfl | rfl | rfl | rfl | rfl | rfl | rfl | rfl | rfl | rfl | rfl | rfl | rfl | rfl | rfl | rfl | rfl | rfl | rfl | rfl | rfl | rfl | rfl | rfl | rfl | rfl | rfl | rfl | rfl | rfl | rfl | rfl | rfl | rfl | rfl | rfl | rfl | rfl | rfl | rfl | rfl | rfl | rfl | rfl | rfl | rfl | rfl | rfl | rfl | rfl | rfl
    · exact do_code _ _ _ _ _ _ _ _ _ _ ent_1 d r m w
    · exact do_code _ _ _ _ _ _ _ _ _ _ ent_2 d r m w
    · exact do_code _ _ _ _ _ _ _ _ _ _ ent_3 d r m w
    · exact do_code _ _ _ _ _ _ _ _ _ _ ent_4 d r m w
    · exact do_code _ _ _ _ _ _ _ _ _ _ ent_5 d r m w
    · exact do_none _ _ _ _ _ _ _ _ _ _ _ ent_6 d r m hn w
    · exact do_code _ _ _ _ _ _ _ _ _ _ ent_7 d r m w
    · exact do_code _ _ _ _ _ _ _ _ _ _ ent_8 d r m w
    · exact do_none _ _ _ _ _ _ _ _ _ _ _ ent_9 d r m hn w
    · exact do_code _ _ _ _ _ _ _ _ _ _ ent_10 d r m w
    · exact do_code _ _ _ _ _ _ _ _ _ _ ent_11 d r m w
    · exact do_none _ _ _ _ _ _ _ _ _ _ _ ent_12 d r m hn w
    · exact do_none _ _ _ _ _ _ _ _ _ _ _ ent_13 d r m hn w
    · exact do_none _ _ _ _ _ _ _ _ _ _ _ ent_14 d r m hn w
    · exact do_none _ _ _ _ _ _ _ _ _ _ _ ent_15 d r m hn w
    · exact do_none _ _ _ _ _ _ _ _ _ _ _ ent_16 d r m hn w
    · exact do_none _ _ _ _ _ _ _ _ _ _ _ ent_17 d r m hn w
    · exact do_none _ _ _ _ _ _ _ _ _ _ _ ent_18 d r m hn w
    · exact do_none _ _ _ _ _ _ _ _ _ _ _ ent_19 d r m hn w
    · exact do_none _ _ _ _ _ _ _ _ _ _ _ ent_20 d r m hn w
    · exact do_none _ _ _ _ _ _ _ _ _ _ _ ent_21 d r m hn w
    · exact do_none _ _ _ _ _ _ _ _ _ _ _ ent_22 d r m hn w
    · exact do_none _ _ _ _ _ _ _ _ _ _ _ ent_23 d r m hn w
    · exact do_none _ _ _ _ _ _ _ _ _ _ _ ent_24 d r m hn w
    · exact do_none _ _ _ _ _ _ _ _ _ _ _ ent_25 d r m hn w
    · exact do_none _ _ _ _ _ _ _ _ _ _ _ ent_26 d r m hn w
    · exact do_none _ _ _ _ _ _ _ _ _ _ _ ent_27 d r m hn w
    · exact do_none _ _ _ _ _ _ _ _ _ _ _ ent_28 d r m hn w
    · exact do_none _ _ _ _ _ _ _ _ _ _ _ ent_29 d r m hn w
    · exact do_none _ _ _ _ _ _ _ _ _ _ _ ent_30 d r m hn w
    · exact do_none _ _ _ _ _ _ _ _ _ _ _ ent_31 d r m hn w
    · exact do_none _ _ _ _ _ _ _ _ _ _ _ ent_32 d r m hn w
    · exact do_none _ _ _ _ _ _ _ _ _ _ _ ent_33 d r m hn w
    · exact do_none _ _ _ _ _ _ _ _ _ _ _ ent_34 d r m hn w
    · exact do_none _ _ _ _ _ _ _ _ _ _ _ ent_35 d r m hn w
    · exact do_none _ _ _ _ _ _ _ _ _ _ _ ent_36 d r m hn w
    · exact do_none _ _ _ _ _ _ _ _ _ _ _ ent_37 d r m hn w
    · exact do_none _ _ _ _ _ _ _ _ _ _ _ ent_38 d r m hn w
    · exact do_none _ _ _ _ _ _ _ _ _ _ _ ent_39 d r m hn w
    · exact do_none _ _ _ _ _ _ _ _ _ _ _ ent_40 d r m hn w
    · exact do_none _ _ _ _ _ _ _ _ _ _ _ ent_41 d r m hn w
    · exact do_none _ _ _ _ _ _ _ _ _ _ _ ent_42 d r m hn w
    · exact do_none _ _ _ _ _ _ _ _ _ _ _ ent_43 d r m hn w
    · exact do_none _ _ _ _ _ _ _ _ _ _ _ ent_44 d r m hn w
    · exact do_none _ _ _ _ _ _ _ _ _ _ _ ent_45 d r m hn w
    · exact do_none _ _ _ _ _ _ _ _ _ _ _ ent_46 d r m hn w
    · exact do_none _ _ _ _ _ _ _ _ _ _ _ ent_47 d r m hn w
    · exact do_none _ _ _ _ _ _ _ _ _ _ _ ent_48 d r m hn w
    · exact do_none _ _ _ _ _ _ _ _ _ _ _ ent_49 d r m hn w
    · exact do_none _ _ _ _ _ _ _ _ _ _ _ ent_50 d r m hn w
    · exact do_none _ _ _ _ _ _ _ _ _ _ _ ent_51 d r m hn w
    · exact do_none _ _ _ _ _ _ _ _ _ _ _ ent_52 d r m hn w
    · exact do_none _ _ _ _ _ _ _ _ _ _ _ ent_53 d r m hn w
    · exact do_none _ _ _ _ _ _ _ _ _ _ _ ent_54 d r m hn w
    · exact do_none _ _ _ _ _ _ _ _ _ _ _ ent_55 d r m hn w
    · exact do_none _ _ _ _ _ _ _ _ _ _ _ ent_56 d r m hn w
    · exact do_none _ _ _ _ _ _ _ _ _ _ _ ent_57 d r m hn w
    · exact do_none _ _ _ _ _ _ _ _ _ _ _ ent_58 d r m hn w
    · exact do_none _ _ _ _ _ _ _ _ _ _ _ ent_59 d r m hn w
    · exact do_none _ _ _ _ _ _ _ _ _ _ _ ent_60 d r m hn w
    · exact do_none _ _ _ _ _ _ _ _ _ _ _ ent_61 d r m hn w
    · exact do_none _ _ _ _ _ _ _ _ _ _ _ ent_62 d r m hn w
    · exact do_none _ _ _ _ _ _ _ _ _ _ _ ent_63 d r m hn w
theorem do_not (op : Int) (hp : plain op = false) (d r m : Option Addr) (w : World) :
    Calls Tryz.prog 21 #[.int .i64 op, .pointer d, .pointer r, .pointer m] w fun e w' => e = .returned (.int .i64 6) ∧ Below w.heap.size w w' := by
  by_cases h : op < 1 ∨ 64 ≤ op
  · exact do_code _ _ _ _ _ _ _ _ _ _ (ent_none op h) d r m w
  · obtain ⟨x, rfl⟩ : ∃ x : Nat, op = (x : Int) := ⟨op.toNat, by omega⟩
    rcases num_cases x (by omega) (by omega) with rfl | rfl | rfl | rfl | rfl | rfl | rfl | rfl | rfl | rfl | rfl | rfl | rfl | rfl | rfl | rfl | rfl | rfl | rfl | rfl | rfl | rfl | rfl | rfl | rfl | rfl | rfl | rfl | rfl | rfl | rfl | rfl | rfl | rfl | rfl | rfl | rfl | rfl | rfl | rfl | rfl | rfl | rfl | rfl | rfl | rfl | rfl | rfl | rfl | rfl | rfl | rfl | rfl | rfl | rfl | rfl | rfl | rfl | rfl | rfl | rfl | rfl | rfl
    · exact do_code _ _ _ _ _ _ _ _ _ _ ent_1 d r m w
    · exact do_code _ _ _ _ _ _ _ _ _ _ ent_2 d r m w
    · exact do_code _ _ _ _ _ _ _ _ _ _ ent_3 d r m w
    · exact do_code _ _ _ _ _ _ _ _ _ _ ent_4 d r m w
    · exact do_code _ _ _ _ _ _ _ _ _ _ ent_5 d r m w
    · simp [plain] at hp
    · exact do_code _ _ _ _ _ _ _ _ _ _ ent_7 d r m w
    · exact do_code _ _ _ _ _ _ _ _ _ _ ent_8 d r m w
    · simp [plain] at hp
    · exact do_code _ _ _ _ _ _ _ _ _ _ ent_10 d r m w
    · exact do_code _ _ _ _ _ _ _ _ _ _ ent_11 d r m w
    · simp [plain] at hp
    · simp [plain] at hp
    · simp [plain] at hp
    · simp [plain] at hp
    · simp [plain] at hp
    · simp [plain] at hp
    · simp [plain] at hp
    · simp [plain] at hp
    · simp [plain] at hp
    · simp [plain] at hp
    · simp [plain] at hp
    · simp [plain] at hp
    · simp [plain] at hp
    · simp [plain] at hp
    · simp [plain] at hp
    · simp [plain] at hp
    · simp [plain] at hp
    · simp [plain] at hp
    · simp [plain] at hp
    · simp [plain] at hp
    · simp [plain] at hp
    · simp [plain] at hp
    · simp [plain] at hp
    · simp [plain] at hp
    · simp [plain] at hp
    · simp [plain] at hp
    · simp [plain] at hp
    · simp [plain] at hp
    · simp [plain] at hp
    · simp [plain] at hp
    · simp [plain] at hp
    · simp [plain] at hp
    · simp [plain] at hp
    · simp [plain] at hp
    · simp [plain] at hp
    · simp [plain] at hp
    · simp [plain] at hp
    · simp [plain] at hp
    · simp [plain] at hp
    · simp [plain] at hp
    · simp [plain] at hp
    · simp [plain] at hp
    · simp [plain] at hp
    · simp [plain] at hp
    · simp [plain] at hp
    · simp [plain] at hp
    · simp [plain] at hp
    · simp [plain] at hp
    · simp [plain] at hp
    · simp [plain] at hp
    · simp [plain] at hp
    · simp [plain] at hp
end Go.Proofs.YtgponcjjnjpfkabGreat.L
/-! Both sides of the law's world as one thing. -/
namespace Go.Proofs.YtgponcjjnjpfkabGreat.L
open Go.RowKit
open Go.Proofs
open P
set_option linter.unusedVariables false
set_option linter.unusedSimpArgs false
set_option maxHeartbeats 20000000
set_option maxRecDepth 100000
theorem rest_C {D : List Int} (hD : ∀ x ∈ D, C.C x) (i : Nat) : ∀ x ∈ P.rest D i, C.C x := fun x hx => hD x (List.mem_of_mem_take hx)
theorem lk_C {R : List (Int × Int)} (hR : ∀ q ∈ R, C.C q.2) (k : Int) (bl : Nat) : C.C (P.lk k bl R).1 := by
  have z : C.C 0 := ⟨by omega, by omega⟩
  unfold P.lk
  split
  · exact z
  · split
    · exact z
    · split
      · cases e : R[R.length - 1 - bl]? with
        | none => exact z
        | some q => exact hR q (List.mem_of_getElem? e)
      · exact z
theorem put_C (op x y z s : Int) (m : M.MS) (hx : C.C x) (hy : C.C y) (hz : C.C z) (hs : C.C s) (hm : M.Wf m) : ∀ u ∈ P.putN op x y z s m, C.C u := by
  have h1 := M.ld_bound m hm x
  have h2 := M.ld_bound m hm ((x + 1) % 65536)
  have c1 : C.C (M.ld m x) := ⟨h1.1, by omega⟩
  have c2 : C.C (M.cl m x) := by unfold M.cl; exact ⟨by omega, by omega⟩
  have c3 : C.C m.pad := ⟨hm.pad0, by have := hm.pad1; omega⟩
  intro u hu
  unfold P.putN at hu
  split at hu
  all_goals first
    | (simp only [List.mem_cons, List.not_mem_nil, or_false] at hu; rcases hu with rfl | rfl | rfl | rfl <;> assumption)
    | (simp only [List.mem_cons, List.not_mem_nil, or_false] at hu; rcases hu with rfl | rfl | rfl <;> assumption)
    | (simp only [List.mem_cons, List.not_mem_nil, or_false] at hu; rcases hu with rfl | rfl <;> assumption)
    | (simp only [List.mem_cons, List.not_mem_nil, or_false] at hu; subst hu; assumption)
    | skip
  split at hu
  · simp at hu; subst hu; exact C.C_un _ _
  · split at hu
    · simp at hu; subst hu; exact C.C_bi _ _ _
    · simp at hu
theorem nD_C (op : Int) {D : List Int} {R : List (Int × Int)} {m : M.MS} (hD : ∀ x ∈ D, C.C x) (hR : ∀ q ∈ R, C.C q.2) (hm : M.Wf m) : ∀ x ∈ P.nD op D R m, C.C x := by
  intro x hx
  unfold P.nD at hx
  rcases List.mem_append.1 hx with hx | hx
  · exact rest_C hD _ x hx
  · exact put_C _ _ _ _ _ m (P.C_xAt D hD _ _) (P.C_xAt D hD _ _) (P.C_xAt D hD _ _) (lk_C hR _ _) hm x hx
theorem nR_C (op : Int) {D : List Int} {R : List (Int × Int)} (hD : ∀ x ∈ D, C.C x) (hR : ∀ q ∈ R, C.C q.2) : ∀ q ∈ P.nR op D R, C.C q.2 := by
  intro q hq
  unfold P.nR P.retN at hq
  split at hq
  · rcases List.mem_append.1 hq with hq | hq
    · exact hR q hq
    · simp only [List.mem_cons, List.not_mem_nil, or_false] at hq
      rcases hq with rfl | rfl <;> exact P.C_xAt D hD _ _
  · rcases List.mem_append.1 hq with hq | hq
    · exact hR q hq
    · simp only [List.mem_cons, List.not_mem_nil, or_false] at hq
      subst hq; exact P.C_xAt D hD _ _
  · exact hR q (List.mem_of_mem_take hq)
  · exact hR q hq
theorem st_tonesK (m : M.MS) (z : Int) (x : UInt8) : (M.st m z x).tones.length ≤ m.tones.length + 1 := by
  unfold M.st
  split
  · omega
  · split
    · split <;> simp
    · split
      · simp
      · split
        · simp
        · unfold M.stp
          split
          · simp
          · split
            · simp
            · split
              · simp
              · split <;> simp
theorem mem_tonesK (op x y z : Int) (m : M.MS) : (memN op x y z m).tones.length ≤ m.tones.length + 3 := by
  have sc : ∀ (m : M.MS) (a b : Int), (M.sc m a b).tones.length ≤ m.tones.length + 2 := fun m a b => by
    have h1 := st_tonesK (M.st m a (M.b8 b)) ((a + 1) % 65536) (M.b8 (b / 256))
    have h2 := st_tonesK m a (M.b8 b)
    unfold M.sc; omega
  unfold memN
  split
  · have := sc m y x; omega
  · have := st_tonesK m y (M.b8 x); omega
  · have := sc m y ((M.cl m y + x) % 65536); omega
  · unfold M.plt; split
    · have := st_tonesK m (49152 + 64 * y + x) (M.b8 z); omega
    · omega
  · have h1 := st_tonesK (M.sc m 65284 x) 65286 (M.b8 y)
    have h2 := sc m 65284 x
    omega
  · have := st_tonesK m 65280 (M.b8 x); omega
  · omega
theorem xM_ton (op : Int) (D : List Int) (R : List (Int × Int)) (m : M.MS) : (xM op D R m).tones.length ≤ m.tones.length + 3 := by
  unfold xM
  split
  · exact mem_tonesK _ _ _ _ m
  · omega
theorem xD_C (op : Int) {D : List Int} {R : List (Int × Int)} {m : M.MS} (hD : ∀ x ∈ D, C.C x) (hR : ∀ q ∈ R, C.C q.2) (hm : M.Wf m) : ∀ x ∈ xD op D R m, C.C x := by
  unfold xD; split
  · exact nD_C op hD hR hm
  · exact hD
theorem xR_C (op : Int) {D : List Int} {R : List (Int × Int)} (hD : ∀ x ∈ D, C.C x) (hR : ∀ q ∈ R, C.C q.2) : ∀ q ∈ xR op D R, C.C q.2 := by
  unfold xR; split
  · exact nR_C op hD hR
  · exact hR
structure W2 (W : World) (B g bd br bm bx bq bz : Nat) (F G : Nat → Prop) (ev qv : Value) (D : List Int) (R : List (Int × Int)) (m : M.MS) (D' : List Int) (R' : List (Int × Int)) (m' : M.MS) : Prop where
  blk : W.heap[g]? = some (.cells [.pointer (some ⟨bd, 0, none⟩), .pointer (some ⟨br, 0, none⟩), .pointer (some ⟨bm, 0, none⟩), .pointer (some ⟨bx, 0, none⟩), .pointer (some ⟨bq, 0, none⟩), .pointer (some ⟨bz, 0, none⟩)].toArray 42 (0, 0))
  p : PS W bd br bm F D R m
  x : S.EV W B bx ev D'
  y : S.QV W B bq qv R'
  z : M.IsR W G bz m'
  ng : ¬ F g ∧ ¬ G g
  nx : ¬ F bx ∧ ¬ G bx
  nq : ¬ F bq ∧ ¬ G bq
  nev : ∀ k, ev.ownBlock = some k → ¬ F k ∧ ¬ G k
  nqv : ∀ k, qv.ownBlock = some k → ¬ F k ∧ ¬ G k
  nd : ¬ G bd ∧ ¬ G br
  fg : ∀ k, F k → ¬ G k
  lo : B ≤ g ∧ B ≤ bd ∧ B ≤ br
  lf : ∀ k, F k → B ≤ k
  lg : ∀ k, G k → B ≤ k
  fl : ∀ k, F k → k < W.heap.size
  gl : ∀ k, G k → k < W.heap.size
section
variable {W W' : World} {B g bd br bm bx bq bz : Nat} {F G : Nat → Prop} {ev qv : Value} {D D' D1 : List Int} {R R' R1 : List (Int × Int)} {m m' m1 : M.MS}
theorem W2.make (h : WW W B g bd br bm bx bq bz F G ev qv D R m) : W2 W B g bd br bm bx bq bz (fun k => F k ∧ k < W.heap.size) (fun k => G k ∧ k < W.heap.size) ev qv D R m D R m :=
  ⟨h.blk, h.p.cut, h.x, h.y, h.z.mono fun i hi e => ⟨e, hi⟩, ⟨fun e => h.ng.1 e.1, fun e => h.ng.2 e.1⟩, ⟨fun e => h.nx.1 e.1, fun e => h.nx.2 e.1⟩, ⟨fun e => h.nq.1 e.1, fun e => h.nq.2 e.1⟩, fun k e => ⟨fun f => (h.nev k e).1 f.1, fun f => (h.nev k e).2 f.1⟩, fun k e => ⟨fun f => (h.nqv k e).1 f.1, fun f => (h.nqv k e).2 f.1⟩, ⟨fun e => h.nd.1 e.1, fun e => h.nd.2 e.1⟩, fun k e f => h.fg k e.1 f.1, h.lo, fun k e => h.lf k e.1, fun k e => h.lg k e.1, fun k e => e.2, fun k e => e.2⟩
theorem W2.ww (h : W2 W B g bd br bm bx bq bz F G ev qv D R m D R m) : WW W B g bd br bm bx bq bz F G ev qv D R m :=
  ⟨h.blk, h.p, h.x, h.y, h.z, h.ng, h.nx, h.nq, h.nev, h.nqv, h.nd, h.fg, h.lo, h.lf, h.lg⟩
theorem W2.below (h : W2 W B g bd br bm bx bq bz F G ev qv D R m D' R' m') (k : Below W.heap.size W W') : W2 W' B g bd br bm bx bq bz F G ev qv D R m D' R' m' :=
  ⟨(k.block _ (S.lt_of h.blk)).trans h.blk, h.p.below k, EVb h.x k, QVb h.y k, h.z.below k, h.ng, h.nx, h.nq, h.nev, h.nqv, h.nd, h.fg, h.lo, h.lf, h.lg, fun i e => Nat.lt_of_lt_of_le (h.fl i e) k.size, fun i e => Nat.lt_of_lt_of_le (h.gl i e) k.size⟩
theorem blk_ne {W : World} {a b : Nat} {c d : Array Value} {s t : TypeId} (h : W.heap[a]? = some (.cells c s (0, 0))) (k : W.heap[b]? = some (.cells d t (0, 0))) (n : s ≠ t) : a ≠ b := by
  rintro rfl
  rw [h] at k
  injection k with k
  injection k with _ k
  exact n k
theorem W2.ne (h : W2 W B g bd br bm bx bq bz F G ev qv D R m D' R' m') : (g ≠ bd ∧ g ≠ br ∧ g ≠ bx ∧ g ≠ bq) ∧ (bx ≠ bd ∧ bx ≠ br ∧ bq ≠ bd ∧ bq ≠ br) ∧ (∀ k, ev.ownBlock = some k → k ≠ bd ∧ k ≠ br) ∧ (∀ k, qv.ownBlock = some k → k ≠ bd ∧ k ≠ br) :=
  ⟨⟨blk_ne h.blk h.p.d.1 (by decide), blk_ne h.blk h.p.r.1 (by decide), blk_ne h.blk h.x.blk (by decide), blk_ne h.blk h.y.blk (by decide)⟩,
    ⟨blk_ne h.x.blk h.p.d.1 (by decide), blk_ne h.x.blk h.p.r.1 (by decide), blk_ne h.y.blk h.p.d.1 (by decide), blk_ne h.y.blk h.p.r.1 (by decide)⟩,
    fun k e => ⟨S.own_ne h.x.row h.p.d.1 (by decide) k e, S.own_ne h.x.row h.p.r.1 (by decide) k e⟩,
    fun k e => ⟨S.own_ne h.y.row h.p.d.1 (by decide) k e, S.own_ne h.y.row h.p.r.1 (by decide) k e⟩⟩
theorem W2.left (h : W2 W B g bd br bm bx bq bz F G ev qv D R m D' R' m') (hB : B ≤ W.heap.size) (k : PD W W' bd br bm F D1 R1 m1) : W2 W' B g bd br bm bx bq bz (M.gr F W W') G ev qv D1 R1 m1 D' R' m' := by
  obtain ⟨n1, n2, n3, n4⟩ := h.ne
  have lt : ∀ i, i < W.heap.size → ¬ F i → ¬ M.gr F W W' i := fun i hi n f => f.elim n fun e => by have := e.1; omega
  have kp : ∀ i, i < W.heap.size → i ≠ bd → i ≠ br → ¬ F i → W'.heap[i]? = W.heap[i]? := fun i hi a b c => k.t.block i hi (by rintro (e | e | e); exact a e; exact b e; exact c e)
  have gb := S.lt_of h.blk
  have xb := S.lt_of h.x.blk
  have qb := S.lt_of h.y.blk
  refine ⟨(kp g gb n1.1 n1.2.1 h.ng.1).trans h.blk, k.s, EVk h.x fun i hi e => ?_, QVk h.y fun i hi e => ?_, h.z.kept fun i hi e => kp i hi (fun f => h.nd.1 (f ▸ e)) (fun f => h.nd.2 (f ▸ e)) (fun f => h.fg i f e), ⟨lt _ gb h.ng.1, h.ng.2⟩, ⟨lt _ xb h.nx.1, h.nx.2⟩, ⟨lt _ qb h.nq.1, h.nq.2⟩, fun i e => ⟨lt i (h.x.row.lt i e).2 (h.nev i e).1, (h.nev i e).2⟩, fun i e => ⟨lt i (h.y.row.lt i e).2 (h.nqv i e).1, (h.nqv i e).2⟩, h.nd, fun i e f => e.elim (fun x => h.fg i x f) (fun x => by have := h.gl i f; have := x.1; omega), h.lo, fun i e => e.elim (h.lf i) (fun x => Nat.le_trans hB x.1), h.lg, fun i e => e.elim (fun x => Nat.lt_of_lt_of_le (h.fl i x) k.t.size) (fun x => x.2), fun i e => Nat.lt_of_lt_of_le (h.gl i e) k.t.size⟩
  · rcases e with rfl | e
    · exact kp _ hi n2.1 n2.2.1 h.nx.1
    · exact kp i hi (n3 i e).1 (n3 i e).2 (h.nev i e).1
  · rcases e with rfl | e
    · exact kp _ hi n2.2.2.1 n2.2.2.2 h.nq.1
    · exact kp i hi (n4 i e).1 (n4 i e).2 (h.nqv i e).1
theorem W2.rf (h : W2 W B g bd br bm bx bq bz F G ev qv D R m D' R' m') : RF W B bx bq bz G ev qv D' R' m' :=
  ⟨h.x, h.y, h.z, h.nx.2, h.nq.2, fun k e => (h.nev k e).2, fun k e => (h.nqv k e).2, h.gl⟩
theorem W2.right (h : W2 W B g bd br bm bx bq bz F G ev qv D R m D' R' m') (hB : B ≤ W.heap.size) (k : RXD W W' B bx bq bz G ev qv D1 R1 m1) : ∃ G' ev' qv', W2 W' B g bd br bm bx bq bz F G' ev' qv' D R m D1 R1 m1 := by
  obtain ⟨n1, n2, n3, n4⟩ := h.ne
  obtain ⟨ev', qv', G', r, t, nw, nw', hG⟩ := k
  have lt : ∀ i, i < W.heap.size → ¬ G i → ¬ G' i := fun i hi n f => (hG i f).elim n fun e => by omega
  have kp : ∀ i, i < W.heap.size → i ≠ bx → i ≠ bq → ¬ G i → W'.heap[i]? = W.heap[i]? := fun i hi a b c => t.block i hi (by rintro (e | e | e); exact a e; exact b e; exact c e)
  refine ⟨G', ev', qv', ⟨(kp g (S.lt_of h.blk) n1.2.2.1 n1.2.2.2 h.ng.2).trans h.blk, ⟨h.p.d.kept (kp _ (S.lt_of h.p.d.1) n2.1.symm n2.2.2.1.symm h.nd.1), h.p.r.kept (kp _ (S.lt_of h.p.r.1) n2.2.1.symm n2.2.2.2.symm h.nd.2), h.p.m.kept fun i hi e => kp i hi (fun f => h.nx.1 (f ▸ e)) (fun f => h.nq.1 (f ▸ e)) (h.fg i e), h.p.dr, h.p.fd, h.p.fr⟩, r.x, r.y, r.z, ⟨h.ng.1, lt _ (S.lt_of h.blk) h.ng.2⟩, ⟨h.nx.1, r.nx⟩, ⟨h.nq.1, r.nq⟩, fun i e => ⟨fun f => (nw i e).elim (fun x => (h.nev i x).1 f) (fun x => by have := h.fl i f; omega), r.nev i e⟩, fun i e => ⟨fun f => (nw' i e).elim (fun x => (h.nqv i x).1 f) (fun x => by have := h.fl i f; omega), r.nqv i e⟩, ⟨lt _ (S.lt_of h.p.d.1) h.nd.1, lt _ (S.lt_of h.p.r.1) h.nd.2⟩, fun i e => lt i (h.fl i e) (h.fg i e), h.lo, h.lf, fun i e => (hG i e).elim (h.lg i) (fun x => Nat.le_trans hB x), fun i e => Nat.lt_of_lt_of_le (h.fl i e) t.size, r.gl⟩⟩
theorem W2.pb (h : W2 W B g bd br bm bx bq bz F G ev qv D R m D' R' m') (hB : B ≤ W.heap.size) (k : PD W W' bd br bm F D1 R1 m1) : Below B W W' :=
  ⟨k.t.os, k.t.tape, k.t.output, k.t.size, fun i hi => k.t.block i (by omega) (by
    rintro (e | e | e)
    · have := h.lo.2.1; omega
    · have := h.lo.2.2; omega
    · have := h.lf i e; omega)⟩
theorem W2.rb (h : W2 W B g bd br bm bx bq bz F G ev qv D R m D' R' m') (hB : B ≤ W.heap.size) (k : RXD W W' B bx bq bz G ev qv D1 R1 m1) : Below B W W' := by
  obtain ⟨ev', qv', G', r, t, nw, nw', hG⟩ := k
  exact ⟨t.os, t.tape, t.output, t.size, fun i hi => t.block i (by omega) (by
    rintro (e | e | e)
    · have := h.x.hb; omega
    · have := h.y.hb; omega
    · have := h.lg i e; omega)⟩
theorem W2.c6 (h : W2 W B g bd br bm bx bq bz F G ev qv D R m D' R' m') : (W.cell? ⟨g, 0, none⟩ = some (.pointer (some ⟨bd, 0, none⟩)) ∧ W.cell? ⟨g, 1, none⟩ = some (.pointer (some ⟨br, 0, none⟩)) ∧ W.cell? ⟨g, 2, none⟩ = some (.pointer (some ⟨bm, 0, none⟩))) ∧ W.cell? ⟨g, 3, none⟩ = some (.pointer (some ⟨bx, 0, none⟩)) ∧ W.cell? ⟨g, 4, none⟩ = some (.pointer (some ⟨bq, 0, none⟩)) ∧ W.cell? ⟨g, 5, none⟩ = some (.pointer (some ⟨bz, 0, none⟩)) :=
  ⟨⟨S.cell_of W g 0 _ _ _ h.blk rfl, S.cell_of W g 1 _ _ _ h.blk rfl, S.cell_of W g 2 _ _ _ h.blk rfl⟩, S.cell_of W g 3 _ _ _ h.blk rfl, S.cell_of W g 4 _ _ _ h.blk rfl, S.cell_of W g 5 _ _ _ h.blk rfl⟩
theorem do_pd2 (op : Int) (hp : plain op = true) (hD : ∀ x ∈ D, C.C x) (ht : m.tones.length ≤ 999000) (h : PS W bd br bm F D R m) :
    Calls Tryz.prog 21 #[.int .i64 op, .pointer (some ⟨bd, 0, none⟩), .pointer (some ⟨br, 0, none⟩), .pointer (some ⟨bm, 0, none⟩)] W fun e W' => e = .returned (.int .i64 (fl op D R)) ∧ PD W W' bd br bm F (xD op D R m) (xR op D R) (xM op D R m) := by
  refine (do_any op hp bd br bm F D R m hD ht W h).mono fun e W' ⟨h1, h2, h3⟩ => ⟨h1, ?_⟩
  by_cases c : fl op D R = 0
  · unfold xD xR xM
    rw [if_pos c, if_pos c, if_pos c]
    exact h3 c
  · unfold xD xR xM
    rw [if_neg c, if_neg c, if_neg c]
    exact h.same (h2 c)
end
theorem rdo_not (op : Int) (hp : plain op = false) (d r z : Option Addr) (w : World) :
    Calls Tryz.prog 29 #[.int .i64 op, .pointer d, .pointer r, .pointer z] w fun e w' => e = .returned (.int .i64 6) ∧ Below w.heap.size w w' := by
  have kp := rplain_any op w
  rw [hp] at kp
  go_enter Tryz.func29, Tryz.ntmps29
  go_wp2_with fail
  refine kp.mono ?_
  rintro e w1 ⟨rfl, hb1⟩
  have HB := S.hid hb1
  clear kp hb1
  go_wp2
  go_ret
  exact ⟨rfl, HB.out⟩
end Go.Proofs.YtgponcjjnjpfkabGreat.L
