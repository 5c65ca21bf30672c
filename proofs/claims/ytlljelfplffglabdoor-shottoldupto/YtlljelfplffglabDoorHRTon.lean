import Derived.Test.YtlljelfplffglabDoorHDec
import Derived.Deep.RegionHeldLaw
/-! The reference's Tones. -/
namespace Go.Proofs.YtlljelfplffglabDoor.H
open Go.RowKit
open Go.Proofs
open Go.Proofs.YtlljelfplffglabDoor.K
set_option linter.unusedVariables false
set_option linter.unusedSimpArgs false
set_option maxHeartbeats 2000000
set_option maxRecDepth 100000
theorem rtones_any (vt : Value) (ts : List Tn) (hI : ∀ t ∈ ts, inI t.c) (hl : 31 * ts.length + 4096 ≤ room) (w : World) (ht : S.Ls eT 3 w vt ts) :
    Calls Tryd.prog 13 #[vt] w fun e w' => e = .returned (.string ⟨(ts.flatMap tl).toArray⟩) ∧ Below w.heap.size w w' := by
  obtain ⟨pt, ct, rfl, _, _⟩ := ht.ex
  have HT := hid ht
  have HI := hid hI
  unfold room at hl
  clear ht hI
  go_enter Tryd.func13, Tryd.ntmps13
  go_wp2
  go_loopw [3, 4] (fun s i wr => ∃ k : Nat, k ≤ ts.length ∧ i = .int .i64 (k : Int) ∧ s = .string ⟨((ts.take k).flatMap tl).toArray⟩ ∧ Below w.heap.size w wr) (fun _ i _ => ts.length - (intOf i).toNat)
  case atStart => exact ⟨0, by omega, rfl, rfl, Below.refl _ _⟩
  case round =>
    obtain ⟨k, hk, rfl, rfl, hb⟩ := hrel
    by_cases hlt : k < ts.length
    · have i1 : (k : Int) < ts.length := by omega
      obtain ⟨b, ob, cb, eb, a0, a1, a2⟩ := lt_at HT.out k hlt
      simp only [Value.slice.injEq] at eb
      obtain ⟨rfl, _, rfl⟩ := eb
      have hstep : (ts.take (k + 1)).flatMap tl = (ts.take k).flatMap tl ++ tl ts[k] := by
        rw [List.take_succ_eq_append_getElem hlt, List.flatMap_append, List.flatMap_cons, List.flatMap_nil, List.append_nil]
      have hlen := tls_len (ts.take k) (fun t ht => HI.out t (List.mem_of_mem_take ht))
      rw [List.length_take] at hlen
      have hin := HI.out ts[k] (List.getElem_mem hlt)
      generalize ts[k] = t at *
      obtain ⟨tc, tp, tv⟩ := t
      simp only at a0 a1 a2 hstep hin
      have hp16 := tp.toNat_lt
      have hv8 := tv.toNat_lt
      have hil := itoa_len tc hin
      have hdl := dec_len tp.toNat 4 (by omega)
      have hel := dec_len tv.toNat 2 (by omega)
      have hlt0 := World.block_lt_of_cell? w _ a0
      have hlt1 := World.block_lt_of_cell? w _ a1
      have hlt2 := World.block_lt_of_cell? w _ a2
      have hkeep : ∀ W, Below w.heap.size w W → (W.cell? ⟨b, ob + k * 3, none⟩ = some (.int .i64 tc) ∧ W.cell? ⟨b, ob + k * 3 + 1, none⟩ = some (.int .u16 (tp.toNat : Int)) ∧ W.cell? ⟨b, ob + k * 3 + 2, none⟩ = some (.int .u8 (tv.toNat : Int))) := fun W h => ⟨(h.cell hlt0).trans a0, (h.cell hlt1).trans a1, (h.cell hlt2).trans a2⟩
      have HKP := hid hkeep
      obtain ⟨L, hL⟩ : ∃ L, (ts.take k).flatMap tl = L := ⟨_, rfl⟩
      rw [hL] at hstep hlen ⊢
      have e1 : (⟨L.toArray⟩ : ByteArray) ++ ⟨(Lib.itoa tc).toArray⟩ ++ ⟨#[32]⟩ ++ ⟨(Lib.decDigits tp.toNat).toArray⟩ ++ ⟨#[32]⟩ ++ ⟨(Lib.decDigits tv.toNat).toArray⟩ ++ ⟨#[10]⟩ = ⟨(L ++ tl ⟨tc, tp, tv⟩).toArray⟩ := by
        rw [str_app L (Lib.itoa tc), show (⟨#[32]⟩ : ByteArray) = ⟨[32].toArray⟩ from rfl, show (⟨#[10]⟩ : ByteArray) = ⟨[10].toArray⟩ from rfl, str_app (L ++ Lib.itoa tc) [32], str_app (L ++ Lib.itoa tc ++ [32]) (Lib.decDigits tp.toNat), str_app (L ++ Lib.itoa tc ++ [32] ++ Lib.decDigits tp.toNat) [32], str_app (L ++ Lib.itoa tc ++ [32] ++ Lib.decDigits tp.toNat ++ [32]) (Lib.decDigits tv.toNat), str_app (L ++ Lib.itoa tc ++ [32] ++ Lib.decDigits tp.toNat ++ [32] ++ Lib.decDigits tv.toNat) [10], tl]
        simp only [List.append_assoc]
      have q0 : (⟨L.toArray⟩ : ByteArray).size ≤ 31 * ts.length := by rw [size_list]; omega
      have q1 : (⟨(Lib.itoa tc).toArray⟩ : ByteArray).size ≤ 20 := by rw [size_list]; exact hil
      have q2 : (⟨(Lib.decDigits tp.toNat).toArray⟩ : ByteArray).size ≤ 5 := by rw [size_list]; exact hdl
      have q3 : (⟨(Lib.decDigits tv.toNat).toArray⟩ : ByteArray).size ≤ 3 := by rw [size_list]; exact hel
      have h1 := fun W => dec_any tc hin W
      have h2 : ∀ W, Calls Tryd.prog 28 #[.int .i64 (tp.toNat : Int)] W fun e w' => e = .returned (.string ⟨(Lib.decDigits tp.toNat).toArray⟩) ∧ Below W.heap.size W w' := fun W => decn_any tp.toNat (by omega) W
      have h3 : ∀ W, Calls Tryd.prog 28 #[.int .i64 (tv.toNat : Int)] W fun e w' => e = .returned (.string ⟨(Lib.decDigits tv.toNat).toArray⟩) ∧ Below W.heap.size W w' := fun W => decn_any tv.toNat (by omega) W
      generalize (⟨L.toArray⟩ : ByteArray) = S0 at *
      generalize (⟨(Lib.itoa tc).toArray⟩ : ByteArray) = D0 at *
      generalize (⟨(Lib.decDigits tp.toNat).toArray⟩ : ByteArray) = D1 at *
      generalize (⟨(Lib.decDigits tv.toNat).toArray⟩ : ByteArray) = D2 at *
      obtain ⟨S1, hS1⟩ : ∃ S1, S0 ++ D0 = S1 := ⟨_, rfl⟩
      obtain ⟨S2, hS2⟩ : ∃ S2 : ByteArray, S1 ++ ⟨#[32]⟩ = S2 := ⟨_, rfl⟩
      obtain ⟨S3, hS3⟩ : ∃ S3, S2 ++ D1 = S3 := ⟨_, rfl⟩
      obtain ⟨S4, hS4⟩ : ∃ S4 : ByteArray, S3 ++ ⟨#[32]⟩ = S4 := ⟨_, rfl⟩
      obtain ⟨S5, hS5⟩ : ∃ S5, S4 ++ D2 = S5 := ⟨_, rfl⟩
      obtain ⟨S6, hS6⟩ : ∃ S6 : ByteArray, S5 ++ ⟨#[10]⟩ = S6 := ⟨_, rfl⟩
      rw [hS1, hS2, hS3, hS4, hS5, hS6] at e1
      have r1 : S1.size = S0.size + D0.size := by rw [← hS1, ByteArray.size_append]
      have r2 : S2.size = S1.size + 1 := by rw [← hS2, ByteArray.size_append]; rfl
      have r3 : S3.size = S2.size + D1.size := by rw [← hS3, ByteArray.size_append]
      have r4 : S4.size = S3.size + 1 := by rw [← hS4, ByteArray.size_append]; rfl
      have r5 : S5.size = S4.size + D2.size := by rw [← hS5, ByteArray.size_append]
      have z32 : (⟨#[32]⟩ : ByteArray).size = 1 := rfl
      have z10 : (⟨#[10]⟩ : ByteArray).size = 1 := rfl
      have n1 : ¬ 9223372036854775807 < S0.size + D0.size := by omega
      have n2 : ¬ 9223372036854775807 < S1.size + 1 := by omega
      have n3 : ¬ 9223372036854775807 < S2.size + D1.size := by omega
      have n4 : ¬ 9223372036854775807 < S3.size + 1 := by omega
      have n5 : ¬ 9223372036854775807 < S4.size + D2.size := by omega
      have n6 : ¬ 9223372036854775807 < S5.size + 1 := by omega
      have HE1 := hid (And.intro e1 hstep)
      have HB := hid hb
      have yw1 : IntKind.i64.wrap (tp.toNat : Int) = (tp.toNat : Int) := by rw [IntKind.wrap_i64]; omega
      have yw2 : IntKind.i64.wrap (tv.toNat : Int) = (tv.toNat : Int) := by rw [IntKind.wrap_i64]; omega
      clear e1 hstep hL hlen hb r1 r2 r3 r4 r5 q0 q1 q2 q3 hil hdl hel hkeep hlt0 hlt1 hlt2 a0 a1 a2 hin
      go_wp2_with fail
      have hbd : Below w.heap.size w wr.drew := ⟨HB.out.os, HB.out.tape, HB.out.output, HB.out.size, HB.out.block⟩
      refine wp_region_held_drew (S := (fun wz : World => wz.cell? ⟨b, ob + k * 3, none⟩ = some (.int .i64 tc) ∧ wz.cell? ⟨b, ob + k * 3 + 1, none⟩ = some (.int .u16 (tp.toNat : Int)) ∧ wz.cell? ⟨b, ob + k * 3 + 2, none⟩ = some (.int .u8 (tv.toNat : Int)))) (by kernel_rfl) (HKP.out _ hbd) (fun hHeld => ?_)
      generalize wr.drew = y0 at *
      refine wpAnyH_take (i := 0) (v := ?_) rfl (by kernel_rfl) (by kernel_rfl) (by kernel_rfl) (fun c a w h => h) (Or.inl ⟨by rfl, ?_⟩) hHeld ?_
      rotate_left
      · (intro w hSw; (try dsimp only at hSw); go_simp; try with_reducible rfl)
      simp only [Act.put, List.getElem_toArray, List.getElem_cons_zero, List.getElem_cons_succ, List.setIfInBounds_toArray, List.set_cons_zero, List.set_cons_succ]
      refine wpAnyH_take (i := 1) (v := ?_) rfl (by kernel_rfl) (by kernel_rfl) (by kernel_rfl) (fun c a w h => h) (Or.inl ⟨by rfl, ?_⟩) hHeld ?_
      rotate_left
      · (intro w hSw; (try dsimp only at hSw); go_simp; try with_reducible rfl)
      simp only [Act.put, List.getElem_toArray, List.getElem_cons_zero, List.getElem_cons_succ, List.setIfInBounds_toArray, List.set_cons_zero, List.set_cons_succ]
      refine wpAnyH_take (i := 2) (v := ?_) rfl (by kernel_rfl) (by kernel_rfl) (by kernel_rfl) (fun c a w h => h) (Or.inl ⟨by rfl, ?_⟩) hHeld ?_
      rotate_left
      · (intro w hSw; (try dsimp only at hSw); go_simp; try with_reducible rfl)
      simp only [Act.put, List.getElem_toArray, List.getElem_cons_zero, List.getElem_cons_succ, List.setIfInBounds_toArray, List.set_cons_zero, List.set_cons_succ]
      refine wpAnyH_take (i := 3) (v := ?_) rfl (by kernel_rfl) (by kernel_rfl) (by kernel_rfl) (fun c a w h => h) (Or.inl ⟨by rfl, ?_⟩) hHeld ?_
      rotate_left
      · (intro w hSw; (try dsimp only at hSw); go_simp; try with_reducible rfl)
      simp only [Act.put, List.getElem_toArray, List.getElem_cons_zero, List.getElem_cons_succ, List.setIfInBounds_toArray, List.set_cons_zero, List.set_cons_succ]
      refine wpAnyH_take (i := 4) (v := ?_) rfl (by kernel_rfl) (by kernel_rfl) (by kernel_rfl) (fun c a w h => h) (Or.inl ⟨by rfl, ?_⟩) hHeld ?_
      rotate_left
      · (intro w hSw; (try dsimp only at hSw); go_simp; try with_reducible rfl)
      simp only [Act.put, List.getElem_toArray, List.getElem_cons_zero, List.getElem_cons_succ, List.setIfInBounds_toArray, List.set_cons_zero, List.set_cons_succ]
      refine wpAnyH_take (i := 5) (v := ?_) rfl (by kernel_rfl) (by kernel_rfl) (by kernel_rfl) (fun c a w h => h) (Or.inl ⟨by rfl, ?_⟩) hHeld ?_
      rotate_left
      · (intro w hSw; (try dsimp only at hSw); go_simp; try with_reducible rfl)
      simp only [Act.put, List.getElem_toArray, List.getElem_cons_zero, List.getElem_cons_succ, List.setIfInBounds_toArray, List.set_cons_zero, List.set_cons_succ]
      refine wpAnyH_take (i := 9) (v := ?_) rfl (by kernel_rfl) (by kernel_rfl) (by kernel_rfl) (fun c a w h => h) (Or.inl ⟨by rfl, ?_⟩) hHeld ?_
      rotate_left
      · (intro w hSw; (try dsimp only at hSw); go_simp; try with_reducible rfl)
      simp only [Act.put, List.getElem_toArray, List.getElem_cons_zero, List.getElem_cons_succ, List.setIfInBounds_toArray, List.set_cons_zero, List.set_cons_succ]
      refine wpAnyH_take (i := 10) (v := ?_) rfl (by kernel_rfl) (by kernel_rfl) (by kernel_rfl) (fun c a w h => h) (Or.inl ⟨by rfl, ?_⟩) hHeld ?_
      rotate_left
      · (intro w hSw; (try dsimp only at hSw); go_simp; try with_reducible rfl)
      simp only [Act.put, List.getElem_toArray, List.getElem_cons_zero, List.getElem_cons_succ, List.setIfInBounds_toArray, List.set_cons_zero, List.set_cons_succ]
      refine wpAnyH_take (i := 11) (v := ?_) rfl (by kernel_rfl) (by kernel_rfl) (by kernel_rfl) (fun c a w h => h) (Or.inl ⟨by rfl, ?_⟩) hHeld ?_
      rotate_left
      · (intro w hSw; (try dsimp only at hSw); go_simp; try with_reducible rfl)
      simp only [Act.put, List.getElem_toArray, List.getElem_cons_zero, List.getElem_cons_succ, List.setIfInBounds_toArray, List.set_cons_zero, List.set_cons_succ]
      refine wpAnyH_take (i := 12) (v := ?_) rfl (by kernel_rfl) (by kernel_rfl) (by kernel_rfl) (fun c a w h => h) (Or.inl ⟨by rfl, ?_⟩) hHeld ?_
      rotate_left
      · (intro w hSw; (try dsimp only at hSw); go_simp; try with_reducible rfl)
      simp only [Act.put, List.getElem_toArray, List.getElem_cons_zero, List.getElem_cons_succ, List.setIfInBounds_toArray, List.set_cons_zero, List.set_cons_succ]
      refine wpAnyH_take (i := 13) (v := ?_) rfl (by kernel_rfl) (by kernel_rfl) (by kernel_rfl) (fun c a w h => h) (Or.inl ⟨by rfl, ?_⟩) hHeld ?_
      rotate_left
      · (intro w hSw; (try dsimp only at hSw); go_simp; try with_reducible rfl)
      simp only [Act.put, List.getElem_toArray, List.getElem_cons_zero, List.getElem_cons_succ, List.setIfInBounds_toArray, List.set_cons_zero, List.set_cons_succ]
      refine wpAnyH_take (i := 14) (v := ?_) rfl (by kernel_rfl) (by kernel_rfl) (by kernel_rfl) (fun c a w h => h) (Or.inl ⟨by rfl, ?_⟩) hHeld ?_
      rotate_left
      · (intro w hSw; (try dsimp only at hSw); go_simp; try with_reducible rfl)
      simp only [Act.put, List.getElem_toArray, List.getElem_cons_zero, List.getElem_cons_succ, List.setIfInBounds_toArray, List.set_cons_zero, List.set_cons_succ]
      refine wpAnyH_take (i := 18) (v := ?_) rfl (by kernel_rfl) (by kernel_rfl) (by kernel_rfl) (fun c a w h => h) (Or.inl ⟨by rfl, ?_⟩) hHeld ?_
      rotate_left
      · (intro w hSw; (try dsimp only at hSw); go_simp; try with_reducible rfl)
      simp only [Act.put, List.getElem_toArray, List.getElem_cons_zero, List.getElem_cons_succ, List.setIfInBounds_toArray, List.set_cons_zero, List.set_cons_succ]
      refine wpAnyH_take (i := 19) (v := ?_) rfl (by kernel_rfl) (by kernel_rfl) (by kernel_rfl) (fun c a w h => h) (Or.inl ⟨by rfl, ?_⟩) hHeld ?_
      rotate_left
      · (intro w hSw; (try dsimp only at hSw); go_simp; try with_reducible rfl)
      simp only [Act.put, List.getElem_toArray, List.getElem_cons_zero, List.getElem_cons_succ, List.setIfInBounds_toArray, List.set_cons_zero, List.set_cons_succ]
      refine wpAnyH_take (i := 20) (v := ?_) rfl (by kernel_rfl) (by kernel_rfl) (by kernel_rfl) (fun c a w h => h) (Or.inl ⟨by rfl, ?_⟩) hHeld ?_
      rotate_left
      · (intro w hSw; (try dsimp only at hSw); go_simp; try with_reducible rfl)
      simp only [Act.put, List.getElem_toArray, List.getElem_cons_zero, List.getElem_cons_succ, List.setIfInBounds_toArray, List.set_cons_zero, List.set_cons_succ]
      refine wpAnyH_take (i := 21) (v := ?_) rfl (by kernel_rfl) (by kernel_rfl) (by kernel_rfl) (fun c a w h => h) (Or.inl ⟨by rfl, ?_⟩) hHeld ?_
      rotate_left
      · (intro w hSw; (try dsimp only at hSw); go_simp; try with_reducible rfl)
      simp only [Act.put, List.getElem_toArray, List.getElem_cons_zero, List.getElem_cons_succ, List.setIfInBounds_toArray, List.set_cons_zero, List.set_cons_succ]
      refine wpAnyH_take (i := 22) (v := ?_) rfl (by kernel_rfl) (by kernel_rfl) (by kernel_rfl) (fun c a w h => h) (Or.inl ⟨by rfl, ?_⟩) hHeld ?_
      rotate_left
      · (intro w hSw; (try dsimp only at hSw); go_simp; try with_reducible rfl)
      simp only [Act.put, List.getElem_toArray, List.getElem_cons_zero, List.getElem_cons_succ, List.setIfInBounds_toArray, List.set_cons_zero, List.set_cons_succ]
      refine wpAnyH_take (i := 23) (v := ?_) rfl (by kernel_rfl) (by kernel_rfl) (by kernel_rfl) (fun c a w h => h) (Or.inl ⟨by rfl, ?_⟩) hHeld ?_
      rotate_left
      · (intro w hSw; (try dsimp only at hSw); go_simp; try with_reducible rfl)
      simp only [Act.put, List.getElem_toArray, List.getElem_cons_zero, List.getElem_cons_succ, List.setIfInBounds_toArray, List.set_cons_zero, List.set_cons_succ]
      refine wpAnyH_ready (rs := [6]) (by kernel_rfl) (by simp) ?_
      refine AllReadyH.cons rfl (fun K hK => ?_) AllReadyH.nil
      rw [if_pos (by rfl)]
      go_simp
      refine (h1 y0).mono ?_
      rintro e y1 ⟨rfl, hbn⟩
      have hb1 := hbd.trans (hbn.mono hbd.size)
      refine hK.out _ _ (HKP.out _ hb1) (fun hHeld => ?_)
      clear hK K hbn
      try simp only [Act.put, List.getElem_toArray, List.getElem_cons_zero, List.getElem_cons_succ, List.setIfInBounds_toArray, List.set_cons_zero, List.set_cons_succ]
      refine wpAnyH_take (i := 7) (v := ?_) rfl (by kernel_rfl) (by kernel_rfl) (by kernel_rfl) (fun c a w h => h) (Or.inl ⟨by rfl, ?_⟩) hHeld ?_
      rotate_left
      · (intro w hSw; (try dsimp only at hSw); go_simp; try with_reducible rfl)
      simp only [Act.put, List.getElem_toArray, List.getElem_cons_zero, List.getElem_cons_succ, List.setIfInBounds_toArray, List.set_cons_zero, List.set_cons_succ]
      try rw [hS1]
      refine wpAnyH_take (i := 8) (v := ?_) rfl (by kernel_rfl) (by kernel_rfl) (by kernel_rfl) (fun c a w h => h) (Or.inl ⟨by rfl, ?_⟩) hHeld ?_
      rotate_left
      · (intro w hSw; (try dsimp only at hSw); go_simp; try with_reducible rfl)
      simp only [Act.put, List.getElem_toArray, List.getElem_cons_zero, List.getElem_cons_succ, List.setIfInBounds_toArray, List.set_cons_zero, List.set_cons_succ]
      try rw [hS2]
      refine wpAnyH_ready (rs := [15]) (by kernel_rfl) (by simp) ?_
      refine AllReadyH.cons rfl (fun K hK => ?_) AllReadyH.nil
      rw [if_pos (by rfl)]
      go_simp
      refine (h2 y1).mono ?_
      rintro e y2 ⟨rfl, hbn⟩
      have hb2 := hb1.trans (hbn.mono hb1.size)
      refine hK.out _ _ (HKP.out _ hb2) (fun hHeld => ?_)
      clear hK K hbn
      try simp only [Act.put, List.getElem_toArray, List.getElem_cons_zero, List.getElem_cons_succ, List.setIfInBounds_toArray, List.set_cons_zero, List.set_cons_succ]
      refine wpAnyH_take (i := 16) (v := ?_) rfl (by kernel_rfl) (by kernel_rfl) (by kernel_rfl) (fun c a w h => h) (Or.inl ⟨by rfl, ?_⟩) hHeld ?_
      rotate_left
      · (intro w hSw; (try dsimp only at hSw); go_simp; try with_reducible rfl)
      simp only [Act.put, List.getElem_toArray, List.getElem_cons_zero, List.getElem_cons_succ, List.setIfInBounds_toArray, List.set_cons_zero, List.set_cons_succ]
      try rw [hS3]
      refine wpAnyH_take (i := 17) (v := ?_) rfl (by kernel_rfl) (by kernel_rfl) (by kernel_rfl) (fun c a w h => h) (Or.inl ⟨by rfl, ?_⟩) hHeld ?_
      rotate_left
      · (intro w hSw; (try dsimp only at hSw); go_simp; try with_reducible rfl)
      simp only [Act.put, List.getElem_toArray, List.getElem_cons_zero, List.getElem_cons_succ, List.setIfInBounds_toArray, List.set_cons_zero, List.set_cons_succ]
      try rw [hS4]
      refine wpAnyH_ready (rs := [24]) (by kernel_rfl) (by simp) ?_
      refine AllReadyH.cons rfl (fun K hK => ?_) AllReadyH.nil
      rw [if_pos (by rfl)]
      go_simp
      refine (h3 y2).mono ?_
      rintro e y3 ⟨rfl, hbn⟩
      have hb3 := hb2.trans (hbn.mono hb2.size)
      refine hK.out _ _ (HKP.out _ hb3) (fun hHeld => ?_)
      clear hK K hbn
      try simp only [Act.put, List.getElem_toArray, List.getElem_cons_zero, List.getElem_cons_succ, List.setIfInBounds_toArray, List.set_cons_zero, List.set_cons_succ]
      refine wpAnyH_take (i := 25) (v := ?_) rfl (by kernel_rfl) (by kernel_rfl) (by kernel_rfl) (fun c a w h => h) (Or.inl ⟨by rfl, ?_⟩) hHeld ?_
      rotate_left
      · (intro w hSw; (try dsimp only at hSw); go_simp; try with_reducible rfl)
      simp only [Act.put, List.getElem_toArray, List.getElem_cons_zero, List.getElem_cons_succ, List.setIfInBounds_toArray, List.set_cons_zero, List.set_cons_succ]
      try rw [hS5]
      refine wpAnyH_take (i := 26) (v := ?_) rfl (by kernel_rfl) (by kernel_rfl) (by kernel_rfl) (fun c a w h => h) (Or.inl ⟨by rfl, ?_⟩) hHeld ?_
      rotate_left
      · (intro w hSw; (try dsimp only at hSw); go_simp; try with_reducible rfl)
      simp only [Act.put, List.getElem_toArray, List.getElem_cons_zero, List.getElem_cons_succ, List.setIfInBounds_toArray, List.set_cons_zero, List.set_cons_succ]
      try rw [hS6]
      refine wpAnyH_take (i := 27) (v := ?_) rfl (by kernel_rfl) (by kernel_rfl) (by kernel_rfl) (fun c a w h => h) (Or.inl ⟨by rfl, ?_⟩) hHeld ?_
      rotate_left
      · (intro w hSw; (try dsimp only at hSw); go_simp; try with_reducible rfl)
      simp only [Act.put, List.getElem_toArray, List.getElem_cons_zero, List.getElem_cons_succ, List.setIfInBounds_toArray, List.set_cons_zero, List.set_cons_succ]
      refine wpAnyH_done (by kernel_rfl) ?_ _
      have HE := hid hb3
      clear hHeld h1 h2 h3 hbd hb1 hb2 hb3 hS1 hS2 hS3 hS4 hS5 hS6
      go_wp2
      go_roundw
      case rel => exact ⟨k + 1, by omega, by go_num, by rw [HE1.out.2, ← HE1.out.1], HE.out⟩
      case measure => simp [intOf]; omega
    · obtain rfl : k = ts.length := by omega
      rw [List.take_length]
      have HE := hid hb
      clear hb
      obtain ⟨SS, hSS⟩ : ∃ SS : ByteArray, ⟨(ts.flatMap tl).toArray⟩ = SS := ⟨_, rfl⟩
      rw [hSS]
      have HSS := hid hSS
      clear hSS
      go_wp2
      go_ret
      exact ⟨by rw [HSS.out]; rfl, HE.out⟩
end Go.Proofs.YtlljelfplffglabDoor.H
