import Derived.Test.YtcmaccefjlgbfaaDuo
import Derived.Test.YtcmaccefjlgbfaaRestMath
import Derived.Test.YtcmaccefjlgbfaaRSame
import Derived.Test.YtcmaccefjlgbfaaApart
import Derived.Deep.RegionHeld3
import Derived.Deep.RegionHeldLaw
/-! A step of the pair: Tones. -/
namespace Go.Proofs.Ytcmaccefjlgbfaa
open Go.RowKit
open Go.Proofs
set_option linter.unusedVariables false
set_option linter.unusedSimpArgs false
set_option maxHeartbeats 2000000
set_option maxRecDepth 100000
theorem play10_0 (B p : Nat) (wh at' X Y C N : Int) (z0 : 0 ≤ at') (z1 : at' < 65536) (x0 : 0 ≤ X) (x1 : X < 65536) (y0 : 0 ≤ Y) (y1 : Y < 65536) (hw : (wrap64 (wh.tmod 2 + 2)).tmod 2 = 0) (T : Nat) (hT : T ≤ 900000) (W : World) {c mb rb : Nat → Nat} {s : Nat → MS} (h : Duo W B p c mb rb s s) (ht : ∀ j, j < 2 → (s j).tones.length ≤ T) :
    Calls Try.prog 34 #[.pointer (some ⟨p, 0, none⟩), .agg #[.int .i64 10, .int .i64 wh, .int .u16 at', .int .u16 X, .int .u16 Y, .int .u16 C, .int .i64 N]] W fun e w' => e = .returned (.bool true) ∧ PlE B p (T + 3) W w' := by
  have hz : (W.alloc (.cells #[.int .i64 10, .int .i64 wh, .int .u16 at', .int .u16 X, .int .u16 Y, .int .u16 C, .int .i64 N] 76)).heap[W.heap.size]? = some (.cells (opC 10 wh at' X Y C N).toArray 76 (0, 0)) := heap_alloc_new W _
  have hb : Below W.heap.size W (W.alloc (.cells #[.int .i64 10, .int .i64 wh, .int .u16 at', .int .u16 X, .int .u16 Y, .int .u16 C, .int .i64 N] 76)) := (Below.refl _ W).alloc (Nat.le_refl _) _
  have P := Pb.start h hb hz
  obtain ⟨g, hg⟩ : ∃ g, W.heap.size = g := ⟨_, rfl⟩
  rw [hg] at P
  clear hz hb h
  go_enter Try.func34, Try.ntmps34
  go_wp2_with fail
  generalize hW1 : W.alloc (.cells #[.int .i64 10, .int .i64 wh, .int .u16 at', .int .u16 X, .int .u16 Y, .int .u16 C, .int .i64 N] 76) = W1 at *
  have s0 : (fun w' : World => w'.cell? ⟨p, 0, none⟩ = some (.pointer (some ⟨mb 0, 0, none⟩)) ∧ w'.cell? ⟨p, 2, none⟩ = some (.pointer (some ⟨rb 0, 0, none⟩))) W1.drew := ⟨P.drew.pcell 0 _ rfl, P.drew.pcell 2 _ rfl⟩
  have t0 := ht 0 (by omega)
  have f0 : W1.cell? ⟨g, 0, none⟩ = some (.int .i64 10) := P.bcell 0 _ rfl
  have HT : Hid _ := fun (j : Nat) (hj : j < 2) => Nat.le_trans (ht j hj) (Nat.le_add_right T 3)
  obtain ⟨F1, a1, n1⟩ := P.drew.callM 0 (by omega)
  have k1 := tones_any (mb 0) W1.drew a1 (by omega)
  obtain ⟨F2, ⟨hw2, u0, gr', gc, gs, tv, hR⟩, n2⟩ := P.drew.callR 0 (by omega)
  obtain ⟨tp, tq, etv⟩ := own_form hR.tones
  subst etv
  have SF : ∀ wz, Below W1.drew.heap.size W1.drew wz → (fun wz : World => wz.cell? ⟨rb 0, 9, none⟩ = some (.slice tp (s 0).tones.length tq) ∧ wz.cell? ⟨rb 0, 4, none⟩ = some (.int .u8 (s 0).pad)) wz ∧ TRow wz 0 (.slice tp (s 0).tones.length tq) (s 0).tones := fun wz k => by
    have h' := hR.kept (W' := wz) fun i hi _ => k.block i hi
    exact ⟨⟨cell_of wz (rb 0) 9 _ 80 _ h'.blk rfl, cell_of wz (rb 0) 4 _ 80 _ h'.blk rfl⟩, h'.tones⟩
  have HP : Hid _ := P.drew
  have HS : Hid _ := SF
  clear P a1 n1 hW1 ht hR n2 hw2 SF
  go_region_held3 (fun w' => w'.cell? ⟨p, 0, none⟩ = some (.pointer (some ⟨mb 0, 0, none⟩)) ∧ w'.cell? ⟨p, 2, none⟩ = some (.pointer (some ⟨rb 0, 0, none⟩))) (first | (with_reducible exact s0)) (fail)
  go_wp2_with fail
  refine k1.mono ?_
  rintro e w2 ⟨u, rfl, hu, hB2⟩
  obtain ⟨up', uc, rfl⟩ := own_form hu
  have hA2 : Below W1.drew.heap.size W1.drew w2.drew := hB2.drew
  have hu' : TRow w2.drew W1.drew.heap.size (.slice up' (s 0).tones.length uc) (s 0).tones := own_kept hu fun _ _ _ => rfl
  have k2 := sameTones_any _ _ (s 0).tones (by unfold room; omega) w2.drew hu' (HS.out _ hA2).2
  have s1 := (HS.out _ hA2).1
  have HU : Hid _ := And.intro hu' hA2
  clear k1 hu hB2 hu' hA2 s0 f0
  go_wp2_with fail
  refine wp_region_held_drew (S := (fun wz : World => wz.cell? ⟨rb 0, 9, none⟩ = some (.slice tp (s 0).tones.length tq) ∧ wz.cell? ⟨rb 0, 4, none⟩ = some (.int .u8 (s 0).pad))) (by kernel_rfl) s1 (fun hHeld => ?_)
  generalize hWd : w2.drew = Wd at *
  refine wpAnyH_take (i := 0) (v := ?_) rfl (by kernel_rfl) (by kernel_rfl) (by kernel_rfl) (fun c a w h => h) (Or.inl ⟨by rfl, ?_⟩) hHeld ?_
  rotate_left
  · (intro w hSw; (try dsimp only at hSw); go_simp; try with_reducible rfl)
  simp only [Act.put, List.getElem_toArray, List.getElem_cons_zero, List.getElem_cons_succ, List.setIfInBounds_toArray, List.set_cons_zero, List.set_cons_succ]
  refine wpAnyH_take (i := 1) (v := ?_) rfl (by kernel_rfl) (by kernel_rfl) (by kernel_rfl) (fun c a w h => h) (Or.inl ⟨by rfl, ?_⟩) hHeld ?_
  rotate_left
  · (intro w hSw; (try dsimp only at hSw); go_simp; try with_reducible rfl)
  simp only [Act.put, List.getElem_toArray, List.getElem_cons_zero, List.getElem_cons_succ, List.setIfInBounds_toArray, List.set_cons_zero, List.set_cons_succ]
  refine wpAnyH_take (i := 2) (v := ?_) rfl (by kernel_rfl) (by kernel_rfl) (by kernel_rfl) (fun c a w h => h) (Or.inl ⟨by rfl, ?_⟩) hHeld ?_
  rotate_left
  · (intro w hSw; (try dsimp only at hSw); go_simp; try with_reducible rfl)
  simp only [Act.put, List.getElem_toArray, List.getElem_cons_zero, List.getElem_cons_succ, List.setIfInBounds_toArray, List.set_cons_zero, List.set_cons_succ]
  refine wpAnyH_take (i := 3) (v := ?_) rfl (by kernel_rfl) (by kernel_rfl) (by kernel_rfl) (fun c a w h => h) (Or.inl ⟨by rfl, ?_⟩) hHeld ?_
  rotate_left
  · (intro w hSw; (try dsimp only at hSw); go_simp; try with_reducible rfl)
  simp only [Act.put, List.getElem_toArray, List.getElem_cons_zero, List.getElem_cons_succ, List.setIfInBounds_toArray, List.set_cons_zero, List.set_cons_succ]
  refine wpAnyH_take (i := 4) (v := ?_) rfl (by kernel_rfl) (by kernel_rfl) (by kernel_rfl) (fun c a w h => h) (Or.inl ⟨by rfl, ?_⟩) hHeld ?_
  rotate_left
  · (intro w hSw; (try dsimp only at hSw); go_simp; try with_reducible rfl)
  simp only [Act.put, List.getElem_toArray, List.getElem_cons_zero, List.getElem_cons_succ, List.setIfInBounds_toArray, List.set_cons_zero, List.set_cons_succ]
  refine wpAnyH_ready (rs := [5]) (by kernel_rfl) (by simp) ?_
  refine AllReadyH.cons rfl (fun K hK => ?_) AllReadyH.nil
  go_simp
  refine k2.mono ?_
  rintro e w3 ⟨rfl, q, rfl⟩
  have hA3 : Below W1.drew.heap.size W1.drew (Wd.drewN q) := HU.out.2.trans ⟨rfl, rfl, rfl, Nat.le_refl _, fun _ _ => rfl⟩
  have s3 := (HS.out _ hA3).1
  obtain ⟨F3, a3, n3⟩ := (HP.out.below hA3).callM 0 (by omega)
  have k3 := pad_any (mb 0) _ a3
  have HA3 : Hid _ := hA3
  clear k2 hA3 a3 n3
  refine hK.out _ _ s3 (fun hHeld => ?_)
  clear hK K
  try simp only [Act.put, List.getElem_toArray, List.getElem_cons_zero, List.getElem_cons_succ, List.setIfInBounds_toArray, List.set_cons_zero, List.set_cons_succ]
  refine wpAnyH_take (i := 6) (v := ?_) rfl (by kernel_rfl) (by kernel_rfl) (by kernel_rfl) (fun c a w h => h) (Or.inl ⟨by rfl, ?_⟩) hHeld ?_
  rotate_left
  · (intro w hSw; (try dsimp only at hSw); go_simp; try with_reducible rfl)
  simp only [Act.put, List.getElem_toArray, List.getElem_cons_zero, List.getElem_cons_succ, List.setIfInBounds_toArray, List.set_cons_zero, List.set_cons_succ]
  refine wpAnyH_take (i := 7) (v := ?_) rfl (by kernel_rfl) (by kernel_rfl) (by kernel_rfl) (fun c a w h => h) (Or.inl ⟨by rfl, ?_⟩) hHeld ?_
  rotate_left
  · (intro w hSw; (try dsimp only at hSw); go_simp; try with_reducible rfl)
  simp only [Act.put, List.getElem_toArray, List.getElem_cons_zero, List.getElem_cons_succ, List.setIfInBounds_toArray, List.set_cons_zero, List.set_cons_succ]
  refine wpAnyH_take (i := 9) (v := ?_) rfl (by kernel_rfl) (by kernel_rfl) (by kernel_rfl) (fun c a w h => h) (Or.inl ⟨by rfl, ?_⟩) hHeld ?_
  rotate_left
  · (intro w hSw; (try dsimp only at hSw); go_simp; try with_reducible rfl)
  simp only [Act.put, List.getElem_toArray, List.getElem_cons_zero, List.getElem_cons_succ, List.setIfInBounds_toArray, List.set_cons_zero, List.set_cons_succ]
  refine wpAnyH_take (i := 10) (v := ?_) rfl (by kernel_rfl) (by kernel_rfl) (by kernel_rfl) (fun c a w h => h) (Or.inl ⟨by rfl, ?_⟩) hHeld ?_
  rotate_left
  · (intro w hSw; (try dsimp only at hSw); go_simp; try with_reducible rfl)
  simp only [Act.put, List.getElem_toArray, List.getElem_cons_zero, List.getElem_cons_succ, List.setIfInBounds_toArray, List.set_cons_zero, List.set_cons_succ]
  refine wpAnyH_take (i := 11) (v := ?_) rfl (by kernel_rfl) (by kernel_rfl) (by kernel_rfl) (fun c a w h => h) (Or.inl ⟨by rfl, ?_⟩) hHeld ?_
  rotate_left
  · (intro w hSw; (try dsimp only at hSw); go_simp; try with_reducible rfl)
  simp only [Act.put, List.getElem_toArray, List.getElem_cons_zero, List.getElem_cons_succ, List.setIfInBounds_toArray, List.set_cons_zero, List.set_cons_succ]
  refine wpAnyH_take (i := 12) (v := ?_) rfl (by kernel_rfl) (by kernel_rfl) (by kernel_rfl) (fun c a w h => h) (Or.inl ⟨by rfl, ?_⟩) hHeld ?_
  rotate_left
  · (intro w hSw; (try dsimp only at hSw); go_simp; try with_reducible rfl)
  simp only [Act.put, List.getElem_toArray, List.getElem_cons_zero, List.getElem_cons_succ, List.setIfInBounds_toArray, List.set_cons_zero, List.set_cons_succ]
  refine wpAnyH_ready (rs := [8]) (by kernel_rfl) (by simp) ?_
  refine AllReadyH.cons rfl (fun K hK => ?_) AllReadyH.nil
  go_simp
  refine k3.mono ?_
  rintro e w4 ⟨rfl, q2, rfl⟩
  have hA4 : Below W1.drew.heap.size W1.drew ((Wd.drewN q).drewN q2) := HA3.out.trans ⟨rfl, rfl, rfl, Nat.le_refl _, fun _ _ => rfl⟩
  have s4 := (HS.out _ hA4).1
  have hu4 : TRow ((Wd.drewN q).drewN q2) W1.drew.heap.size (.slice up' (s 0).tones.length uc) (s 0).tones := own_kept HU.out.1 fun _ _ _ => rfl
  have H4 : Hid _ := And.intro hu4 hA4
  clear k3 hA4 hu4
  refine hK.out _ _ s4 (fun hHeld => ?_)
  clear hK K
  try simp only [Act.put, List.getElem_toArray, List.getElem_cons_zero, List.getElem_cons_succ, List.setIfInBounds_toArray, List.set_cons_zero, List.set_cons_succ]
  refine wpAnyH_take (i := 13) (v := ?_) rfl (by kernel_rfl) (by kernel_rfl) (by kernel_rfl) (fun c a w h => h) (Or.inl ⟨by rfl, ?_⟩) hHeld ?_
  rotate_left
  · (intro w hSw; (try dsimp only at hSw); go_simp; try with_reducible rfl)
  simp only [Act.put, List.getElem_toArray, List.getElem_cons_zero, List.getElem_cons_succ, List.setIfInBounds_toArray, List.set_cons_zero, List.set_cons_succ]
  refine wpAnyH_ready (rs := [14]) (by kernel_rfl) (by simp) ?_
  refine AllReadyH.cons rfl (fun K hK => ?_) AllReadyH.nil
  go_simp
  refine hK.out _ _ s4 (fun hHeld => ?_)
  clear hK K
  try simp only [Act.put, List.getElem_toArray, List.getElem_cons_zero, List.getElem_cons_succ, List.setIfInBounds_toArray, List.set_cons_zero, List.set_cons_succ]
  refine wpAnyH_ready (rs := [15]) (by kernel_rfl) (by simp) ?_
  refine AllReadyH.cons rfl (fun K hK => ?_) AllReadyH.nil
  go_simp
  refine hK.out _ _ s4 (fun hHeld => ?_)
  clear hK K
  try simp only [Act.put, List.getElem_toArray, List.getElem_cons_zero, List.getElem_cons_succ, List.setIfInBounds_toArray, List.set_cons_zero, List.set_cons_succ]
  refine wpAnyH_done (by kernel_rfl) ?_ _
  try simp only [Act.put, List.setIfInBounds_toArray, List.set_cons_zero, List.set_cons_succ]
  generalize hA : W1.drew = A at *
  clear hHeld s1 s3 s4 HU HA3 hWd
  go_wp2
  go_loopw [177] (fun i wr => ∃ (k : Nat) (xs : List Value), k ≤ (s 0).tones.length ∧ i = .int .i64 (k : Int) ∧ wr.ownsRow A.heap.size 90 3 (.slice up' (s 0).tones.length uc) (s 0).tones.length xs ∧ Below A.heap.size A wr) (fun i _ => (s 0).tones.length - (intOf i).toNat)
  case atStart => exact ⟨0, _, by omega, rfl, own_kept H4.out.1 fun _ _ _ => rfl, H4.out.2.trans ⟨rfl, rfl, rfl, Nat.le_refl _, fun _ _ => rfl⟩⟩
  case round =>
    clear H4
    obtain ⟨k, xs, hk, rfl, hown, hAr⟩ := hrel
    by_cases hlt : k < (s 0).tones.length
    · have i1 : (k : Int) < (s 0).tones.length := by omega
      obtain ⟨g1, c1, e1⟩ := own_pos hown (by omega)
      simp only [Value.slice.injEq] at e1
      obtain ⟨rfl, _, rfl⟩ := e1
      have hxl : k * 3 + 1 < xs.length := by rw [hown.1]; omega
      have hcell := World.ownsRow.cells hown (g := g1) rfl (k * 3 + 1) _ (List.getElem?_eq_getElem hxl)
      rw [Addr.add_lit, Nat.zero_add] at hcell
      obtain ⟨cur, hcur⟩ := own_block hown g1 rfl
      have hfz : wr.frozen? ⟨g1, k * 3 + 1, none⟩ = false := by simp [World.frozen?, hcur]
      have hst := (hown.stored (k * 3 + 1) (.int .u16 7)).1
      have hlo := (hown.lt g1 rfl).1
      have hAs : Below A.heap.size A (wr.setCell ⟨g1, k * 3 + 1, none⟩ (.int .u16 7)) := hAr.setCell (p := ⟨g1, k * 3 + 1, none⟩) hlo _
      generalize xs[k * 3 + 1] = old at *
      have H5 : Hid _ := And.intro hst hAs
      clear hst hAs hown hAr hcur hlo
      go_wp2
      go_roundw
      case rel =>
        first
          | exact ⟨k + 1, _, by omega, by go_num, H5.out.1, H5.out.2⟩
          | ((repeat apply Exists.intro); refine ⟨⟨k + 1, _, by omega, ?_, H5.out.1, H5.out.2⟩, rfl⟩; go_num)
      case measure => simp [intOf]; omega
    · obtain rfl : k = (s 0).tones.length := by omega
      have hbl : Below wr.heap.size wr (wr.alloc (.cells #[.int .i64 0, .int .u16 9, .int .u8 0] 90)) := (Below.refl _ wr).alloc (Nat.le_refl _) _
      have hown1 := own_below hown hbl
      have hcs : Cs (wr.alloc (.cells #[.int .i64 0, .int .u16 9, .int .u8 0] 90)) (.slice (some ⟨wr.heap.size, 0, none⟩) 1 1) 3 1 (tcell (0, 9, 0)) := by
        refine .inr ⟨⟨wr.heap.size, 0, none⟩, 1, rfl, rfl, ?_, tc_one [(0, 9, 0)]⟩
        intro j v hj
        have hn : (wr.alloc (.cells #[.int .i64 0, .int .u16 9, .int .u8 0] 90)).heap[wr.heap.size]? = some (.cells (tcell (0, 9, 0)).toArray 90 (0, 0)) := heap_alloc_new wr _
        rw [Addr.add_lit, Nat.zero_add]
        exact cell_of _ _ _ _ 90 v hn hj
      have hz : A.heap.size ≤ (wr.alloc (.cells #[.int .i64 0, .int .u16 9, .int .u8 0] 90)).heap.size := Nat.le_trans hAr.size hbl.size
      have hend : ∀ v' w', Grew (wr.alloc (.cells #[.int .i64 0, .int .u16 9, .int .u8 0] 90)) w' (.slice up' (s 0).tones.length uc) v' → Below A.heap.size A w' := fun v' w' hg => hg.belowAll (fun x e => (hown1.lt x e).1) (hAr.trans (hbl.mono hAr.size)) (Nat.le_refl _)
      have HE : Hid _ := hend
      clear hend hown hAr hbl
      go_wp2_with (first | (at_builtin; refine wpList_append_row _ rfl _ _ 52 90 (.agg #[.int .i64 0, .int .u16 0, .int .u8 0]) 3 16 Try.underlying52 info90 rfl (by decide) rfl A.heap.size _ (s 0).tones.length _ rfl hown1 _ 1 _ rfl hcs (by unfold room; omega) (by unfold maxLen; omega) hz ?_))
      intro v' w' ho hg
      obtain ⟨vp, vc, rfl⟩ := own_form ho
      have hA9 := HE.out _ _ hg
      obtain ⟨s9, s8⟩ := (HS.out _ hA9).1
      have P9 := HP.out.below hA9
      have HP9 : Hid _ := P9
      have ewr : wrap64 (((s 0).tones.length : Int) + 1) = ((s 0).tones.length : Int) + 1 := by unfold wrap64; omega
      clear P9 hA9 ho hg HE hown1 hcs hz
      go_wp2
      go_ret
      exact ⟨by simp, HP9.out.done HT.out⟩
theorem play10_1 (B p : Nat) (wh at' X Y C N : Int) (z0 : 0 ≤ at') (z1 : at' < 65536) (x0 : 0 ≤ X) (x1 : X < 65536) (y0 : 0 ≤ Y) (y1 : Y < 65536) (hw : (wrap64 (wh.tmod 2 + 2)).tmod 2 = 1) (T : Nat) (hT : T ≤ 900000) (W : World) {c mb rb : Nat → Nat} {s : Nat → MS} (h : Duo W B p c mb rb s s) (ht : ∀ j, j < 2 → (s j).tones.length ≤ T) :
    Calls Try.prog 34 #[.pointer (some ⟨p, 0, none⟩), .agg #[.int .i64 10, .int .i64 wh, .int .u16 at', .int .u16 X, .int .u16 Y, .int .u16 C, .int .i64 N]] W fun e w' => e = .returned (.bool true) ∧ PlE B p (T + 3) W w' := by
  have hz : (W.alloc (.cells #[.int .i64 10, .int .i64 wh, .int .u16 at', .int .u16 X, .int .u16 Y, .int .u16 C, .int .i64 N] 76)).heap[W.heap.size]? = some (.cells (opC 10 wh at' X Y C N).toArray 76 (0, 0)) := heap_alloc_new W _
  have hb : Below W.heap.size W (W.alloc (.cells #[.int .i64 10, .int .i64 wh, .int .u16 at', .int .u16 X, .int .u16 Y, .int .u16 C, .int .i64 N] 76)) := (Below.refl _ W).alloc (Nat.le_refl _) _
  have P := Pb.start h hb hz
  obtain ⟨g, hg⟩ : ∃ g, W.heap.size = g := ⟨_, rfl⟩
  rw [hg] at P
  clear hz hb h
  go_enter Try.func34, Try.ntmps34
  go_wp2_with fail
  generalize hW1 : W.alloc (.cells #[.int .i64 10, .int .i64 wh, .int .u16 at', .int .u16 X, .int .u16 Y, .int .u16 C, .int .i64 N] 76) = W1 at *
  have s0 : (fun w' : World => w'.cell? ⟨p, 1, none⟩ = some (.pointer (some ⟨mb 1, 0, none⟩)) ∧ w'.cell? ⟨p, 3, none⟩ = some (.pointer (some ⟨rb 1, 0, none⟩))) W1.drew := ⟨P.drew.pcell 1 _ rfl, P.drew.pcell 3 _ rfl⟩
  have t1 := ht 1 (by omega)
  have f0 : W1.cell? ⟨g, 0, none⟩ = some (.int .i64 10) := P.bcell 0 _ rfl
  have HT : Hid _ := fun (j : Nat) (hj : j < 2) => Nat.le_trans (ht j hj) (Nat.le_add_right T 3)
  obtain ⟨F1, a1, n1⟩ := P.drew.callM 1 (by omega)
  have k1 := tones_any (mb 1) W1.drew a1 (by omega)
  obtain ⟨F2, ⟨hw2, u0, gr', gc, gs, tv, hR⟩, n2⟩ := P.drew.callR 1 (by omega)
  obtain ⟨tp, tq, etv⟩ := own_form hR.tones
  subst etv
  have SF : ∀ wz, Below W1.drew.heap.size W1.drew wz → (fun wz : World => wz.cell? ⟨rb 1, 9, none⟩ = some (.slice tp (s 1).tones.length tq) ∧ wz.cell? ⟨rb 1, 4, none⟩ = some (.int .u8 (s 1).pad)) wz ∧ TRow wz 0 (.slice tp (s 1).tones.length tq) (s 1).tones := fun wz k => by
    have h' := hR.kept (W' := wz) fun i hi _ => k.block i hi
    exact ⟨⟨cell_of wz (rb 1) 9 _ 80 _ h'.blk rfl, cell_of wz (rb 1) 4 _ 80 _ h'.blk rfl⟩, h'.tones⟩
  have HP : Hid _ := P.drew
  have HS : Hid _ := SF
  clear P a1 n1 hW1 ht hR n2 hw2 SF
  go_region_held3 (fun w' => w'.cell? ⟨p, 1, none⟩ = some (.pointer (some ⟨mb 1, 0, none⟩)) ∧ w'.cell? ⟨p, 3, none⟩ = some (.pointer (some ⟨rb 1, 0, none⟩))) (first | (with_reducible exact s0)) (fail)
  go_wp2_with fail
  refine k1.mono ?_
  rintro e w2 ⟨u, rfl, hu, hB2⟩
  obtain ⟨up', uc, rfl⟩ := own_form hu
  have hA2 : Below W1.drew.heap.size W1.drew w2.drew := hB2.drew
  have hu' : TRow w2.drew W1.drew.heap.size (.slice up' (s 1).tones.length uc) (s 1).tones := own_kept hu fun _ _ _ => rfl
  have k2 := sameTones_any _ _ (s 1).tones (by unfold room; omega) w2.drew hu' (HS.out _ hA2).2
  have s1 := (HS.out _ hA2).1
  have HU : Hid _ := And.intro hu' hA2
  clear k1 hu hB2 hu' hA2 s0 f0
  go_wp2_with fail
  refine wp_region_held_drew (S := (fun wz : World => wz.cell? ⟨rb 1, 9, none⟩ = some (.slice tp (s 1).tones.length tq) ∧ wz.cell? ⟨rb 1, 4, none⟩ = some (.int .u8 (s 1).pad))) (by kernel_rfl) s1 (fun hHeld => ?_)
  generalize hWd : w2.drew = Wd at *
  refine wpAnyH_take (i := 0) (v := ?_) rfl (by kernel_rfl) (by kernel_rfl) (by kernel_rfl) (fun c a w h => h) (Or.inl ⟨by rfl, ?_⟩) hHeld ?_
  rotate_left
  · (intro w hSw; (try dsimp only at hSw); go_simp; try with_reducible rfl)
  simp only [Act.put, List.getElem_toArray, List.getElem_cons_zero, List.getElem_cons_succ, List.setIfInBounds_toArray, List.set_cons_zero, List.set_cons_succ]
  refine wpAnyH_take (i := 1) (v := ?_) rfl (by kernel_rfl) (by kernel_rfl) (by kernel_rfl) (fun c a w h => h) (Or.inl ⟨by rfl, ?_⟩) hHeld ?_
  rotate_left
  · (intro w hSw; (try dsimp only at hSw); go_simp; try with_reducible rfl)
  simp only [Act.put, List.getElem_toArray, List.getElem_cons_zero, List.getElem_cons_succ, List.setIfInBounds_toArray, List.set_cons_zero, List.set_cons_succ]
  refine wpAnyH_take (i := 2) (v := ?_) rfl (by kernel_rfl) (by kernel_rfl) (by kernel_rfl) (fun c a w h => h) (Or.inl ⟨by rfl, ?_⟩) hHeld ?_
  rotate_left
  · (intro w hSw; (try dsimp only at hSw); go_simp; try with_reducible rfl)
  simp only [Act.put, List.getElem_toArray, List.getElem_cons_zero, List.getElem_cons_succ, List.setIfInBounds_toArray, List.set_cons_zero, List.set_cons_succ]
  refine wpAnyH_take (i := 3) (v := ?_) rfl (by kernel_rfl) (by kernel_rfl) (by kernel_rfl) (fun c a w h => h) (Or.inl ⟨by rfl, ?_⟩) hHeld ?_
  rotate_left
  · (intro w hSw; (try dsimp only at hSw); go_simp; try with_reducible rfl)
  simp only [Act.put, List.getElem_toArray, List.getElem_cons_zero, List.getElem_cons_succ, List.setIfInBounds_toArray, List.set_cons_zero, List.set_cons_succ]
  refine wpAnyH_take (i := 4) (v := ?_) rfl (by kernel_rfl) (by kernel_rfl) (by kernel_rfl) (fun c a w h => h) (Or.inl ⟨by rfl, ?_⟩) hHeld ?_
  rotate_left
  · (intro w hSw; (try dsimp only at hSw); go_simp; try with_reducible rfl)
  simp only [Act.put, List.getElem_toArray, List.getElem_cons_zero, List.getElem_cons_succ, List.setIfInBounds_toArray, List.set_cons_zero, List.set_cons_succ]
  refine wpAnyH_ready (rs := [5]) (by kernel_rfl) (by simp) ?_
  refine AllReadyH.cons rfl (fun K hK => ?_) AllReadyH.nil
  go_simp
  refine k2.mono ?_
  rintro e w3 ⟨rfl, q, rfl⟩
  have hA3 : Below W1.drew.heap.size W1.drew (Wd.drewN q) := HU.out.2.trans ⟨rfl, rfl, rfl, Nat.le_refl _, fun _ _ => rfl⟩
  have s3 := (HS.out _ hA3).1
  obtain ⟨F3, a3, n3⟩ := (HP.out.below hA3).callM 1 (by omega)
  have k3 := pad_any (mb 1) _ a3
  have HA3 : Hid _ := hA3
  clear k2 hA3 a3 n3
  refine hK.out _ _ s3 (fun hHeld => ?_)
  clear hK K
  try simp only [Act.put, List.getElem_toArray, List.getElem_cons_zero, List.getElem_cons_succ, List.setIfInBounds_toArray, List.set_cons_zero, List.set_cons_succ]
  refine wpAnyH_take (i := 6) (v := ?_) rfl (by kernel_rfl) (by kernel_rfl) (by kernel_rfl) (fun c a w h => h) (Or.inl ⟨by rfl, ?_⟩) hHeld ?_
  rotate_left
  · (intro w hSw; (try dsimp only at hSw); go_simp; try with_reducible rfl)
  simp only [Act.put, List.getElem_toArray, List.getElem_cons_zero, List.getElem_cons_succ, List.setIfInBounds_toArray, List.set_cons_zero, List.set_cons_succ]
  refine wpAnyH_take (i := 7) (v := ?_) rfl (by kernel_rfl) (by kernel_rfl) (by kernel_rfl) (fun c a w h => h) (Or.inl ⟨by rfl, ?_⟩) hHeld ?_
  rotate_left
  · (intro w hSw; (try dsimp only at hSw); go_simp; try with_reducible rfl)
  simp only [Act.put, List.getElem_toArray, List.getElem_cons_zero, List.getElem_cons_succ, List.setIfInBounds_toArray, List.set_cons_zero, List.set_cons_succ]
  refine wpAnyH_take (i := 9) (v := ?_) rfl (by kernel_rfl) (by kernel_rfl) (by kernel_rfl) (fun c a w h => h) (Or.inl ⟨by rfl, ?_⟩) hHeld ?_
  rotate_left
  · (intro w hSw; (try dsimp only at hSw); go_simp; try with_reducible rfl)
  simp only [Act.put, List.getElem_toArray, List.getElem_cons_zero, List.getElem_cons_succ, List.setIfInBounds_toArray, List.set_cons_zero, List.set_cons_succ]
  refine wpAnyH_take (i := 10) (v := ?_) rfl (by kernel_rfl) (by kernel_rfl) (by kernel_rfl) (fun c a w h => h) (Or.inl ⟨by rfl, ?_⟩) hHeld ?_
  rotate_left
  · (intro w hSw; (try dsimp only at hSw); go_simp; try with_reducible rfl)
  simp only [Act.put, List.getElem_toArray, List.getElem_cons_zero, List.getElem_cons_succ, List.setIfInBounds_toArray, List.set_cons_zero, List.set_cons_succ]
  refine wpAnyH_take (i := 11) (v := ?_) rfl (by kernel_rfl) (by kernel_rfl) (by kernel_rfl) (fun c a w h => h) (Or.inl ⟨by rfl, ?_⟩) hHeld ?_
  rotate_left
  · (intro w hSw; (try dsimp only at hSw); go_simp; try with_reducible rfl)
  simp only [Act.put, List.getElem_toArray, List.getElem_cons_zero, List.getElem_cons_succ, List.setIfInBounds_toArray, List.set_cons_zero, List.set_cons_succ]
  refine wpAnyH_take (i := 12) (v := ?_) rfl (by kernel_rfl) (by kernel_rfl) (by kernel_rfl) (fun c a w h => h) (Or.inl ⟨by rfl, ?_⟩) hHeld ?_
  rotate_left
  · (intro w hSw; (try dsimp only at hSw); go_simp; try with_reducible rfl)
  simp only [Act.put, List.getElem_toArray, List.getElem_cons_zero, List.getElem_cons_succ, List.setIfInBounds_toArray, List.set_cons_zero, List.set_cons_succ]
  refine wpAnyH_ready (rs := [8]) (by kernel_rfl) (by simp) ?_
  refine AllReadyH.cons rfl (fun K hK => ?_) AllReadyH.nil
  go_simp
  refine k3.mono ?_
  rintro e w4 ⟨rfl, q2, rfl⟩
  have hA4 : Below W1.drew.heap.size W1.drew ((Wd.drewN q).drewN q2) := HA3.out.trans ⟨rfl, rfl, rfl, Nat.le_refl _, fun _ _ => rfl⟩
  have s4 := (HS.out _ hA4).1
  have hu4 : TRow ((Wd.drewN q).drewN q2) W1.drew.heap.size (.slice up' (s 1).tones.length uc) (s 1).tones := own_kept HU.out.1 fun _ _ _ => rfl
  have H4 : Hid _ := And.intro hu4 hA4
  clear k3 hA4 hu4
  refine hK.out _ _ s4 (fun hHeld => ?_)
  clear hK K
  try simp only [Act.put, List.getElem_toArray, List.getElem_cons_zero, List.getElem_cons_succ, List.setIfInBounds_toArray, List.set_cons_zero, List.set_cons_succ]
  refine wpAnyH_take (i := 13) (v := ?_) rfl (by kernel_rfl) (by kernel_rfl) (by kernel_rfl) (fun c a w h => h) (Or.inl ⟨by rfl, ?_⟩) hHeld ?_
  rotate_left
  · (intro w hSw; (try dsimp only at hSw); go_simp; try with_reducible rfl)
  simp only [Act.put, List.getElem_toArray, List.getElem_cons_zero, List.getElem_cons_succ, List.setIfInBounds_toArray, List.set_cons_zero, List.set_cons_succ]
  refine wpAnyH_ready (rs := [14]) (by kernel_rfl) (by simp) ?_
  refine AllReadyH.cons rfl (fun K hK => ?_) AllReadyH.nil
  go_simp
  refine hK.out _ _ s4 (fun hHeld => ?_)
  clear hK K
  try simp only [Act.put, List.getElem_toArray, List.getElem_cons_zero, List.getElem_cons_succ, List.setIfInBounds_toArray, List.set_cons_zero, List.set_cons_succ]
  refine wpAnyH_ready (rs := [15]) (by kernel_rfl) (by simp) ?_
  refine AllReadyH.cons rfl (fun K hK => ?_) AllReadyH.nil
  go_simp
  refine hK.out _ _ s4 (fun hHeld => ?_)
  clear hK K
  try simp only [Act.put, List.getElem_toArray, List.getElem_cons_zero, List.getElem_cons_succ, List.setIfInBounds_toArray, List.set_cons_zero, List.set_cons_succ]
  refine wpAnyH_done (by kernel_rfl) ?_ _
  try simp only [Act.put, List.setIfInBounds_toArray, List.set_cons_zero, List.set_cons_succ]
  generalize hA : W1.drew = A at *
  clear hHeld s1 s3 s4 HU HA3 hWd
  go_wp2
  go_loopw [177] (fun i wr => ∃ (k : Nat) (xs : List Value), k ≤ (s 1).tones.length ∧ i = .int .i64 (k : Int) ∧ wr.ownsRow A.heap.size 90 3 (.slice up' (s 1).tones.length uc) (s 1).tones.length xs ∧ Below A.heap.size A wr) (fun i _ => (s 1).tones.length - (intOf i).toNat)
  case atStart => exact ⟨0, _, by omega, rfl, own_kept H4.out.1 fun _ _ _ => rfl, H4.out.2.trans ⟨rfl, rfl, rfl, Nat.le_refl _, fun _ _ => rfl⟩⟩
  case round =>
    clear H4
    obtain ⟨k, xs, hk, rfl, hown, hAr⟩ := hrel
    by_cases hlt : k < (s 1).tones.length
    · have i1 : (k : Int) < (s 1).tones.length := by omega
      obtain ⟨g1, c1, e1⟩ := own_pos hown (by omega)
      simp only [Value.slice.injEq] at e1
      obtain ⟨rfl, _, rfl⟩ := e1
      have hxl : k * 3 + 1 < xs.length := by rw [hown.1]; omega
      have hcell := World.ownsRow.cells hown (g := g1) rfl (k * 3 + 1) _ (List.getElem?_eq_getElem hxl)
      rw [Addr.add_lit, Nat.zero_add] at hcell
      obtain ⟨cur, hcur⟩ := own_block hown g1 rfl
      have hfz : wr.frozen? ⟨g1, k * 3 + 1, none⟩ = false := by simp [World.frozen?, hcur]
      have hst := (hown.stored (k * 3 + 1) (.int .u16 7)).1
      have hlo := (hown.lt g1 rfl).1
      have hAs : Below A.heap.size A (wr.setCell ⟨g1, k * 3 + 1, none⟩ (.int .u16 7)) := hAr.setCell (p := ⟨g1, k * 3 + 1, none⟩) hlo _
      generalize xs[k * 3 + 1] = old at *
      have H5 : Hid _ := And.intro hst hAs
      clear hst hAs hown hAr hcur hlo
      go_wp2
      go_roundw
      case rel =>
        first
          | exact ⟨k + 1, _, by omega, by go_num, H5.out.1, H5.out.2⟩
          | ((repeat apply Exists.intro); refine ⟨⟨k + 1, _, by omega, ?_, H5.out.1, H5.out.2⟩, rfl⟩; go_num)
      case measure => simp [intOf]; omega
    · obtain rfl : k = (s 1).tones.length := by omega
      have hbl : Below wr.heap.size wr (wr.alloc (.cells #[.int .i64 0, .int .u16 9, .int .u8 0] 90)) := (Below.refl _ wr).alloc (Nat.le_refl _) _
      have hown1 := own_below hown hbl
      have hcs : Cs (wr.alloc (.cells #[.int .i64 0, .int .u16 9, .int .u8 0] 90)) (.slice (some ⟨wr.heap.size, 0, none⟩) 1 1) 3 1 (tcell (0, 9, 0)) := by
        refine .inr ⟨⟨wr.heap.size, 0, none⟩, 1, rfl, rfl, ?_, tc_one [(0, 9, 0)]⟩
        intro j v hj
        have hn : (wr.alloc (.cells #[.int .i64 0, .int .u16 9, .int .u8 0] 90)).heap[wr.heap.size]? = some (.cells (tcell (0, 9, 0)).toArray 90 (0, 0)) := heap_alloc_new wr _
        rw [Addr.add_lit, Nat.zero_add]
        exact cell_of _ _ _ _ 90 v hn hj
      have hz : A.heap.size ≤ (wr.alloc (.cells #[.int .i64 0, .int .u16 9, .int .u8 0] 90)).heap.size := Nat.le_trans hAr.size hbl.size
      have hend : ∀ v' w', Grew (wr.alloc (.cells #[.int .i64 0, .int .u16 9, .int .u8 0] 90)) w' (.slice up' (s 1).tones.length uc) v' → Below A.heap.size A w' := fun v' w' hg => hg.belowAll (fun x e => (hown1.lt x e).1) (hAr.trans (hbl.mono hAr.size)) (Nat.le_refl _)
      have HE : Hid _ := hend
      clear hend hown hAr hbl
      go_wp2_with (first | (at_builtin; refine wpList_append_row _ rfl _ _ 52 90 (.agg #[.int .i64 0, .int .u16 0, .int .u8 0]) 3 16 Try.underlying52 info90 rfl (by decide) rfl A.heap.size _ (s 1).tones.length _ rfl hown1 _ 1 _ rfl hcs (by unfold room; omega) (by unfold maxLen; omega) hz ?_))
      intro v' w' ho hg
      obtain ⟨vp, vc, rfl⟩ := own_form ho
      have hA9 := HE.out _ _ hg
      obtain ⟨s9, s8⟩ := (HS.out _ hA9).1
      have P9 := HP.out.below hA9
      have HP9 : Hid _ := P9
      have ewr : wrap64 (((s 1).tones.length : Int) + 1) = ((s 1).tones.length : Int) + 1 := by unfold wrap64; omega
      clear P9 hA9 ho hg HE hown1 hcs hz
      go_wp2
      go_ret
      exact ⟨by simp, HP9.out.done HT.out⟩
end Go.Proofs.Ytcmaccefjlgbfaa
