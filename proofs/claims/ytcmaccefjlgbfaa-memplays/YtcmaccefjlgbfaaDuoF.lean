import Derived.Test.YtcmaccefjlgbfaaDuo
import Derived.Test.YtcmaccefjlgbfaaApart
import Derived.Test.YtcmaccefjlgbfaaRestMath
import Derived.Deep.RegionHeld3
import Derived.Deep.RegionHeldLaw
/-! A step of the pair: Screen. -/
namespace Go.Proofs.Ytcmaccefjlgbfaa
open Go.RowKit
open Go.Proofs
set_option linter.unusedVariables false
set_option linter.unusedSimpArgs false
set_option maxHeartbeats 2000000
set_option maxRecDepth 100000
/-- Two rows of their own, in a list. -/
theorem two_rows {A w2 w3 : World} {u v : Value} {l : List UInt8} (hl : l.length = 3072) (hu : Row w2 A.heap.size u l) (h12 : Below A.heap.size A w2) (hv : Row w3 w2.heap.size v l) (h23 : Below w2.heap.size w2 w3) :
    P1 A.heap.size w3.heap.size 2 (fun i => if i = 0 then u else v) (fun _ => 3072) (w3.alloc (.cells #[u, v] 35)) (w3.alloc (.cells #[u, v] 35)) (fun _ => l) := by
  have hb : Below w3.heap.size w3 (w3.alloc (.cells #[u, v] 35)) := (Below.refl _ w3).alloc (Nat.le_refl _) _
  have hz : (w3.alloc (.cells #[u, v] 35)).heap[w3.heap.size]? = some (.cells [u, v].toArray 35 (0, 0)) := heap_alloc_new w3 _
  have ru := Row.below (Row.below hu h23) hb
  have rv := Row.below hv hb
  refine ⟨Below.refl _ _, Nat.le_trans h12.size (Nat.le_trans h23.size hb.size), ?_, ⟨_, hz⟩, ?_, fun _ _ => hl, ?_⟩
  · intro i hi
    match i, hi with
    | 0, _ => exact cell_of _ _ 0 _ 35 _ hz rfl
    | 1, _ => exact cell_of _ _ 1 _ 35 _ hz rfl
  · intro i hi
    match i, hi with
    | 0, _ => exact ru
    | 1, _ => exact Row.mono rv h12.size
  · intro i j hi hj hne x e1 e2
    have a := hu.lt
    have b := hv.lt
    match i, j, hi, hj with
    | 0, 1, _, _ => have := (a x e1).2; have := (b x e2).1; omega
    | 1, 0, _, _ => have := (a x e2).2; have := (b x e1).1; omega
    | 0, 0, _, _ => exact hne rfl
    | 1, 1, _, _ => exact hne rfl
theorem play11_0 (B p : Nat) (wh at' X Y C N : Int) (z0 : 0 ≤ at') (z1 : at' < 65536) (x0 : 0 ≤ X) (x1 : X < 65536) (y0 : 0 ≤ Y) (y1 : Y < 65536) (hw : (wrap64 (wh.tmod 2 + 2)).tmod 2 = 0) (T : Nat) (hT : T ≤ 900000) (W : World) {c mb rb : Nat → Nat} {s : Nat → MS} (h : Duo W B p c mb rb s s) (ht : ∀ j, j < 2 → (s j).tones.length ≤ T) :
    Calls Try.prog 34 #[.pointer (some ⟨p, 0, none⟩), .agg #[.int .i64 11, .int .i64 wh, .int .u16 at', .int .u16 X, .int .u16 Y, .int .u16 C, .int .i64 N]] W fun e w' => e = .returned (.bool true) ∧ PlE B p (T + 3) W w' := by
  have hz : (W.alloc (.cells #[.int .i64 11, .int .i64 wh, .int .u16 at', .int .u16 X, .int .u16 Y, .int .u16 C, .int .i64 N] 76)).heap[W.heap.size]? = some (.cells (opC 11 wh at' X Y C N).toArray 76 (0, 0)) := heap_alloc_new W _
  have hb : Below W.heap.size W (W.alloc (.cells #[.int .i64 11, .int .i64 wh, .int .u16 at', .int .u16 X, .int .u16 Y, .int .u16 C, .int .i64 N] 76)) := (Below.refl _ W).alloc (Nat.le_refl _) _
  have P := Pb.start h hb hz
  obtain ⟨g, hg⟩ : ∃ g, W.heap.size = g := ⟨_, rfl⟩
  rw [hg] at P
  clear hz hb h
  go_enter Try.func34, Try.ntmps34
  go_wp2_with fail
  generalize hW1 : W.alloc (.cells #[.int .i64 11, .int .i64 wh, .int .u16 at', .int .u16 X, .int .u16 Y, .int .u16 C, .int .i64 N] 76) = W1 at *
  have s0 : (fun w' : World => w'.cell? ⟨p, 0, none⟩ = some (.pointer (some ⟨mb 0, 0, none⟩)) ∧ w'.cell? ⟨p, 2, none⟩ = some (.pointer (some ⟨rb 0, 0, none⟩))) W1.drew := ⟨P.drew.pcell 0 _ rfl, P.drew.pcell 2 _ rfl⟩
  have t0 := ht 0 (by omega)
  have f0 : W1.cell? ⟨g, 0, none⟩ = some (.int .i64 11) := P.bcell 0 _ rfl
  have HT : Hid _ := fun (j : Nat) (hj : j < 2) => Nat.le_trans (ht j hj) (Nat.le_add_right T 3)
  obtain ⟨F1, a1, n1⟩ := P.drew.callM 0 (by omega)
  have hwf := a1.wf
  have HL : Hid _ := hwf.scr
  have k1 := screen_any (mb 0) W1.drew a1
  obtain ⟨F2, ⟨hw2, u0, gr', gc, gs, tv, hR⟩, n2⟩ := P.drew.callR 0 (by omega)
  have SF : ∀ wz, Below W1.drew.heap.size W1.drew wz → (fun wz : World => wz.cell? ⟨rb 0, 2, none⟩ = some (.slice (some ⟨gc, 0, none⟩) 3072 3072) ∧ (convert 35 9 (.slice (some ⟨gc, 0, none⟩) 3072 3072)).run Try.prog wz = .ok (.string ⟨(s 0).scr.toArray⟩) wz) wz := fun wz k => by
    have h' := hR.kept (W' := wz) fun i hi _ => k.block i hi
    exact ⟨cell_of wz (rb 0) 2 _ 80 _ h'.blk rfl, Sl.conv (B5.sl h'.scr h'.sl)⟩
  have HP : Hid _ := P.drew
  have HS : Hid _ := SF
  clear P a1 n1 hW1 ht hR n2 hw2 SF
  go_region_held3 (fun w' => w'.cell? ⟨p, 0, none⟩ = some (.pointer (some ⟨mb 0, 0, none⟩)) ∧ w'.cell? ⟨p, 2, none⟩ = some (.pointer (some ⟨rb 0, 0, none⟩))) (first | (with_reducible exact s0)) (fail)
  go_wp2_with fail
  refine k1.mono ?_
  rintro e w2 ⟨u, rfl, hu, hB2⟩
  obtain ⟨up', uc, rfl⟩ := own_form hu
  have hu' := Row.below hu ((Below.refl _ w2).drew)
  have v1 := Sl.conv hu'.sl
  have hA2 : Below W1.drew.heap.size W1.drew w2.drew := hB2.drew
  obtain ⟨F3, a3, n3⟩ := (HP.out.below hA2).callM 0 (by omega)
  have k2 := screen_any (mb 0) w2.drew a3
  have s1 := HS.out _ hA2
  have HU : Hid _ := And.intro hu' hA2
  clear k1 a3 n3 hu hB2 hu' hA2 s0 f0
  go_wp2_with fail
  refine wp_region_held_drew (S := (fun wz : World => wz.cell? ⟨rb 0, 2, none⟩ = some (.slice (some ⟨gc, 0, none⟩) 3072 3072) ∧ (convert 35 9 (.slice (some ⟨gc, 0, none⟩) 3072 3072)).run Try.prog wz = .ok (.string ⟨(s 0).scr.toArray⟩) wz)) (by kernel_rfl) s1 (fun hHeld => ?_)
  generalize hWd : w2.drew = Wd at *
  refine wpAnyH_take (i := 0) (v := ?_) rfl (by kernel_rfl) (by kernel_rfl) (by kernel_rfl) (fun c a w h => h) (Or.inl ⟨by rfl, ?_⟩) hHeld ?_
  rotate_left
  · (intro w hSw; (try dsimp only at hSw); go_simp; try with_reducible rfl)
  simp only [Act.put, List.getElem_toArray, List.getElem_cons_zero, List.getElem_cons_succ, List.setIfInBounds_toArray, List.set_cons_zero, List.set_cons_succ]
  refine wpAnyH_take (i := 2) (v := ?_) rfl (by kernel_rfl) (by kernel_rfl) (by kernel_rfl) (fun c a w h => h) (Or.inl ⟨by rfl, ?_⟩) hHeld ?_
  rotate_left
  · (intro w hSw; (try dsimp only at hSw); go_simp; try with_reducible rfl)
  simp only [Act.put, List.getElem_toArray, List.getElem_cons_zero, List.getElem_cons_succ, List.setIfInBounds_toArray, List.set_cons_zero, List.set_cons_succ]
  refine wpAnyH_take (i := 3) (v := ?_) rfl (by kernel_rfl) (by kernel_rfl) (by kernel_rfl) (fun c a w h => h) (Or.inl ⟨by rfl, ?_⟩) hHeld ?_
  rotate_left
  · (intro w hSw; (try dsimp only at hSw); go_simp; try with_reducible rfl)
  simp only [Act.put, List.getElem_toArray, List.getElem_cons_zero, List.getElem_cons_succ, List.setIfInBounds_toArray, List.set_cons_zero, List.set_cons_succ]
  refine wpAnyH_take (i := 4) (v := ?_) rfl (by kernel_rfl) (by kernel_rfl) (by kernel_rfl) (fun c a w h => h) (Or.inl ⟨by rfl, ?_⟩) hHeld ?_
  rotate_left
  · (intro w hSw; (try dsimp only at hSw); go_simp; try with_reducible rfl)
  simp only [Act.put, List.getElem_toArray, List.getElem_cons_zero, List.getElem_cons_succ, List.setIfInBounds_toArray, List.set_cons_zero, List.set_cons_succ]
  refine wpAnyH_take (i := 5) (v := ?_) rfl (by kernel_rfl) (by kernel_rfl) (by kernel_rfl) (fun c a w h => h) (Or.inl ⟨by rfl, ?_⟩) hHeld ?_
  rotate_left
  · (intro w hSw; (try dsimp only at hSw); go_simp; try with_reducible rfl)
  simp only [Act.put, List.getElem_toArray, List.getElem_cons_zero, List.getElem_cons_succ, List.setIfInBounds_toArray, List.set_cons_zero, List.set_cons_succ]
  refine wpAnyH_take (i := 6) (v := ?_) rfl (by kernel_rfl) (by kernel_rfl) (by kernel_rfl) (fun c a w h => h) (Or.inl ⟨by rfl, ?_⟩) hHeld ?_
  rotate_left
  · (intro w hSw; (try dsimp only at hSw); go_simp; try with_reducible rfl)
  simp only [Act.put, List.getElem_toArray, List.getElem_cons_zero, List.getElem_cons_succ, List.setIfInBounds_toArray, List.set_cons_zero, List.set_cons_succ]
  refine wpAnyH_ready (rs := [1]) (by kernel_rfl) (by simp) ?_
  refine AllReadyH.cons rfl (fun K hK => ?_) AllReadyH.nil
  go_simp
  refine hK.out _ _ s1 (fun hHeld => ?_)
  clear hK K
  try simp only [Act.put, List.getElem_toArray, List.getElem_cons_zero, List.getElem_cons_succ, List.setIfInBounds_toArray, List.set_cons_zero, List.set_cons_succ]
  refine wpAnyH_take (i := 7) (v := ?_) rfl (by kernel_rfl) (by kernel_rfl) (by kernel_rfl) (fun c a w h => h) (Or.inl ⟨by rfl, ?_⟩) hHeld ?_
  rotate_left
  · (intro w hSw; (try dsimp only at hSw); go_simp; try with_reducible rfl)
  simp only [Act.put, List.getElem_toArray, List.getElem_cons_zero, List.getElem_cons_succ, List.setIfInBounds_toArray, List.set_cons_zero, List.set_cons_succ]
  refine wpAnyH_take (i := 8) (v := ?_) rfl (by kernel_rfl) (by kernel_rfl) (by kernel_rfl) (fun c a w h => h) (Or.inl ⟨by rfl, ?_⟩) hHeld ?_
  rotate_left
  · (intro w hSw; (try dsimp only at hSw); go_simp; try with_reducible rfl)
  simp only [Act.put, List.getElem_toArray, List.getElem_cons_zero, List.getElem_cons_succ, List.setIfInBounds_toArray, List.set_cons_zero, List.set_cons_succ]
  refine wpAnyH_take (i := 9) (v := ?_) rfl (by kernel_rfl) (by kernel_rfl) (by kernel_rfl) (fun c a w h => h) (Or.inl ⟨by rfl, ?_⟩) hHeld ?_
  rotate_left
  · (intro w hSw; (try dsimp only at hSw); go_simp; try with_reducible rfl)
  simp only [Act.put, List.getElem_toArray, List.getElem_cons_zero, List.getElem_cons_succ, List.setIfInBounds_toArray, List.set_cons_zero, List.set_cons_succ]
  refine wpAnyH_take (i := 10) (v := ?_) rfl (by kernel_rfl) (by kernel_rfl) (by kernel_rfl) (fun c a w h => h) (Or.inl ⟨by rfl, ?_⟩) hHeld ?_
  rotate_left
  · (intro w hSw; (try dsimp only at hSw); go_simp; try with_reducible rfl)
  simp only [Act.put, List.getElem_toArray, List.getElem_cons_zero, List.getElem_cons_succ, List.setIfInBounds_toArray, List.set_cons_zero, List.set_cons_succ]
  refine wpAnyH_ready (rs := [11]) (by kernel_rfl) (by simp) ?_
  refine AllReadyH.cons rfl (fun K hK => ?_) AllReadyH.nil
  go_simp
  refine k2.mono ?_
  rintro e w3 ⟨v, rfl, hv, hB3⟩
  obtain ⟨vp, vc, rfl⟩ := own_form hv
  have hA3 := HU.out.2.trans (hB3.mono HU.out.2.size)
  have s3 := HS.out _ hA3
  have hp := two_rows HL.out HU.out.1 HU.out.2 hv hB3
  have k3 := apart_any _ w3.heap.size 2 2 (by omega) _ _ _ _ hp (fun i hi => by unfold room; omega)
  have hA4 := hA3.trans (((Below.refl _ w3).alloc (Nat.le_refl _) (.cells #[.slice up' (s 0).scr.length uc, .slice vp (s 0).scr.length vc] 35)).mono hA3.size)
  have s4 := HS.out _ hA4
  have HA4 : Hid _ := hA4
  clear hp hv hB3 hA3 hA4 k2 HU v1
  refine hK.out _ _ s3 (fun hHeld => ?_)
  clear hK K
  try simp only [Act.put, List.getElem_toArray, List.getElem_cons_zero, List.getElem_cons_succ, List.setIfInBounds_toArray, List.set_cons_zero, List.set_cons_succ]
  refine wpAnyH_ready (rs := [12]) (by kernel_rfl) (by simp) ?_
  refine AllReadyH.cons rfl (fun K hK => ?_) AllReadyH.nil
  go_simp
  generalize hW4 : w3.alloc (.cells #[.slice up' (s 0).scr.length uc, .slice vp (s 0).scr.length vc] 35) = w4 at *
  refine hK.out _ _ s4 (fun hHeld => ?_)
  clear hK K
  try simp only [Act.put, List.getElem_toArray, List.getElem_cons_zero, List.getElem_cons_succ, List.setIfInBounds_toArray, List.set_cons_zero, List.set_cons_succ]
  refine wpAnyH_ready (rs := [13]) (by kernel_rfl) (by simp) ?_
  refine AllReadyH.cons rfl (fun K hK => ?_) AllReadyH.nil
  go_simp
  refine k3.mono ?_
  rintro e w5 ⟨rfl, hB5⟩
  have hA5 := HA4.out.trans hB5
  have s5 := HS.out _ hA5
  have P5 := HP.out.below hA5
  have HP5 : Hid _ := P5
  clear P5 hB5 hA5 k3
  refine hK.out _ _ s5 (fun hHeld => ?_)
  clear hK K
  try simp only [Act.put, List.getElem_toArray, List.getElem_cons_zero, List.getElem_cons_succ, List.setIfInBounds_toArray, List.set_cons_zero, List.set_cons_succ]
  refine wpAnyH_ready (rs := [14]) (by kernel_rfl) (by simp) ?_
  refine AllReadyH.cons rfl (fun K hK => ?_) AllReadyH.nil
  go_simp
  refine hK.out _ _ s5 (fun hHeld => ?_)
  clear hK K
  try simp only [Act.put, List.getElem_toArray, List.getElem_cons_zero, List.getElem_cons_succ, List.setIfInBounds_toArray, List.set_cons_zero, List.set_cons_succ]
  refine wpAnyH_ready (rs := [15]) (by kernel_rfl) (by simp) ?_
  refine AllReadyH.cons rfl (fun K hK => ?_) AllReadyH.nil
  go_simp
  refine hK.out _ _ s5 (fun hHeld => ?_)
  clear hK K
  try simp only [Act.put, List.getElem_toArray, List.getElem_cons_zero, List.getElem_cons_succ, List.setIfInBounds_toArray, List.set_cons_zero, List.set_cons_succ]
  refine wpAnyH_done (by kernel_rfl) ?_ _
  try simp only [Act.put, List.setIfInBounds_toArray, List.set_cons_zero, List.set_cons_succ]
  go_wp2
  go_ret
  exact ⟨rfl, HP5.out.done HT.out⟩
theorem play11_1 (B p : Nat) (wh at' X Y C N : Int) (z0 : 0 ≤ at') (z1 : at' < 65536) (x0 : 0 ≤ X) (x1 : X < 65536) (y0 : 0 ≤ Y) (y1 : Y < 65536) (hw : (wrap64 (wh.tmod 2 + 2)).tmod 2 = 1) (T : Nat) (hT : T ≤ 900000) (W : World) {c mb rb : Nat → Nat} {s : Nat → MS} (h : Duo W B p c mb rb s s) (ht : ∀ j, j < 2 → (s j).tones.length ≤ T) :
    Calls Try.prog 34 #[.pointer (some ⟨p, 0, none⟩), .agg #[.int .i64 11, .int .i64 wh, .int .u16 at', .int .u16 X, .int .u16 Y, .int .u16 C, .int .i64 N]] W fun e w' => e = .returned (.bool true) ∧ PlE B p (T + 3) W w' := by
  have hz : (W.alloc (.cells #[.int .i64 11, .int .i64 wh, .int .u16 at', .int .u16 X, .int .u16 Y, .int .u16 C, .int .i64 N] 76)).heap[W.heap.size]? = some (.cells (opC 11 wh at' X Y C N).toArray 76 (0, 0)) := heap_alloc_new W _
  have hb : Below W.heap.size W (W.alloc (.cells #[.int .i64 11, .int .i64 wh, .int .u16 at', .int .u16 X, .int .u16 Y, .int .u16 C, .int .i64 N] 76)) := (Below.refl _ W).alloc (Nat.le_refl _) _
  have P := Pb.start h hb hz
  obtain ⟨g, hg⟩ : ∃ g, W.heap.size = g := ⟨_, rfl⟩
  rw [hg] at P
  clear hz hb h
  go_enter Try.func34, Try.ntmps34
  go_wp2_with fail
  generalize hW1 : W.alloc (.cells #[.int .i64 11, .int .i64 wh, .int .u16 at', .int .u16 X, .int .u16 Y, .int .u16 C, .int .i64 N] 76) = W1 at *
  have s0 : (fun w' : World => w'.cell? ⟨p, 1, none⟩ = some (.pointer (some ⟨mb 1, 0, none⟩)) ∧ w'.cell? ⟨p, 3, none⟩ = some (.pointer (some ⟨rb 1, 0, none⟩))) W1.drew := ⟨P.drew.pcell 1 _ rfl, P.drew.pcell 3 _ rfl⟩
  have t1 := ht 1 (by omega)
  have f0 : W1.cell? ⟨g, 0, none⟩ = some (.int .i64 11) := P.bcell 0 _ rfl
  have HT : Hid _ := fun (j : Nat) (hj : j < 2) => Nat.le_trans (ht j hj) (Nat.le_add_right T 3)
  obtain ⟨F1, a1, n1⟩ := P.drew.callM 1 (by omega)
  have hwf := a1.wf
  have HL : Hid _ := hwf.scr
  have k1 := screen_any (mb 1) W1.drew a1
  obtain ⟨F2, ⟨hw2, u0, gr', gc, gs, tv, hR⟩, n2⟩ := P.drew.callR 1 (by omega)
  have SF : ∀ wz, Below W1.drew.heap.size W1.drew wz → (fun wz : World => wz.cell? ⟨rb 1, 2, none⟩ = some (.slice (some ⟨gc, 0, none⟩) 3072 3072) ∧ (convert 35 9 (.slice (some ⟨gc, 0, none⟩) 3072 3072)).run Try.prog wz = .ok (.string ⟨(s 1).scr.toArray⟩) wz) wz := fun wz k => by
    have h' := hR.kept (W' := wz) fun i hi _ => k.block i hi
    exact ⟨cell_of wz (rb 1) 2 _ 80 _ h'.blk rfl, Sl.conv (B5.sl h'.scr h'.sl)⟩
  have HP : Hid _ := P.drew
  have HS : Hid _ := SF
  clear P a1 n1 hW1 ht hR n2 hw2 SF
  go_region_held3 (fun w' => w'.cell? ⟨p, 1, none⟩ = some (.pointer (some ⟨mb 1, 0, none⟩)) ∧ w'.cell? ⟨p, 3, none⟩ = some (.pointer (some ⟨rb 1, 0, none⟩))) (first | (with_reducible exact s0)) (fail)
  go_wp2_with fail
  refine k1.mono ?_
  rintro e w2 ⟨u, rfl, hu, hB2⟩
  obtain ⟨up', uc, rfl⟩ := own_form hu
  have hu' := Row.below hu ((Below.refl _ w2).drew)
  have v1 := Sl.conv hu'.sl
  have hA2 : Below W1.drew.heap.size W1.drew w2.drew := hB2.drew
  obtain ⟨F3, a3, n3⟩ := (HP.out.below hA2).callM 1 (by omega)
  have k2 := screen_any (mb 1) w2.drew a3
  have s1 := HS.out _ hA2
  have HU : Hid _ := And.intro hu' hA2
  clear k1 a3 n3 hu hB2 hu' hA2 s0 f0
  go_wp2_with fail
  refine wp_region_held_drew (S := (fun wz : World => wz.cell? ⟨rb 1, 2, none⟩ = some (.slice (some ⟨gc, 0, none⟩) 3072 3072) ∧ (convert 35 9 (.slice (some ⟨gc, 0, none⟩) 3072 3072)).run Try.prog wz = .ok (.string ⟨(s 1).scr.toArray⟩) wz)) (by kernel_rfl) s1 (fun hHeld => ?_)
  generalize hWd : w2.drew = Wd at *
  refine wpAnyH_take (i := 0) (v := ?_) rfl (by kernel_rfl) (by kernel_rfl) (by kernel_rfl) (fun c a w h => h) (Or.inl ⟨by rfl, ?_⟩) hHeld ?_
  rotate_left
  · (intro w hSw; (try dsimp only at hSw); go_simp; try with_reducible rfl)
  simp only [Act.put, List.getElem_toArray, List.getElem_cons_zero, List.getElem_cons_succ, List.setIfInBounds_toArray, List.set_cons_zero, List.set_cons_succ]
  refine wpAnyH_take (i := 2) (v := ?_) rfl (by kernel_rfl) (by kernel_rfl) (by kernel_rfl) (fun c a w h => h) (Or.inl ⟨by rfl, ?_⟩) hHeld ?_
  rotate_left
  · (intro w hSw; (try dsimp only at hSw); go_simp; try with_reducible rfl)
  simp only [Act.put, List.getElem_toArray, List.getElem_cons_zero, List.getElem_cons_succ, List.setIfInBounds_toArray, List.set_cons_zero, List.set_cons_succ]
  refine wpAnyH_take (i := 3) (v := ?_) rfl (by kernel_rfl) (by kernel_rfl) (by kernel_rfl) (fun c a w h => h) (Or.inl ⟨by rfl, ?_⟩) hHeld ?_
  rotate_left
  · (intro w hSw; (try dsimp only at hSw); go_simp; try with_reducible rfl)
  simp only [Act.put, List.getElem_toArray, List.getElem_cons_zero, List.getElem_cons_succ, List.setIfInBounds_toArray, List.set_cons_zero, List.set_cons_succ]
  refine wpAnyH_take (i := 4) (v := ?_) rfl (by kernel_rfl) (by kernel_rfl) (by kernel_rfl) (fun c a w h => h) (Or.inl ⟨by rfl, ?_⟩) hHeld ?_
  rotate_left
  · (intro w hSw; (try dsimp only at hSw); go_simp; try with_reducible rfl)
  simp only [Act.put, List.getElem_toArray, List.getElem_cons_zero, List.getElem_cons_succ, List.setIfInBounds_toArray, List.set_cons_zero, List.set_cons_succ]
  refine wpAnyH_take (i := 5) (v := ?_) rfl (by kernel_rfl) (by kernel_rfl) (by kernel_rfl) (fun c a w h => h) (Or.inl ⟨by rfl, ?_⟩) hHeld ?_
  rotate_left
  · (intro w hSw; (try dsimp only at hSw); go_simp; try with_reducible rfl)
  simp only [Act.put, List.getElem_toArray, List.getElem_cons_zero, List.getElem_cons_succ, List.setIfInBounds_toArray, List.set_cons_zero, List.set_cons_succ]
  refine wpAnyH_take (i := 6) (v := ?_) rfl (by kernel_rfl) (by kernel_rfl) (by kernel_rfl) (fun c a w h => h) (Or.inl ⟨by rfl, ?_⟩) hHeld ?_
  rotate_left
  · (intro w hSw; (try dsimp only at hSw); go_simp; try with_reducible rfl)
  simp only [Act.put, List.getElem_toArray, List.getElem_cons_zero, List.getElem_cons_succ, List.setIfInBounds_toArray, List.set_cons_zero, List.set_cons_succ]
  refine wpAnyH_ready (rs := [1]) (by kernel_rfl) (by simp) ?_
  refine AllReadyH.cons rfl (fun K hK => ?_) AllReadyH.nil
  go_simp
  refine hK.out _ _ s1 (fun hHeld => ?_)
  clear hK K
  try simp only [Act.put, List.getElem_toArray, List.getElem_cons_zero, List.getElem_cons_succ, List.setIfInBounds_toArray, List.set_cons_zero, List.set_cons_succ]
  refine wpAnyH_take (i := 7) (v := ?_) rfl (by kernel_rfl) (by kernel_rfl) (by kernel_rfl) (fun c a w h => h) (Or.inl ⟨by rfl, ?_⟩) hHeld ?_
  rotate_left
  · (intro w hSw; (try dsimp only at hSw); go_simp; try with_reducible rfl)
  simp only [Act.put, List.getElem_toArray, List.getElem_cons_zero, List.getElem_cons_succ, List.setIfInBounds_toArray, List.set_cons_zero, List.set_cons_succ]
  refine wpAnyH_take (i := 8) (v := ?_) rfl (by kernel_rfl) (by kernel_rfl) (by kernel_rfl) (fun c a w h => h) (Or.inl ⟨by rfl, ?_⟩) hHeld ?_
  rotate_left
  · (intro w hSw; (try dsimp only at hSw); go_simp; try with_reducible rfl)
  simp only [Act.put, List.getElem_toArray, List.getElem_cons_zero, List.getElem_cons_succ, List.setIfInBounds_toArray, List.set_cons_zero, List.set_cons_succ]
  refine wpAnyH_take (i := 9) (v := ?_) rfl (by kernel_rfl) (by kernel_rfl) (by kernel_rfl) (fun c a w h => h) (Or.inl ⟨by rfl, ?_⟩) hHeld ?_
  rotate_left
  · (intro w hSw; (try dsimp only at hSw); go_simp; try with_reducible rfl)
  simp only [Act.put, List.getElem_toArray, List.getElem_cons_zero, List.getElem_cons_succ, List.setIfInBounds_toArray, List.set_cons_zero, List.set_cons_succ]
  refine wpAnyH_take (i := 10) (v := ?_) rfl (by kernel_rfl) (by kernel_rfl) (by kernel_rfl) (fun c a w h => h) (Or.inl ⟨by rfl, ?_⟩) hHeld ?_
  rotate_left
  · (intro w hSw; (try dsimp only at hSw); go_simp; try with_reducible rfl)
  simp only [Act.put, List.getElem_toArray, List.getElem_cons_zero, List.getElem_cons_succ, List.setIfInBounds_toArray, List.set_cons_zero, List.set_cons_succ]
  refine wpAnyH_ready (rs := [11]) (by kernel_rfl) (by simp) ?_
  refine AllReadyH.cons rfl (fun K hK => ?_) AllReadyH.nil
  go_simp
  refine k2.mono ?_
  rintro e w3 ⟨v, rfl, hv, hB3⟩
  obtain ⟨vp, vc, rfl⟩ := own_form hv
  have hA3 := HU.out.2.trans (hB3.mono HU.out.2.size)
  have s3 := HS.out _ hA3
  have hp := two_rows HL.out HU.out.1 HU.out.2 hv hB3
  have k3 := apart_any _ w3.heap.size 2 2 (by omega) _ _ _ _ hp (fun i hi => by unfold room; omega)
  have hA4 := hA3.trans (((Below.refl _ w3).alloc (Nat.le_refl _) (.cells #[.slice up' (s 1).scr.length uc, .slice vp (s 1).scr.length vc] 35)).mono hA3.size)
  have s4 := HS.out _ hA4
  have HA4 : Hid _ := hA4
  clear hp hv hB3 hA3 hA4 k2 HU v1
  refine hK.out _ _ s3 (fun hHeld => ?_)
  clear hK K
  try simp only [Act.put, List.getElem_toArray, List.getElem_cons_zero, List.getElem_cons_succ, List.setIfInBounds_toArray, List.set_cons_zero, List.set_cons_succ]
  refine wpAnyH_ready (rs := [12]) (by kernel_rfl) (by simp) ?_
  refine AllReadyH.cons rfl (fun K hK => ?_) AllReadyH.nil
  go_simp
  generalize hW4 : w3.alloc (.cells #[.slice up' (s 1).scr.length uc, .slice vp (s 1).scr.length vc] 35) = w4 at *
  refine hK.out _ _ s4 (fun hHeld => ?_)
  clear hK K
  try simp only [Act.put, List.getElem_toArray, List.getElem_cons_zero, List.getElem_cons_succ, List.setIfInBounds_toArray, List.set_cons_zero, List.set_cons_succ]
  refine wpAnyH_ready (rs := [13]) (by kernel_rfl) (by simp) ?_
  refine AllReadyH.cons rfl (fun K hK => ?_) AllReadyH.nil
  go_simp
  refine k3.mono ?_
  rintro e w5 ⟨rfl, hB5⟩
  have hA5 := HA4.out.trans hB5
  have s5 := HS.out _ hA5
  have P5 := HP.out.below hA5
  have HP5 : Hid _ := P5
  clear P5 hB5 hA5 k3
  refine hK.out _ _ s5 (fun hHeld => ?_)
  clear hK K
  try simp only [Act.put, List.getElem_toArray, List.getElem_cons_zero, List.getElem_cons_succ, List.setIfInBounds_toArray, List.set_cons_zero, List.set_cons_succ]
  refine wpAnyH_ready (rs := [14]) (by kernel_rfl) (by simp) ?_
  refine AllReadyH.cons rfl (fun K hK => ?_) AllReadyH.nil
  go_simp
  refine hK.out _ _ s5 (fun hHeld => ?_)
  clear hK K
  try simp only [Act.put, List.getElem_toArray, List.getElem_cons_zero, List.getElem_cons_succ, List.setIfInBounds_toArray, List.set_cons_zero, List.set_cons_succ]
  refine wpAnyH_ready (rs := [15]) (by kernel_rfl) (by simp) ?_
  refine AllReadyH.cons rfl (fun K hK => ?_) AllReadyH.nil
  go_simp
  refine hK.out _ _ s5 (fun hHeld => ?_)
  clear hK K
  try simp only [Act.put, List.getElem_toArray, List.getElem_cons_zero, List.getElem_cons_succ, List.setIfInBounds_toArray, List.set_cons_zero, List.set_cons_succ]
  refine wpAnyH_done (by kernel_rfl) ?_ _
  try simp only [Act.put, List.setIfInBounds_toArray, List.set_cons_zero, List.set_cons_succ]
  go_wp2
  go_ret
  exact ⟨rfl, HP5.out.done HT.out⟩
end Go.Proofs.Ytcmaccefjlgbfaa
