import Derived.Test.YtcmaccefjlgbfaaDuo
import Derived.Test.YtcmaccefjlgbfaaRestMath
import Derived.Test.YtcmaccefjlgbfaaSpoilKit
import Derived.Deep.DeepCutAuto
import Derived.Deep.RegionHeld3
import Derived.Deep.RegionHeldLaw
/-! A step of the pair: Image. -/
namespace Go.Proofs.Ytcmaccefjlgbfaa
open Go.RowKit
open Go.Proofs
set_option linter.unusedVariables false
set_option linter.unusedSimpArgs false
set_option maxHeartbeats 2000000
set_option maxRecDepth 100000
theorem cells8' {W : World} {n : Nat} {a b c d e f g h : Value} {t : TypeId} (hb : W.heap[n]? = some (.cells [a, b, c, d, e, f, g, h].toArray t (0, 0))) : W.cell? ⟨n, 0, none⟩ = some a ∧ W.cell? ⟨n, 1, none⟩ = some b ∧ W.cell? ⟨n, 2, none⟩ = some c ∧ W.cell? ⟨n, 3, none⟩ = some d ∧ W.cell? ⟨n, 4, none⟩ = some e ∧ W.cell? ⟨n, 5, none⟩ = some f ∧ W.cell? ⟨n, 6, none⟩ = some g ∧ W.cell? ⟨n, 7, none⟩ = some h :=
  ⟨cell_of W n 0 _ t _ hb rfl, cell_of W n 1 _ t _ hb rfl, cell_of W n 2 _ t _ hb rfl, cell_of W n 3 _ t _ hb rfl, cell_of W n 4 _ t _ hb rfl, cell_of W n 5 _ t _ hb rfl, cell_of W n 6 _ t _ hb rfl, cell_of W n 7 _ t _ hb rfl⟩
theorem play12_0 (B p : Nat) (wh at' X Y C N : Int) (z0 : 0 ≤ at') (z1 : at' < 65536) (x0 : 0 ≤ X) (x1 : X < 65536) (y0 : 0 ≤ Y) (y1 : Y < 65536) (hw : (wrap64 (wh.tmod 2 + 2)).tmod 2 = 0) (T : Nat) (hT : T ≤ 900000) (W : World) {c mb rb : Nat → Nat} {s : Nat → MS} (h : Duo W B p c mb rb s s) (ht : ∀ j, j < 2 → (s j).tones.length ≤ T) :
    Calls Try.prog 34 #[.pointer (some ⟨p, 0, none⟩), .agg #[.int .i64 12, .int .i64 wh, .int .u16 at', .int .u16 X, .int .u16 Y, .int .u16 C, .int .i64 N]] W fun e w' => e = .returned (.bool true) ∧ PlE B p (T + 3) W w' := by
  have hz : (W.alloc (.cells #[.int .i64 12, .int .i64 wh, .int .u16 at', .int .u16 X, .int .u16 Y, .int .u16 C, .int .i64 N] 76)).heap[W.heap.size]? = some (.cells (opC 12 wh at' X Y C N).toArray 76 (0, 0)) := heap_alloc_new W _
  have hb : Below W.heap.size W (W.alloc (.cells #[.int .i64 12, .int .i64 wh, .int .u16 at', .int .u16 X, .int .u16 Y, .int .u16 C, .int .i64 N] 76)) := (Below.refl _ W).alloc (Nat.le_refl _) _
  have P := Pb.start h hb hz
  obtain ⟨g, hg⟩ : ∃ g, W.heap.size = g := ⟨_, rfl⟩
  rw [hg] at P
  clear hz hb h
  go_enter Try.func34, Try.ntmps34
  go_wp2_with fail
  generalize hW1 : W.alloc (.cells #[.int .i64 12, .int .i64 wh, .int .u16 at', .int .u16 X, .int .u16 Y, .int .u16 C, .int .i64 N] 76) = W1 at *
  have s0 : (fun w' : World => w'.cell? ⟨p, 0, none⟩ = some (.pointer (some ⟨mb 0, 0, none⟩)) ∧ w'.cell? ⟨p, 2, none⟩ = some (.pointer (some ⟨rb 0, 0, none⟩))) W1.drew := ⟨P.drew.pcell 0 _ rfl, P.drew.pcell 2 _ rfl⟩
  have t0 := ht 0 (by omega)
  have f0 : W1.cell? ⟨g, 0, none⟩ = some (.int .i64 12) := P.bcell 0 _ rfl
  have HT : Hid _ := fun (j : Nat) (hj : j < 2) => Nat.le_trans (ht j hj) (Nat.le_add_right T 3)
  obtain ⟨F1, a1, n1⟩ := P.drew.callM 0 (by omega)
  have hwf := a1.wf
  have hfu := inO_full (s 0) hwf 16
  have hil := inO_len (s 0) 16
  have k1 := image_has (mb 0) W1.drew a1
  have HP : Hid _ := P.drew
  unfold imgC at k1
  clear P a1 n1 hW1 ht
  go_region_held3 (fun w' => w'.cell? ⟨p, 0, none⟩ = some (.pointer (some ⟨mb 0, 0, none⟩)) ∧ w'.cell? ⟨p, 2, none⟩ = some (.pointer (some ⟨rb 0, 0, none⟩))) (first | (with_reducible exact s0)) (fail)
  go_wp2_with fail
  refine k1.mono ?_
  rintro e w2 ⟨u, rv, sv, gs, N1, N2, rfl, hIm, hB2⟩
  obtain ⟨p1, c1, rp, rc, sp, sc', rfl, rfl, rfl, hbn, hr, hs⟩ := hIm.forms (fun t ht => by have := hfu t ht; unfold room; omega)
  have hblk : (w2.alloc (.cells #[.slice p1 (inO (s 0) 16).length c1, .slice rp (s 0).ram.length rc, .slice sp (s 0).scr.length sc', .int .u8 (s 0).ch, .int .u8 (s 0).pad, .int .u16 (s 0).pitch, .int .u8 (s 0).vol, .int .u16 (s 0).time] 48)).heap[w2.heap.size]? = some (.cells (imgC (.slice p1 (inO (s 0) 16).length c1) (.slice rp (s 0).ram.length rc) (.slice sp (s 0).scr.length sc') (s 0)).toArray 48 (0, 0)) := heap_alloc_new w2 _
  have hB3 : Below w2.heap.size w2 (w2.alloc (.cells #[.slice p1 (inO (s 0) 16).length c1, .slice rp (s 0).ram.length rc, .slice sp (s 0).scr.length sc', .int .u8 (s 0).ch, .int .u8 (s 0).pad, .int .u16 (s 0).pitch, .int .u8 (s 0).vol, .int .u16 (s 0).time] 48)) := (Below.refl _ w2).alloc (Nat.le_refl _) _
  obtain ⟨w3, hw3⟩ : ∃ w3, w2.alloc (.cells #[.slice p1 (inO (s 0) 16).length c1, .slice rp (s 0).ram.length rc, .slice sp (s 0).scr.length sc', .int .u8 (s 0).ch, .int .u8 (s 0).pad, .int .u16 (s 0).pitch, .int .u8 (s 0).vol, .int .u16 (s 0).time] 48) = w3 := ⟨_, rfl⟩
  rw [hw3] at hblk hB3
  have hsp := (hIm.sp.below hB3)
  have hA3 := hB2.trans (hB3.mono hB2.size)
  have hbn3 := hbn.below hB3
  have hr3 := Sl.below hr hB3
  have hs3 := Sl.below hs hB3
  obtain ⟨n, hn⟩ : ∃ n, w2.heap.size = n := ⟨_, rfl⟩
  rw [hn] at hblk
  have hc1 := image_any p1 (inO (s 0) 16).length c1 rp sp (s 0).ram.length rc (s 0).scr.length sc' (s 0) w3
  unfold img at hc1
  have H3 : Hid _ := And.intro hsp (And.intro hA3 (And.intro hbn3 (And.intro hr3 (And.intro hs3 hblk))))
  obtain ⟨f0', f1, f2, f3, f4, f5, f6, f7⟩ := cells8' hblk
  clear k1 hIm hbn hr hs hB3 hsp hA3 hbn3 hr3 hs3 hblk hB2
  go_upto_region 44 with fail
  try rw [hw3]
  clear hw3
  go_wp2_with fail
  refine hc1.mono ?_
  rintro e w4 ⟨rfl, hB4⟩
  have hA4 := H3.out.2.1.trans (hB4.mono H3.out.2.1.size)
  obtain ⟨F2, a2, n2⟩ := (HP.out.below hA4).callR 0 (by omega)
  have hc2 := rimage_any (rb 0) w4 a2 (by omega)
  unfold imgC at hc2
  have HB4 : Hid _ := And.intro hB4 hA4
  clear hc1 a2 n2 hB4 hA4 f0' f1 f2 f3 f4 f5 f6 f7
  go_wp2_with fail
  refine hc2.mono ?_
  rintro e w5 ⟨pb, cb, gr', gc, rfl, hRI, hB5⟩
  have hB35 := HB4.out.1.trans (hB5.mono HB4.out.1.size)
  have hc3 := sameImage_any p1 pb c1 cb (inO (s 0) 16) (by unfold room; omega) (.slice rp (s 0).ram.length rc) (.slice (some ⟨gr', 0, none⟩) 16384 16384) (.slice sp (s 0).scr.length sc') (.slice (some ⟨gc, 0, none⟩) 3072 3072) (s 0).ram (s 0).scr (s 0) w5 (H3.out.2.2.1.below hB35) hRI.bn (Sl.below H3.out.2.2.2.1 hB35) hRI.ram (Sl.below H3.out.2.2.2.2.1 hB35) hRI.scr
  unfold img at hc3
  have HB5 : Hid _ := And.intro hB35 (HB4.out.2.trans (hB5.mono HB4.out.2.size))
  clear hc2 hRI hB5 hB35 HB4
  go_wp2_with fail
  refine hc3.mono ?_
  rintro e w6 ⟨rfl, hB6⟩
  have hB36 := HB5.out.1.trans (hB6.mono HB5.out.1.size)
  have hA6 := HB5.out.2.trans (hB6.mono HB5.out.2.size)
  have hblk6 := (hB36.block n (lt_of H3.out.2.2.2.2.2)).trans H3.out.2.2.2.2.2
  obtain ⟨f0', f1, f2, f3, f4, f5, f6, f7⟩ := cells8' hblk6
  have hc4 := spoil_any _ _ _ _ (inO (s 0) 16) hil (s 0).ram (s 0).scr gs (s 0) w6 (H3.out.1.below hB36) hA6.size (fun t ht => by rw [hfu t ht]; omega) (by rw [hwf.ram]; omega) (by rw [hwf.scr]; omega)
  unfold imgC at hc4
  have HA6 : Hid _ := hA6
  clear hc3 hB6 hB36 hA6 hblk6
  go_wp2_with fail
  refine hc4.mono ?_
  rintro e w7 ⟨rfl, hB7⟩
  have P7 := HP.out.below (HA6.out.trans hB7)
  have HP7 : Hid _ := P7
  clear P7 hB7 hc4 f0' f1 f2 f3 f4 f5 f6 f7
  go_wp2
  go_ret
  exact ⟨rfl, HP7.out.done HT.out⟩
theorem play12_1 (B p : Nat) (wh at' X Y C N : Int) (z0 : 0 ≤ at') (z1 : at' < 65536) (x0 : 0 ≤ X) (x1 : X < 65536) (y0 : 0 ≤ Y) (y1 : Y < 65536) (hw : (wrap64 (wh.tmod 2 + 2)).tmod 2 = 1) (T : Nat) (hT : T ≤ 900000) (W : World) {c mb rb : Nat → Nat} {s : Nat → MS} (h : Duo W B p c mb rb s s) (ht : ∀ j, j < 2 → (s j).tones.length ≤ T) :
    Calls Try.prog 34 #[.pointer (some ⟨p, 0, none⟩), .agg #[.int .i64 12, .int .i64 wh, .int .u16 at', .int .u16 X, .int .u16 Y, .int .u16 C, .int .i64 N]] W fun e w' => e = .returned (.bool true) ∧ PlE B p (T + 3) W w' := by
  have hz : (W.alloc (.cells #[.int .i64 12, .int .i64 wh, .int .u16 at', .int .u16 X, .int .u16 Y, .int .u16 C, .int .i64 N] 76)).heap[W.heap.size]? = some (.cells (opC 12 wh at' X Y C N).toArray 76 (0, 0)) := heap_alloc_new W _
  have hb : Below W.heap.size W (W.alloc (.cells #[.int .i64 12, .int .i64 wh, .int .u16 at', .int .u16 X, .int .u16 Y, .int .u16 C, .int .i64 N] 76)) := (Below.refl _ W).alloc (Nat.le_refl _) _
  have P := Pb.start h hb hz
  obtain ⟨g, hg⟩ : ∃ g, W.heap.size = g := ⟨_, rfl⟩
  rw [hg] at P
  clear hz hb h
  go_enter Try.func34, Try.ntmps34
  go_wp2_with fail
  generalize hW1 : W.alloc (.cells #[.int .i64 12, .int .i64 wh, .int .u16 at', .int .u16 X, .int .u16 Y, .int .u16 C, .int .i64 N] 76) = W1 at *
  have s0 : (fun w' : World => w'.cell? ⟨p, 1, none⟩ = some (.pointer (some ⟨mb 1, 0, none⟩)) ∧ w'.cell? ⟨p, 3, none⟩ = some (.pointer (some ⟨rb 1, 0, none⟩))) W1.drew := ⟨P.drew.pcell 1 _ rfl, P.drew.pcell 3 _ rfl⟩
  have t1 := ht 1 (by omega)
  have f0 : W1.cell? ⟨g, 0, none⟩ = some (.int .i64 12) := P.bcell 0 _ rfl
  have HT : Hid _ := fun (j : Nat) (hj : j < 2) => Nat.le_trans (ht j hj) (Nat.le_add_right T 3)
  obtain ⟨F1, a1, n1⟩ := P.drew.callM 1 (by omega)
  have hwf := a1.wf
  have hfu := inO_full (s 1) hwf 16
  have hil := inO_len (s 1) 16
  have k1 := image_has (mb 1) W1.drew a1
  have HP : Hid _ := P.drew
  unfold imgC at k1
  clear P a1 n1 hW1 ht
  go_region_held3 (fun w' => w'.cell? ⟨p, 1, none⟩ = some (.pointer (some ⟨mb 1, 0, none⟩)) ∧ w'.cell? ⟨p, 3, none⟩ = some (.pointer (some ⟨rb 1, 0, none⟩))) (first | (with_reducible exact s0)) (fail)
  go_wp2_with fail
  refine k1.mono ?_
  rintro e w2 ⟨u, rv, sv, gs, N1, N2, rfl, hIm, hB2⟩
  obtain ⟨p1, c1, rp, rc, sp, sc', rfl, rfl, rfl, hbn, hr, hs⟩ := hIm.forms (fun t ht => by have := hfu t ht; unfold room; omega)
  have hblk : (w2.alloc (.cells #[.slice p1 (inO (s 1) 16).length c1, .slice rp (s 1).ram.length rc, .slice sp (s 1).scr.length sc', .int .u8 (s 1).ch, .int .u8 (s 1).pad, .int .u16 (s 1).pitch, .int .u8 (s 1).vol, .int .u16 (s 1).time] 48)).heap[w2.heap.size]? = some (.cells (imgC (.slice p1 (inO (s 1) 16).length c1) (.slice rp (s 1).ram.length rc) (.slice sp (s 1).scr.length sc') (s 1)).toArray 48 (0, 0)) := heap_alloc_new w2 _
  have hB3 : Below w2.heap.size w2 (w2.alloc (.cells #[.slice p1 (inO (s 1) 16).length c1, .slice rp (s 1).ram.length rc, .slice sp (s 1).scr.length sc', .int .u8 (s 1).ch, .int .u8 (s 1).pad, .int .u16 (s 1).pitch, .int .u8 (s 1).vol, .int .u16 (s 1).time] 48)) := (Below.refl _ w2).alloc (Nat.le_refl _) _
  obtain ⟨w3, hw3⟩ : ∃ w3, w2.alloc (.cells #[.slice p1 (inO (s 1) 16).length c1, .slice rp (s 1).ram.length rc, .slice sp (s 1).scr.length sc', .int .u8 (s 1).ch, .int .u8 (s 1).pad, .int .u16 (s 1).pitch, .int .u8 (s 1).vol, .int .u16 (s 1).time] 48) = w3 := ⟨_, rfl⟩
  rw [hw3] at hblk hB3
  have hsp := (hIm.sp.below hB3)
  have hA3 := hB2.trans (hB3.mono hB2.size)
  have hbn3 := hbn.below hB3
  have hr3 := Sl.below hr hB3
  have hs3 := Sl.below hs hB3
  obtain ⟨n, hn⟩ : ∃ n, w2.heap.size = n := ⟨_, rfl⟩
  rw [hn] at hblk
  have hc1 := image_any p1 (inO (s 1) 16).length c1 rp sp (s 1).ram.length rc (s 1).scr.length sc' (s 1) w3
  unfold img at hc1
  have H3 : Hid _ := And.intro hsp (And.intro hA3 (And.intro hbn3 (And.intro hr3 (And.intro hs3 hblk))))
  obtain ⟨f0', f1, f2, f3, f4, f5, f6, f7⟩ := cells8' hblk
  clear k1 hIm hbn hr hs hB3 hsp hA3 hbn3 hr3 hs3 hblk hB2
  go_upto_region 44 with fail
  try rw [hw3]
  clear hw3
  go_wp2_with fail
  refine hc1.mono ?_
  rintro e w4 ⟨rfl, hB4⟩
  have hA4 := H3.out.2.1.trans (hB4.mono H3.out.2.1.size)
  obtain ⟨F2, a2, n2⟩ := (HP.out.below hA4).callR 1 (by omega)
  have hc2 := rimage_any (rb 1) w4 a2 (by omega)
  unfold imgC at hc2
  have HB4 : Hid _ := And.intro hB4 hA4
  clear hc1 a2 n2 hB4 hA4 f0' f1 f2 f3 f4 f5 f6 f7
  go_wp2_with fail
  refine hc2.mono ?_
  rintro e w5 ⟨pb, cb, gr', gc, rfl, hRI, hB5⟩
  have hB35 := HB4.out.1.trans (hB5.mono HB4.out.1.size)
  have hc3 := sameImage_any p1 pb c1 cb (inO (s 1) 16) (by unfold room; omega) (.slice rp (s 1).ram.length rc) (.slice (some ⟨gr', 0, none⟩) 16384 16384) (.slice sp (s 1).scr.length sc') (.slice (some ⟨gc, 0, none⟩) 3072 3072) (s 1).ram (s 1).scr (s 1) w5 (H3.out.2.2.1.below hB35) hRI.bn (Sl.below H3.out.2.2.2.1 hB35) hRI.ram (Sl.below H3.out.2.2.2.2.1 hB35) hRI.scr
  unfold img at hc3
  have HB5 : Hid _ := And.intro hB35 (HB4.out.2.trans (hB5.mono HB4.out.2.size))
  clear hc2 hRI hB5 hB35 HB4
  go_wp2_with fail
  refine hc3.mono ?_
  rintro e w6 ⟨rfl, hB6⟩
  have hB36 := HB5.out.1.trans (hB6.mono HB5.out.1.size)
  have hA6 := HB5.out.2.trans (hB6.mono HB5.out.2.size)
  have hblk6 := (hB36.block n (lt_of H3.out.2.2.2.2.2)).trans H3.out.2.2.2.2.2
  obtain ⟨f0', f1, f2, f3, f4, f5, f6, f7⟩ := cells8' hblk6
  have hc4 := spoil_any _ _ _ _ (inO (s 1) 16) hil (s 1).ram (s 1).scr gs (s 1) w6 (H3.out.1.below hB36) hA6.size (fun t ht => by rw [hfu t ht]; omega) (by rw [hwf.ram]; omega) (by rw [hwf.scr]; omega)
  unfold imgC at hc4
  have HA6 : Hid _ := hA6
  clear hc3 hB6 hB36 hA6 hblk6
  go_wp2_with fail
  refine hc4.mono ?_
  rintro e w7 ⟨rfl, hB7⟩
  have P7 := HP.out.below (HA6.out.trans hB7)
  have HP7 : Hid _ := P7
  clear P7 hB7 hc4 f0' f1 f2 f3 f4 f5 f6 f7
  go_wp2
  go_ret
  exact ⟨rfl, HP7.out.done HT.out⟩
end Go.Proofs.Ytcmaccefjlgbfaa
