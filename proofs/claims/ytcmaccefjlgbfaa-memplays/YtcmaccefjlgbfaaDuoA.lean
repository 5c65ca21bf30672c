import Derived.Test.YtcmaccefjlgbfaaDuo
import Derived.Deep.RegionHeld3
/-! A step of the pair: the kinds at which both memories are called alike. -/
namespace Go.Proofs.Ytcmaccefjlgbfaa
open Go.RowKit
open Go.Proofs
set_option linter.unusedVariables false
set_option linter.unusedSimpArgs false
set_option maxHeartbeats 2000000
set_option maxRecDepth 100000
theorem play3_0 (B p : Nat) (wh at' X Y C N : Int) (z0 : 0 ≤ at') (z1 : at' < 65536) (x0 : 0 ≤ X) (x1 : X < 65536) (y0 : 0 ≤ Y) (y1 : Y < 65536) (hw : (wrap64 (wh.tmod 2 + 2)).tmod 2 = 0) (T : Nat) (hT : T ≤ 900000) (W : World) {c mb rb : Nat → Nat} {s : Nat → MS} (h : Duo W B p c mb rb s s) (ht : ∀ j, j < 2 → (s j).tones.length ≤ T) :
    Calls Try.prog 34 #[.pointer (some ⟨p, 0, none⟩), .agg #[.int .i64 3, .int .i64 wh, .int .u16 at', .int .u16 X, .int .u16 Y, .int .u16 C, .int .i64 N]] W fun e w' => e = .returned (.bool true) ∧ PlE B p (T + 3) W w' := by
  have hz : (W.alloc (.cells #[.int .i64 3, .int .i64 wh, .int .u16 at', .int .u16 X, .int .u16 Y, .int .u16 C, .int .i64 N] 76)).heap[W.heap.size]? = some (.cells (opC 3 wh at' X Y C N).toArray 76 (0, 0)) := heap_alloc_new W _
  have hb : Below W.heap.size W (W.alloc (.cells #[.int .i64 3, .int .i64 wh, .int .u16 at', .int .u16 X, .int .u16 Y, .int .u16 C, .int .i64 N] 76)) := (Below.refl _ W).alloc (Nat.le_refl _) _
  have P := Pb.start h hb hz
  obtain ⟨g, hg⟩ : ∃ g, W.heap.size = g := ⟨_, rfl⟩
  rw [hg] at P
  clear hz hb h
  go_enter Try.func34, Try.ntmps34
  go_wp2_with fail
  generalize hW1 : W.alloc (.cells #[.int .i64 3, .int .i64 wh, .int .u16 at', .int .u16 X, .int .u16 Y, .int .u16 C, .int .i64 N] 76) = W1 at *
  have s0 : (fun w' : World => w'.cell? ⟨p, 0, none⟩ = some (.pointer (some ⟨mb 0, 0, none⟩)) ∧ w'.cell? ⟨p, 2, none⟩ = some (.pointer (some ⟨rb 0, 0, none⟩))) W1.drew := ⟨P.drew.pcell 0 _ rfl, P.drew.pcell 2 _ rfl⟩
  have t0 := ht 0 (by omega)
  obtain ⟨F1, a1, n1⟩ := P.drew.callM 0 (by omega)
  have f0 : W1.cell? ⟨g, 0, none⟩ = some (.int .i64 3) := P.bcell 0 _ rfl
  have f2 : W1.cell? ⟨g, 2, none⟩ = some (.int .u16 at') := P.bcell 2 _ rfl
  have f3 : W1.cell? ⟨g, 3, none⟩ = some (.int .u16 X) := P.bcell 3 _ rfl
  have k1 := store_any (mb 0) at' z0 z1 (b8 X) W1.drew a1 (by omega)
  rw [bt_b8] at k1
  have N1 : Hid _ := n1
  have HT : Hid _ := ht
  clear P a1 n1 hW1 ht
  go_region_held3 (fun w' => w'.cell? ⟨p, 0, none⟩ = some (.pointer (some ⟨mb 0, 0, none⟩)) ∧ w'.cell? ⟨p, 2, none⟩ = some (.pointer (some ⟨rb 0, 0, none⟩))) (first | (with_reducible exact s0)) (fail)
  go_wp2_with fail
  refine k1.mono ?_
  rintro e w2 ⟨rfl, d1⟩
  have P2 := N1.out _ _ d1
  obtain ⟨F2, a2, n2⟩ := P2.callR 0 (by omega)
  have k2 := rstore_any (rb 0) at' z0 z1 (b8 X) w2 a2 (by omega)
  rw [bt_b8] at k2
  clear f0 k1 d1 a2 N1 s0 f2 f3
  have f2 : w2.cell? ⟨g, 2, none⟩ = some (.int .u16 at') := P2.bcell 2 _ rfl
  have f3 : w2.cell? ⟨g, 3, none⟩ = some (.int .u16 X) := P2.bcell 3 _ rfl
  have N2 : Hid _ := n2
  clear P2 n2
  go_wp2_with fail
  refine k2.mono ?_
  rintro e w3 ⟨rfl, d2⟩
  have P3 := N2.out _ _ d2
  go_wp2
  go_ret
  refine ⟨rfl, P3.done (up_le HT.out 0 _ ?_)⟩
  · have t1 := st_tones (s 0) at' (b8 X)
    omega
theorem play3_1 (B p : Nat) (wh at' X Y C N : Int) (z0 : 0 ≤ at') (z1 : at' < 65536) (x0 : 0 ≤ X) (x1 : X < 65536) (y0 : 0 ≤ Y) (y1 : Y < 65536) (hw : (wrap64 (wh.tmod 2 + 2)).tmod 2 = 1) (T : Nat) (hT : T ≤ 900000) (W : World) {c mb rb : Nat → Nat} {s : Nat → MS} (h : Duo W B p c mb rb s s) (ht : ∀ j, j < 2 → (s j).tones.length ≤ T) :
    Calls Try.prog 34 #[.pointer (some ⟨p, 0, none⟩), .agg #[.int .i64 3, .int .i64 wh, .int .u16 at', .int .u16 X, .int .u16 Y, .int .u16 C, .int .i64 N]] W fun e w' => e = .returned (.bool true) ∧ PlE B p (T + 3) W w' := by
  have hz : (W.alloc (.cells #[.int .i64 3, .int .i64 wh, .int .u16 at', .int .u16 X, .int .u16 Y, .int .u16 C, .int .i64 N] 76)).heap[W.heap.size]? = some (.cells (opC 3 wh at' X Y C N).toArray 76 (0, 0)) := heap_alloc_new W _
  have hb : Below W.heap.size W (W.alloc (.cells #[.int .i64 3, .int .i64 wh, .int .u16 at', .int .u16 X, .int .u16 Y, .int .u16 C, .int .i64 N] 76)) := (Below.refl _ W).alloc (Nat.le_refl _) _
  have P := Pb.start h hb hz
  obtain ⟨g, hg⟩ : ∃ g, W.heap.size = g := ⟨_, rfl⟩
  rw [hg] at P
  clear hz hb h
  go_enter Try.func34, Try.ntmps34
  go_wp2_with fail
  generalize hW1 : W.alloc (.cells #[.int .i64 3, .int .i64 wh, .int .u16 at', .int .u16 X, .int .u16 Y, .int .u16 C, .int .i64 N] 76) = W1 at *
  have s0 : (fun w' : World => w'.cell? ⟨p, 1, none⟩ = some (.pointer (some ⟨mb 1, 0, none⟩)) ∧ w'.cell? ⟨p, 3, none⟩ = some (.pointer (some ⟨rb 1, 0, none⟩))) W1.drew := ⟨P.drew.pcell 1 _ rfl, P.drew.pcell 3 _ rfl⟩
  have t1 := ht 1 (by omega)
  obtain ⟨F1, a1, n1⟩ := P.drew.callM 1 (by omega)
  have f0 : W1.cell? ⟨g, 0, none⟩ = some (.int .i64 3) := P.bcell 0 _ rfl
  have f2 : W1.cell? ⟨g, 2, none⟩ = some (.int .u16 at') := P.bcell 2 _ rfl
  have f3 : W1.cell? ⟨g, 3, none⟩ = some (.int .u16 X) := P.bcell 3 _ rfl
  have k1 := store_any (mb 1) at' z0 z1 (b8 X) W1.drew a1 (by omega)
  rw [bt_b8] at k1
  have N1 : Hid _ := n1
  have HT : Hid _ := ht
  clear P a1 n1 hW1 ht
  go_region_held3 (fun w' => w'.cell? ⟨p, 1, none⟩ = some (.pointer (some ⟨mb 1, 0, none⟩)) ∧ w'.cell? ⟨p, 3, none⟩ = some (.pointer (some ⟨rb 1, 0, none⟩))) (first | (with_reducible exact s0)) (fail)
  go_wp2_with fail
  refine k1.mono ?_
  rintro e w2 ⟨rfl, d1⟩
  have P2 := N1.out _ _ d1
  obtain ⟨F2, a2, n2⟩ := P2.callR 1 (by omega)
  have k2 := rstore_any (rb 1) at' z0 z1 (b8 X) w2 a2 (by omega)
  rw [bt_b8] at k2
  clear f0 k1 d1 a2 N1 s0 f2 f3
  have f2 : w2.cell? ⟨g, 2, none⟩ = some (.int .u16 at') := P2.bcell 2 _ rfl
  have f3 : w2.cell? ⟨g, 3, none⟩ = some (.int .u16 X) := P2.bcell 3 _ rfl
  have N2 : Hid _ := n2
  clear P2 n2
  go_wp2_with fail
  refine k2.mono ?_
  rintro e w3 ⟨rfl, d2⟩
  have P3 := N2.out _ _ d2
  go_wp2
  go_ret
  refine ⟨rfl, P3.done (up_le HT.out 1 _ ?_)⟩
  · have t1 := st_tones (s 1) at' (b8 X)
    omega
theorem play4_0 (B p : Nat) (wh at' X Y C N : Int) (z0 : 0 ≤ at') (z1 : at' < 65536) (x0 : 0 ≤ X) (x1 : X < 65536) (y0 : 0 ≤ Y) (y1 : Y < 65536) (hw : (wrap64 (wh.tmod 2 + 2)).tmod 2 = 0) (T : Nat) (hT : T ≤ 900000) (W : World) {c mb rb : Nat → Nat} {s : Nat → MS} (h : Duo W B p c mb rb s s) (ht : ∀ j, j < 2 → (s j).tones.length ≤ T) :
    Calls Try.prog 34 #[.pointer (some ⟨p, 0, none⟩), .agg #[.int .i64 4, .int .i64 wh, .int .u16 at', .int .u16 X, .int .u16 Y, .int .u16 C, .int .i64 N]] W fun e w' => e = .returned (.bool true) ∧ PlE B p (T + 3) W w' := by
  have hz : (W.alloc (.cells #[.int .i64 4, .int .i64 wh, .int .u16 at', .int .u16 X, .int .u16 Y, .int .u16 C, .int .i64 N] 76)).heap[W.heap.size]? = some (.cells (opC 4 wh at' X Y C N).toArray 76 (0, 0)) := heap_alloc_new W _
  have hb : Below W.heap.size W (W.alloc (.cells #[.int .i64 4, .int .i64 wh, .int .u16 at', .int .u16 X, .int .u16 Y, .int .u16 C, .int .i64 N] 76)) := (Below.refl _ W).alloc (Nat.le_refl _) _
  have P := Pb.start h hb hz
  obtain ⟨g, hg⟩ : ∃ g, W.heap.size = g := ⟨_, rfl⟩
  rw [hg] at P
  clear hz hb h
  go_enter Try.func34, Try.ntmps34
  go_wp2_with fail
  generalize hW1 : W.alloc (.cells #[.int .i64 4, .int .i64 wh, .int .u16 at', .int .u16 X, .int .u16 Y, .int .u16 C, .int .i64 N] 76) = W1 at *
  have s0 : (fun w' : World => w'.cell? ⟨p, 0, none⟩ = some (.pointer (some ⟨mb 0, 0, none⟩)) ∧ w'.cell? ⟨p, 2, none⟩ = some (.pointer (some ⟨rb 0, 0, none⟩))) W1.drew := ⟨P.drew.pcell 0 _ rfl, P.drew.pcell 2 _ rfl⟩
  have t0 := ht 0 (by omega)
  obtain ⟨F1, a1, n1⟩ := P.drew.callM 0 (by omega)
  have f0 : W1.cell? ⟨g, 0, none⟩ = some (.int .i64 4) := P.bcell 0 _ rfl
  have f2 : W1.cell? ⟨g, 2, none⟩ = some (.int .u16 at') := P.bcell 2 _ rfl
  have f3 : W1.cell? ⟨g, 3, none⟩ = some (.int .u16 X) := P.bcell 3 _ rfl
  have k1 := setCell_any (mb 0) at' z0 z1 X x0 x1 W1.drew a1 (by omega)
  have N1 : Hid _ := n1
  have HT : Hid _ := ht
  clear P a1 n1 hW1 ht
  go_region_held3 (fun w' => w'.cell? ⟨p, 0, none⟩ = some (.pointer (some ⟨mb 0, 0, none⟩)) ∧ w'.cell? ⟨p, 2, none⟩ = some (.pointer (some ⟨rb 0, 0, none⟩))) (first | (with_reducible exact s0)) (fail)
  go_wp2_with fail
  refine k1.mono ?_
  rintro e w2 ⟨rfl, d1⟩
  have P2 := N1.out _ _ d1
  obtain ⟨F2, a2, n2⟩ := P2.callR 0 (by omega)
  have k2 := rsetCell_any (rb 0) at' z0 z1 X x0 x1 w2 a2 (by omega)
  clear f0 k1 d1 a2 N1 s0 f2 f3
  have f2 : w2.cell? ⟨g, 2, none⟩ = some (.int .u16 at') := P2.bcell 2 _ rfl
  have f3 : w2.cell? ⟨g, 3, none⟩ = some (.int .u16 X) := P2.bcell 3 _ rfl
  have N2 : Hid _ := n2
  clear P2 n2
  go_wp2_with fail
  refine k2.mono ?_
  rintro e w3 ⟨rfl, d2⟩
  have P3 := N2.out _ _ d2
  go_wp2
  go_ret
  refine ⟨rfl, P3.done (up_le HT.out 0 _ ?_)⟩
  · unfold sc
    have t1 := st_tones (s 0) at' (b8 X)
    have t2 := st_tones (st (s 0) at' (b8 X)) ((at' + 1) % 65536) (b8 (X / 256))
    omega
theorem play4_1 (B p : Nat) (wh at' X Y C N : Int) (z0 : 0 ≤ at') (z1 : at' < 65536) (x0 : 0 ≤ X) (x1 : X < 65536) (y0 : 0 ≤ Y) (y1 : Y < 65536) (hw : (wrap64 (wh.tmod 2 + 2)).tmod 2 = 1) (T : Nat) (hT : T ≤ 900000) (W : World) {c mb rb : Nat → Nat} {s : Nat → MS} (h : Duo W B p c mb rb s s) (ht : ∀ j, j < 2 → (s j).tones.length ≤ T) :
    Calls Try.prog 34 #[.pointer (some ⟨p, 0, none⟩), .agg #[.int .i64 4, .int .i64 wh, .int .u16 at', .int .u16 X, .int .u16 Y, .int .u16 C, .int .i64 N]] W fun e w' => e = .returned (.bool true) ∧ PlE B p (T + 3) W w' := by
  have hz : (W.alloc (.cells #[.int .i64 4, .int .i64 wh, .int .u16 at', .int .u16 X, .int .u16 Y, .int .u16 C, .int .i64 N] 76)).heap[W.heap.size]? = some (.cells (opC 4 wh at' X Y C N).toArray 76 (0, 0)) := heap_alloc_new W _
  have hb : Below W.heap.size W (W.alloc (.cells #[.int .i64 4, .int .i64 wh, .int .u16 at', .int .u16 X, .int .u16 Y, .int .u16 C, .int .i64 N] 76)) := (Below.refl _ W).alloc (Nat.le_refl _) _
  have P := Pb.start h hb hz
  obtain ⟨g, hg⟩ : ∃ g, W.heap.size = g := ⟨_, rfl⟩
  rw [hg] at P
  clear hz hb h
  go_enter Try.func34, Try.ntmps34
  go_wp2_with fail
  generalize hW1 : W.alloc (.cells #[.int .i64 4, .int .i64 wh, .int .u16 at', .int .u16 X, .int .u16 Y, .int .u16 C, .int .i64 N] 76) = W1 at *
  have s0 : (fun w' : World => w'.cell? ⟨p, 1, none⟩ = some (.pointer (some ⟨mb 1, 0, none⟩)) ∧ w'.cell? ⟨p, 3, none⟩ = some (.pointer (some ⟨rb 1, 0, none⟩))) W1.drew := ⟨P.drew.pcell 1 _ rfl, P.drew.pcell 3 _ rfl⟩
  have t1 := ht 1 (by omega)
  obtain ⟨F1, a1, n1⟩ := P.drew.callM 1 (by omega)
  have f0 : W1.cell? ⟨g, 0, none⟩ = some (.int .i64 4) := P.bcell 0 _ rfl
  have f2 : W1.cell? ⟨g, 2, none⟩ = some (.int .u16 at') := P.bcell 2 _ rfl
  have f3 : W1.cell? ⟨g, 3, none⟩ = some (.int .u16 X) := P.bcell 3 _ rfl
  have k1 := setCell_any (mb 1) at' z0 z1 X x0 x1 W1.drew a1 (by omega)
  have N1 : Hid _ := n1
  have HT : Hid _ := ht
  clear P a1 n1 hW1 ht
  go_region_held3 (fun w' => w'.cell? ⟨p, 1, none⟩ = some (.pointer (some ⟨mb 1, 0, none⟩)) ∧ w'.cell? ⟨p, 3, none⟩ = some (.pointer (some ⟨rb 1, 0, none⟩))) (first | (with_reducible exact s0)) (fail)
  go_wp2_with fail
  refine k1.mono ?_
  rintro e w2 ⟨rfl, d1⟩
  have P2 := N1.out _ _ d1
  obtain ⟨F2, a2, n2⟩ := P2.callR 1 (by omega)
  have k2 := rsetCell_any (rb 1) at' z0 z1 X x0 x1 w2 a2 (by omega)
  clear f0 k1 d1 a2 N1 s0 f2 f3
  have f2 : w2.cell? ⟨g, 2, none⟩ = some (.int .u16 at') := P2.bcell 2 _ rfl
  have f3 : w2.cell? ⟨g, 3, none⟩ = some (.int .u16 X) := P2.bcell 3 _ rfl
  have N2 : Hid _ := n2
  clear P2 n2
  go_wp2_with fail
  refine k2.mono ?_
  rintro e w3 ⟨rfl, d2⟩
  have P3 := N2.out _ _ d2
  go_wp2
  go_ret
  refine ⟨rfl, P3.done (up_le HT.out 1 _ ?_)⟩
  · unfold sc
    have t1 := st_tones (s 1) at' (b8 X)
    have t2 := st_tones (st (s 1) at' (b8 X)) ((at' + 1) % 65536) (b8 (X / 256))
    omega
theorem play5_0 (B p : Nat) (wh at' X Y C N : Int) (z0 : 0 ≤ at') (z1 : at' < 65536) (x0 : 0 ≤ X) (x1 : X < 65536) (y0 : 0 ≤ Y) (y1 : Y < 65536) (hw : (wrap64 (wh.tmod 2 + 2)).tmod 2 = 0) (T : Nat) (hT : T ≤ 900000) (W : World) {c mb rb : Nat → Nat} {s : Nat → MS} (h : Duo W B p c mb rb s s) (ht : ∀ j, j < 2 → (s j).tones.length ≤ T) :
    Calls Try.prog 34 #[.pointer (some ⟨p, 0, none⟩), .agg #[.int .i64 5, .int .i64 wh, .int .u16 at', .int .u16 X, .int .u16 Y, .int .u16 C, .int .i64 N]] W fun e w' => e = .returned (.bool true) ∧ PlE B p (T + 3) W w' := by
  have hz : (W.alloc (.cells #[.int .i64 5, .int .i64 wh, .int .u16 at', .int .u16 X, .int .u16 Y, .int .u16 C, .int .i64 N] 76)).heap[W.heap.size]? = some (.cells (opC 5 wh at' X Y C N).toArray 76 (0, 0)) := heap_alloc_new W _
  have hb : Below W.heap.size W (W.alloc (.cells #[.int .i64 5, .int .i64 wh, .int .u16 at', .int .u16 X, .int .u16 Y, .int .u16 C, .int .i64 N] 76)) := (Below.refl _ W).alloc (Nat.le_refl _) _
  have P := Pb.start h hb hz
  obtain ⟨g, hg⟩ : ∃ g, W.heap.size = g := ⟨_, rfl⟩
  rw [hg] at P
  clear hz hb h
  go_enter Try.func34, Try.ntmps34
  go_wp2_with fail
  generalize hW1 : W.alloc (.cells #[.int .i64 5, .int .i64 wh, .int .u16 at', .int .u16 X, .int .u16 Y, .int .u16 C, .int .i64 N] 76) = W1 at *
  have s0 : (fun w' : World => w'.cell? ⟨p, 0, none⟩ = some (.pointer (some ⟨mb 0, 0, none⟩)) ∧ w'.cell? ⟨p, 2, none⟩ = some (.pointer (some ⟨rb 0, 0, none⟩))) W1.drew := ⟨P.drew.pcell 0 _ rfl, P.drew.pcell 2 _ rfl⟩
  have t0 := ht 0 (by omega)
  obtain ⟨F1, a1, n1⟩ := P.drew.callM 0 (by omega)
  have f0 : W1.cell? ⟨g, 0, none⟩ = some (.int .i64 5) := P.bcell 0 _ rfl
  have f3 : W1.cell? ⟨g, 3, none⟩ = some (.int .u16 X) := P.bcell 3 _ rfl
  have k1 := begin_any (mb 0) (b8 X) W1.drew a1
  have bX := bt_b8 X
  rw [bX] at k1
  have N1 : Hid _ := n1
  have HT : Hid _ := ht
  clear P a1 n1 hW1 ht
  go_region_held3 (fun w' => w'.cell? ⟨p, 0, none⟩ = some (.pointer (some ⟨mb 0, 0, none⟩)) ∧ w'.cell? ⟨p, 2, none⟩ = some (.pointer (some ⟨rb 0, 0, none⟩))) (first | (with_reducible exact s0)) (fail)
  go_wp2_with fail
  refine k1.mono ?_
  rintro e w2 ⟨rfl, d1⟩
  have P2 := N1.out _ _ d1
  obtain ⟨F2, a2, n2⟩ := P2.callR 0 (by omega)
  have k2 := rbegin_any (rb 0) (b8 X) w2 a2
  rw [bX] at k2
  clear f0 k1 d1 a2 N1 s0 f3
  have f3 : w2.cell? ⟨g, 3, none⟩ = some (.int .u16 X) := P2.bcell 3 _ rfl
  have N2 : Hid _ := n2
  clear P2 n2
  go_wp2_with fail
  refine k2.mono ?_
  rintro e w3 ⟨rfl, d2⟩
  have P3 := N2.out _ _ d2
  go_wp2
  go_ret
  refine ⟨rfl, P3.done (up_le HT.out 0 _ ?_)⟩
  · simp [bg]
theorem play5_1 (B p : Nat) (wh at' X Y C N : Int) (z0 : 0 ≤ at') (z1 : at' < 65536) (x0 : 0 ≤ X) (x1 : X < 65536) (y0 : 0 ≤ Y) (y1 : Y < 65536) (hw : (wrap64 (wh.tmod 2 + 2)).tmod 2 = 1) (T : Nat) (hT : T ≤ 900000) (W : World) {c mb rb : Nat → Nat} {s : Nat → MS} (h : Duo W B p c mb rb s s) (ht : ∀ j, j < 2 → (s j).tones.length ≤ T) :
    Calls Try.prog 34 #[.pointer (some ⟨p, 0, none⟩), .agg #[.int .i64 5, .int .i64 wh, .int .u16 at', .int .u16 X, .int .u16 Y, .int .u16 C, .int .i64 N]] W fun e w' => e = .returned (.bool true) ∧ PlE B p (T + 3) W w' := by
  have hz : (W.alloc (.cells #[.int .i64 5, .int .i64 wh, .int .u16 at', .int .u16 X, .int .u16 Y, .int .u16 C, .int .i64 N] 76)).heap[W.heap.size]? = some (.cells (opC 5 wh at' X Y C N).toArray 76 (0, 0)) := heap_alloc_new W _
  have hb : Below W.heap.size W (W.alloc (.cells #[.int .i64 5, .int .i64 wh, .int .u16 at', .int .u16 X, .int .u16 Y, .int .u16 C, .int .i64 N] 76)) := (Below.refl _ W).alloc (Nat.le_refl _) _
  have P := Pb.start h hb hz
  obtain ⟨g, hg⟩ : ∃ g, W.heap.size = g := ⟨_, rfl⟩
  rw [hg] at P
  clear hz hb h
  go_enter Try.func34, Try.ntmps34
  go_wp2_with fail
  generalize hW1 : W.alloc (.cells #[.int .i64 5, .int .i64 wh, .int .u16 at', .int .u16 X, .int .u16 Y, .int .u16 C, .int .i64 N] 76) = W1 at *
  have s0 : (fun w' : World => w'.cell? ⟨p, 1, none⟩ = some (.pointer (some ⟨mb 1, 0, none⟩)) ∧ w'.cell? ⟨p, 3, none⟩ = some (.pointer (some ⟨rb 1, 0, none⟩))) W1.drew := ⟨P.drew.pcell 1 _ rfl, P.drew.pcell 3 _ rfl⟩
  have t1 := ht 1 (by omega)
  obtain ⟨F1, a1, n1⟩ := P.drew.callM 1 (by omega)
  have f0 : W1.cell? ⟨g, 0, none⟩ = some (.int .i64 5) := P.bcell 0 _ rfl
  have f3 : W1.cell? ⟨g, 3, none⟩ = some (.int .u16 X) := P.bcell 3 _ rfl
  have k1 := begin_any (mb 1) (b8 X) W1.drew a1
  have bX := bt_b8 X
  rw [bX] at k1
  have N1 : Hid _ := n1
  have HT : Hid _ := ht
  clear P a1 n1 hW1 ht
  go_region_held3 (fun w' => w'.cell? ⟨p, 1, none⟩ = some (.pointer (some ⟨mb 1, 0, none⟩)) ∧ w'.cell? ⟨p, 3, none⟩ = some (.pointer (some ⟨rb 1, 0, none⟩))) (first | (with_reducible exact s0)) (fail)
  go_wp2_with fail
  refine k1.mono ?_
  rintro e w2 ⟨rfl, d1⟩
  have P2 := N1.out _ _ d1
  obtain ⟨F2, a2, n2⟩ := P2.callR 1 (by omega)
  have k2 := rbegin_any (rb 1) (b8 X) w2 a2
  rw [bX] at k2
  clear f0 k1 d1 a2 N1 s0 f3
  have f3 : w2.cell? ⟨g, 3, none⟩ = some (.int .u16 X) := P2.bcell 3 _ rfl
  have N2 : Hid _ := n2
  clear P2 n2
  go_wp2_with fail
  refine k2.mono ?_
  rintro e w3 ⟨rfl, d2⟩
  have P3 := N2.out _ _ d2
  go_wp2
  go_ret
  refine ⟨rfl, P3.done (up_le HT.out 1 _ ?_)⟩
  · simp [bg]
theorem play7_0 (B p : Nat) (wh at' X Y C N : Int) (z0 : 0 ≤ at') (z1 : at' < 65536) (x0 : 0 ≤ X) (x1 : X < 65536) (y0 : 0 ≤ Y) (y1 : Y < 65536) (hw : (wrap64 (wh.tmod 2 + 2)).tmod 2 = 0) (T : Nat) (hT : T ≤ 900000) (W : World) {c mb rb : Nat → Nat} {s : Nat → MS} (h : Duo W B p c mb rb s s) (ht : ∀ j, j < 2 → (s j).tones.length ≤ T) :
    Calls Try.prog 34 #[.pointer (some ⟨p, 0, none⟩), .agg #[.int .i64 7, .int .i64 wh, .int .u16 at', .int .u16 X, .int .u16 Y, .int .u16 C, .int .i64 N]] W fun e w' => e = .returned (.bool true) ∧ PlE B p (T + 3) W w' := by
  have hz : (W.alloc (.cells #[.int .i64 7, .int .i64 wh, .int .u16 at', .int .u16 X, .int .u16 Y, .int .u16 C, .int .i64 N] 76)).heap[W.heap.size]? = some (.cells (opC 7 wh at' X Y C N).toArray 76 (0, 0)) := heap_alloc_new W _
  have hb : Below W.heap.size W (W.alloc (.cells #[.int .i64 7, .int .i64 wh, .int .u16 at', .int .u16 X, .int .u16 Y, .int .u16 C, .int .i64 N] 76)) := (Below.refl _ W).alloc (Nat.le_refl _) _
  have P := Pb.start h hb hz
  obtain ⟨g, hg⟩ : ∃ g, W.heap.size = g := ⟨_, rfl⟩
  rw [hg] at P
  clear hz hb h
  go_enter Try.func34, Try.ntmps34
  go_wp2_with fail
  generalize hW1 : W.alloc (.cells #[.int .i64 7, .int .i64 wh, .int .u16 at', .int .u16 X, .int .u16 Y, .int .u16 C, .int .i64 N] 76) = W1 at *
  have s0 : (fun w' : World => w'.cell? ⟨p, 0, none⟩ = some (.pointer (some ⟨mb 0, 0, none⟩)) ∧ w'.cell? ⟨p, 2, none⟩ = some (.pointer (some ⟨rb 0, 0, none⟩))) W1.drew := ⟨P.drew.pcell 0 _ rfl, P.drew.pcell 2 _ rfl⟩
  have t0 := ht 0 (by omega)
  obtain ⟨F1, a1, n1⟩ := P.drew.callM 0 (by omega)
  have f0 : W1.cell? ⟨g, 0, none⟩ = some (.int .i64 7) := P.bcell 0 _ rfl
  have f3 : W1.cell? ⟨g, 3, none⟩ = some (.int .u16 X) := P.bcell 3 _ rfl
  have f4 : W1.cell? ⟨g, 4, none⟩ = some (.int .u16 Y) := P.bcell 4 _ rfl
  have f5 : W1.cell? ⟨g, 5, none⟩ = some (.int .u16 C) := P.bcell 5 _ rfl
  have k1 := plot_any (mb 0) X Y C x0 x1 y0 y1 W1.drew a1 (by omega)
  have N1 : Hid _ := n1
  have HT : Hid _ := ht
  clear P a1 n1 hW1 ht
  go_region_held3 (fun w' => w'.cell? ⟨p, 0, none⟩ = some (.pointer (some ⟨mb 0, 0, none⟩)) ∧ w'.cell? ⟨p, 2, none⟩ = some (.pointer (some ⟨rb 0, 0, none⟩))) (first | (with_reducible exact s0)) (fail)
  go_wp2_with fail
  refine k1.mono ?_
  rintro e w2 ⟨rfl, d1⟩
  have P2 := N1.out _ _ d1
  obtain ⟨F2, a2, n2⟩ := P2.callR 0 (by omega)
  have k2 := rplot_any (rb 0) X Y C x0 x1 y0 y1 w2 a2 (by omega)
  clear f0 k1 d1 a2 N1 s0 f3 f4 f5
  have f3 : w2.cell? ⟨g, 3, none⟩ = some (.int .u16 X) := P2.bcell 3 _ rfl
  have f4 : w2.cell? ⟨g, 4, none⟩ = some (.int .u16 Y) := P2.bcell 4 _ rfl
  have f5 : w2.cell? ⟨g, 5, none⟩ = some (.int .u16 C) := P2.bcell 5 _ rfl
  have N2 : Hid _ := n2
  clear P2 n2
  go_wp2_with fail
  refine k2.mono ?_
  rintro e w3 ⟨rfl, d2⟩
  have P3 := N2.out _ _ d2
  go_wp2
  go_ret
  refine ⟨rfl, P3.done (up_le HT.out 0 _ ?_)⟩
  · unfold plt
    split
    · have t1 := st_tones (s 0) (49152 + 64 * Y + X) (b8 C)
      omega
    · omega
theorem play7_1 (B p : Nat) (wh at' X Y C N : Int) (z0 : 0 ≤ at') (z1 : at' < 65536) (x0 : 0 ≤ X) (x1 : X < 65536) (y0 : 0 ≤ Y) (y1 : Y < 65536) (hw : (wrap64 (wh.tmod 2 + 2)).tmod 2 = 1) (T : Nat) (hT : T ≤ 900000) (W : World) {c mb rb : Nat → Nat} {s : Nat → MS} (h : Duo W B p c mb rb s s) (ht : ∀ j, j < 2 → (s j).tones.length ≤ T) :
    Calls Try.prog 34 #[.pointer (some ⟨p, 0, none⟩), .agg #[.int .i64 7, .int .i64 wh, .int .u16 at', .int .u16 X, .int .u16 Y, .int .u16 C, .int .i64 N]] W fun e w' => e = .returned (.bool true) ∧ PlE B p (T + 3) W w' := by
  have hz : (W.alloc (.cells #[.int .i64 7, .int .i64 wh, .int .u16 at', .int .u16 X, .int .u16 Y, .int .u16 C, .int .i64 N] 76)).heap[W.heap.size]? = some (.cells (opC 7 wh at' X Y C N).toArray 76 (0, 0)) := heap_alloc_new W _
  have hb : Below W.heap.size W (W.alloc (.cells #[.int .i64 7, .int .i64 wh, .int .u16 at', .int .u16 X, .int .u16 Y, .int .u16 C, .int .i64 N] 76)) := (Below.refl _ W).alloc (Nat.le_refl _) _
  have P := Pb.start h hb hz
  obtain ⟨g, hg⟩ : ∃ g, W.heap.size = g := ⟨_, rfl⟩
  rw [hg] at P
  clear hz hb h
  go_enter Try.func34, Try.ntmps34
  go_wp2_with fail
  generalize hW1 : W.alloc (.cells #[.int .i64 7, .int .i64 wh, .int .u16 at', .int .u16 X, .int .u16 Y, .int .u16 C, .int .i64 N] 76) = W1 at *
  have s0 : (fun w' : World => w'.cell? ⟨p, 1, none⟩ = some (.pointer (some ⟨mb 1, 0, none⟩)) ∧ w'.cell? ⟨p, 3, none⟩ = some (.pointer (some ⟨rb 1, 0, none⟩))) W1.drew := ⟨P.drew.pcell 1 _ rfl, P.drew.pcell 3 _ rfl⟩
  have t1 := ht 1 (by omega)
  obtain ⟨F1, a1, n1⟩ := P.drew.callM 1 (by omega)
  have f0 : W1.cell? ⟨g, 0, none⟩ = some (.int .i64 7) := P.bcell 0 _ rfl
  have f3 : W1.cell? ⟨g, 3, none⟩ = some (.int .u16 X) := P.bcell 3 _ rfl
  have f4 : W1.cell? ⟨g, 4, none⟩ = some (.int .u16 Y) := P.bcell 4 _ rfl
  have f5 : W1.cell? ⟨g, 5, none⟩ = some (.int .u16 C) := P.bcell 5 _ rfl
  have k1 := plot_any (mb 1) X Y C x0 x1 y0 y1 W1.drew a1 (by omega)
  have N1 : Hid _ := n1
  have HT : Hid _ := ht
  clear P a1 n1 hW1 ht
  go_region_held3 (fun w' => w'.cell? ⟨p, 1, none⟩ = some (.pointer (some ⟨mb 1, 0, none⟩)) ∧ w'.cell? ⟨p, 3, none⟩ = some (.pointer (some ⟨rb 1, 0, none⟩))) (first | (with_reducible exact s0)) (fail)
  go_wp2_with fail
  refine k1.mono ?_
  rintro e w2 ⟨rfl, d1⟩
  have P2 := N1.out _ _ d1
  obtain ⟨F2, a2, n2⟩ := P2.callR 1 (by omega)
  have k2 := rplot_any (rb 1) X Y C x0 x1 y0 y1 w2 a2 (by omega)
  clear f0 k1 d1 a2 N1 s0 f3 f4 f5
  have f3 : w2.cell? ⟨g, 3, none⟩ = some (.int .u16 X) := P2.bcell 3 _ rfl
  have f4 : w2.cell? ⟨g, 4, none⟩ = some (.int .u16 Y) := P2.bcell 4 _ rfl
  have f5 : w2.cell? ⟨g, 5, none⟩ = some (.int .u16 C) := P2.bcell 5 _ rfl
  have N2 : Hid _ := n2
  clear P2 n2
  go_wp2_with fail
  refine k2.mono ?_
  rintro e w3 ⟨rfl, d2⟩
  have P3 := N2.out _ _ d2
  go_wp2
  go_ret
  refine ⟨rfl, P3.done (up_le HT.out 1 _ ?_)⟩
  · unfold plt
    split
    · have t1 := st_tones (s 1) (49152 + 64 * Y + X) (b8 C)
      omega
    · omega
theorem play8_0 (B p : Nat) (wh at' X Y C N : Int) (z0 : 0 ≤ at') (z1 : at' < 65536) (x0 : 0 ≤ X) (x1 : X < 65536) (y0 : 0 ≤ Y) (y1 : Y < 65536) (hw : (wrap64 (wh.tmod 2 + 2)).tmod 2 = 0) (T : Nat) (hT : T ≤ 900000) (W : World) {c mb rb : Nat → Nat} {s : Nat → MS} (h : Duo W B p c mb rb s s) (ht : ∀ j, j < 2 → (s j).tones.length ≤ T) :
    Calls Try.prog 34 #[.pointer (some ⟨p, 0, none⟩), .agg #[.int .i64 8, .int .i64 wh, .int .u16 at', .int .u16 X, .int .u16 Y, .int .u16 C, .int .i64 N]] W fun e w' => e = .returned (.bool true) ∧ PlE B p (T + 3) W w' := by
  have hz : (W.alloc (.cells #[.int .i64 8, .int .i64 wh, .int .u16 at', .int .u16 X, .int .u16 Y, .int .u16 C, .int .i64 N] 76)).heap[W.heap.size]? = some (.cells (opC 8 wh at' X Y C N).toArray 76 (0, 0)) := heap_alloc_new W _
  have hb : Below W.heap.size W (W.alloc (.cells #[.int .i64 8, .int .i64 wh, .int .u16 at', .int .u16 X, .int .u16 Y, .int .u16 C, .int .i64 N] 76)) := (Below.refl _ W).alloc (Nat.le_refl _) _
  have P := Pb.start h hb hz
  obtain ⟨g, hg⟩ : ∃ g, W.heap.size = g := ⟨_, rfl⟩
  rw [hg] at P
  clear hz hb h
  go_enter Try.func34, Try.ntmps34
  go_wp2_with fail
  generalize hW1 : W.alloc (.cells #[.int .i64 8, .int .i64 wh, .int .u16 at', .int .u16 X, .int .u16 Y, .int .u16 C, .int .i64 N] 76) = W1 at *
  have s0 : (fun w' : World => w'.cell? ⟨p, 0, none⟩ = some (.pointer (some ⟨mb 0, 0, none⟩)) ∧ w'.cell? ⟨p, 2, none⟩ = some (.pointer (some ⟨rb 0, 0, none⟩))) W1.drew := ⟨P.drew.pcell 0 _ rfl, P.drew.pcell 2 _ rfl⟩
  have t0 := ht 0 (by omega)
  obtain ⟨F1, a1, n1⟩ := P.drew.callM 0 (by omega)
  have f0 : W1.cell? ⟨g, 0, none⟩ = some (.int .i64 8) := P.bcell 0 _ rfl
  have f3 : W1.cell? ⟨g, 3, none⟩ = some (.int .u16 X) := P.bcell 3 _ rfl
  have f4 : W1.cell? ⟨g, 4, none⟩ = some (.int .u16 Y) := P.bcell 4 _ rfl
  have k1 := play_any (mb 0) X x0 x1 (b8 Y) W1.drew a1 (by omega)
  rw [bt_b8] at k1
  have N1 : Hid _ := n1
  have HT : Hid _ := ht
  clear P a1 n1 hW1 ht
  go_region_held3 (fun w' => w'.cell? ⟨p, 0, none⟩ = some (.pointer (some ⟨mb 0, 0, none⟩)) ∧ w'.cell? ⟨p, 2, none⟩ = some (.pointer (some ⟨rb 0, 0, none⟩))) (first | (with_reducible exact s0)) (fail)
  go_wp2_with fail
  refine k1.mono ?_
  rintro e w2 ⟨rfl, d1⟩
  have P2 := N1.out _ _ d1
  obtain ⟨F2, a2, n2⟩ := P2.callR 0 (by omega)
  have k2 := rplay_any (rb 0) X x0 x1 (b8 Y) w2 a2 (by omega)
  rw [bt_b8] at k2
  clear f0 k1 d1 a2 N1 s0 f3 f4
  have f3 : w2.cell? ⟨g, 3, none⟩ = some (.int .u16 X) := P2.bcell 3 _ rfl
  have f4 : w2.cell? ⟨g, 4, none⟩ = some (.int .u16 Y) := P2.bcell 4 _ rfl
  have N2 : Hid _ := n2
  clear P2 n2
  go_wp2_with fail
  refine k2.mono ?_
  rintro e w3 ⟨rfl, d2⟩
  have P3 := N2.out _ _ d2
  go_wp2
  go_ret
  refine ⟨rfl, P3.done (up_le HT.out 0 _ ?_)⟩
  · unfold sc
    have t1 := st_tones (s 0) 65284 (b8 X)
    have t2 := st_tones (st (s 0) 65284 (b8 X)) ((65284 + 1) % 65536) (b8 (X / 256))
    have t3 := st_tones (st (st (s 0) 65284 (b8 X)) ((65284 + 1) % 65536) (b8 (X / 256))) 65286 (b8 Y)
    omega
theorem play8_1 (B p : Nat) (wh at' X Y C N : Int) (z0 : 0 ≤ at') (z1 : at' < 65536) (x0 : 0 ≤ X) (x1 : X < 65536) (y0 : 0 ≤ Y) (y1 : Y < 65536) (hw : (wrap64 (wh.tmod 2 + 2)).tmod 2 = 1) (T : Nat) (hT : T ≤ 900000) (W : World) {c mb rb : Nat → Nat} {s : Nat → MS} (h : Duo W B p c mb rb s s) (ht : ∀ j, j < 2 → (s j).tones.length ≤ T) :
    Calls Try.prog 34 #[.pointer (some ⟨p, 0, none⟩), .agg #[.int .i64 8, .int .i64 wh, .int .u16 at', .int .u16 X, .int .u16 Y, .int .u16 C, .int .i64 N]] W fun e w' => e = .returned (.bool true) ∧ PlE B p (T + 3) W w' := by
  have hz : (W.alloc (.cells #[.int .i64 8, .int .i64 wh, .int .u16 at', .int .u16 X, .int .u16 Y, .int .u16 C, .int .i64 N] 76)).heap[W.heap.size]? = some (.cells (opC 8 wh at' X Y C N).toArray 76 (0, 0)) := heap_alloc_new W _
  have hb : Below W.heap.size W (W.alloc (.cells #[.int .i64 8, .int .i64 wh, .int .u16 at', .int .u16 X, .int .u16 Y, .int .u16 C, .int .i64 N] 76)) := (Below.refl _ W).alloc (Nat.le_refl _) _
  have P := Pb.start h hb hz
  obtain ⟨g, hg⟩ : ∃ g, W.heap.size = g := ⟨_, rfl⟩
  rw [hg] at P
  clear hz hb h
  go_enter Try.func34, Try.ntmps34
  go_wp2_with fail
  generalize hW1 : W.alloc (.cells #[.int .i64 8, .int .i64 wh, .int .u16 at', .int .u16 X, .int .u16 Y, .int .u16 C, .int .i64 N] 76) = W1 at *
  have s0 : (fun w' : World => w'.cell? ⟨p, 1, none⟩ = some (.pointer (some ⟨mb 1, 0, none⟩)) ∧ w'.cell? ⟨p, 3, none⟩ = some (.pointer (some ⟨rb 1, 0, none⟩))) W1.drew := ⟨P.drew.pcell 1 _ rfl, P.drew.pcell 3 _ rfl⟩
  have t1 := ht 1 (by omega)
  obtain ⟨F1, a1, n1⟩ := P.drew.callM 1 (by omega)
  have f0 : W1.cell? ⟨g, 0, none⟩ = some (.int .i64 8) := P.bcell 0 _ rfl
  have f3 : W1.cell? ⟨g, 3, none⟩ = some (.int .u16 X) := P.bcell 3 _ rfl
  have f4 : W1.cell? ⟨g, 4, none⟩ = some (.int .u16 Y) := P.bcell 4 _ rfl
  have k1 := play_any (mb 1) X x0 x1 (b8 Y) W1.drew a1 (by omega)
  rw [bt_b8] at k1
  have N1 : Hid _ := n1
  have HT : Hid _ := ht
  clear P a1 n1 hW1 ht
  go_region_held3 (fun w' => w'.cell? ⟨p, 1, none⟩ = some (.pointer (some ⟨mb 1, 0, none⟩)) ∧ w'.cell? ⟨p, 3, none⟩ = some (.pointer (some ⟨rb 1, 0, none⟩))) (first | (with_reducible exact s0)) (fail)
  go_wp2_with fail
  refine k1.mono ?_
  rintro e w2 ⟨rfl, d1⟩
  have P2 := N1.out _ _ d1
  obtain ⟨F2, a2, n2⟩ := P2.callR 1 (by omega)
  have k2 := rplay_any (rb 1) X x0 x1 (b8 Y) w2 a2 (by omega)
  rw [bt_b8] at k2
  clear f0 k1 d1 a2 N1 s0 f3 f4
  have f3 : w2.cell? ⟨g, 3, none⟩ = some (.int .u16 X) := P2.bcell 3 _ rfl
  have f4 : w2.cell? ⟨g, 4, none⟩ = some (.int .u16 Y) := P2.bcell 4 _ rfl
  have N2 : Hid _ := n2
  clear P2 n2
  go_wp2_with fail
  refine k2.mono ?_
  rintro e w3 ⟨rfl, d2⟩
  have P3 := N2.out _ _ d2
  go_wp2
  go_ret
  refine ⟨rfl, P3.done (up_le HT.out 1 _ ?_)⟩
  · unfold sc
    have t1 := st_tones (s 1) 65284 (b8 X)
    have t2 := st_tones (st (s 1) 65284 (b8 X)) ((65284 + 1) % 65536) (b8 (X / 256))
    have t3 := st_tones (st (st (s 1) 65284 (b8 X)) ((65284 + 1) % 65536) (b8 (X / 256))) 65286 (b8 Y)
    omega
theorem play9_0 (B p : Nat) (wh at' X Y C N : Int) (z0 : 0 ≤ at') (z1 : at' < 65536) (x0 : 0 ≤ X) (x1 : X < 65536) (y0 : 0 ≤ Y) (y1 : Y < 65536) (hw : (wrap64 (wh.tmod 2 + 2)).tmod 2 = 0) (T : Nat) (hT : T ≤ 900000) (W : World) {c mb rb : Nat → Nat} {s : Nat → MS} (h : Duo W B p c mb rb s s) (ht : ∀ j, j < 2 → (s j).tones.length ≤ T) :
    Calls Try.prog 34 #[.pointer (some ⟨p, 0, none⟩), .agg #[.int .i64 9, .int .i64 wh, .int .u16 at', .int .u16 X, .int .u16 Y, .int .u16 C, .int .i64 N]] W fun e w' => e = .returned (.bool true) ∧ PlE B p (T + 3) W w' := by
  have hz : (W.alloc (.cells #[.int .i64 9, .int .i64 wh, .int .u16 at', .int .u16 X, .int .u16 Y, .int .u16 C, .int .i64 N] 76)).heap[W.heap.size]? = some (.cells (opC 9 wh at' X Y C N).toArray 76 (0, 0)) := heap_alloc_new W _
  have hb : Below W.heap.size W (W.alloc (.cells #[.int .i64 9, .int .i64 wh, .int .u16 at', .int .u16 X, .int .u16 Y, .int .u16 C, .int .i64 N] 76)) := (Below.refl _ W).alloc (Nat.le_refl _) _
  have P := Pb.start h hb hz
  obtain ⟨g, hg⟩ : ∃ g, W.heap.size = g := ⟨_, rfl⟩
  rw [hg] at P
  clear hz hb h
  go_enter Try.func34, Try.ntmps34
  go_wp2_with fail
  generalize hW1 : W.alloc (.cells #[.int .i64 9, .int .i64 wh, .int .u16 at', .int .u16 X, .int .u16 Y, .int .u16 C, .int .i64 N] 76) = W1 at *
  have s0 : (fun w' : World => w'.cell? ⟨p, 0, none⟩ = some (.pointer (some ⟨mb 0, 0, none⟩)) ∧ w'.cell? ⟨p, 2, none⟩ = some (.pointer (some ⟨rb 0, 0, none⟩))) W1.drew := ⟨P.drew.pcell 0 _ rfl, P.drew.pcell 2 _ rfl⟩
  have t0 := ht 0 (by omega)
  obtain ⟨F1, a1, n1⟩ := P.drew.callM 0 (by omega)
  have f0 : W1.cell? ⟨g, 0, none⟩ = some (.int .i64 9) := P.bcell 0 _ rfl
  have f3 : W1.cell? ⟨g, 3, none⟩ = some (.int .u16 X) := P.bcell 3 _ rfl
  have k1 := choose_any (mb 0) X W1.drew a1 (by omega)
  have N1 : Hid _ := n1
  have HT : Hid _ := ht
  clear P a1 n1 hW1 ht
  go_region_held3 (fun w' => w'.cell? ⟨p, 0, none⟩ = some (.pointer (some ⟨mb 0, 0, none⟩)) ∧ w'.cell? ⟨p, 2, none⟩ = some (.pointer (some ⟨rb 0, 0, none⟩))) (first | (with_reducible exact s0)) (fail)
  go_wp2_with fail
  refine k1.mono ?_
  rintro e w2 ⟨rfl, d1⟩
  have P2 := N1.out _ _ d1
  obtain ⟨F2, a2, n2⟩ := P2.callR 0 (by omega)
  have k2 := rchoose_any (rb 0) X w2 a2 (by omega)
  clear f0 k1 d1 a2 N1 s0 f3
  have f3 : w2.cell? ⟨g, 3, none⟩ = some (.int .u16 X) := P2.bcell 3 _ rfl
  have N2 : Hid _ := n2
  clear P2 n2
  go_wp2_with fail
  refine k2.mono ?_
  rintro e w3 ⟨rfl, d2⟩
  have P3 := N2.out _ _ d2
  go_wp2
  go_ret
  refine ⟨rfl, P3.done (up_le HT.out 0 _ ?_)⟩
  · have t1 := st_tones (s 0) 65280 (b8 X)
    omega
theorem play9_1 (B p : Nat) (wh at' X Y C N : Int) (z0 : 0 ≤ at') (z1 : at' < 65536) (x0 : 0 ≤ X) (x1 : X < 65536) (y0 : 0 ≤ Y) (y1 : Y < 65536) (hw : (wrap64 (wh.tmod 2 + 2)).tmod 2 = 1) (T : Nat) (hT : T ≤ 900000) (W : World) {c mb rb : Nat → Nat} {s : Nat → MS} (h : Duo W B p c mb rb s s) (ht : ∀ j, j < 2 → (s j).tones.length ≤ T) :
    Calls Try.prog 34 #[.pointer (some ⟨p, 0, none⟩), .agg #[.int .i64 9, .int .i64 wh, .int .u16 at', .int .u16 X, .int .u16 Y, .int .u16 C, .int .i64 N]] W fun e w' => e = .returned (.bool true) ∧ PlE B p (T + 3) W w' := by
  have hz : (W.alloc (.cells #[.int .i64 9, .int .i64 wh, .int .u16 at', .int .u16 X, .int .u16 Y, .int .u16 C, .int .i64 N] 76)).heap[W.heap.size]? = some (.cells (opC 9 wh at' X Y C N).toArray 76 (0, 0)) := heap_alloc_new W _
  have hb : Below W.heap.size W (W.alloc (.cells #[.int .i64 9, .int .i64 wh, .int .u16 at', .int .u16 X, .int .u16 Y, .int .u16 C, .int .i64 N] 76)) := (Below.refl _ W).alloc (Nat.le_refl _) _
  have P := Pb.start h hb hz
  obtain ⟨g, hg⟩ : ∃ g, W.heap.size = g := ⟨_, rfl⟩
  rw [hg] at P
  clear hz hb h
  go_enter Try.func34, Try.ntmps34
  go_wp2_with fail
  generalize hW1 : W.alloc (.cells #[.int .i64 9, .int .i64 wh, .int .u16 at', .int .u16 X, .int .u16 Y, .int .u16 C, .int .i64 N] 76) = W1 at *
  have s0 : (fun w' : World => w'.cell? ⟨p, 1, none⟩ = some (.pointer (some ⟨mb 1, 0, none⟩)) ∧ w'.cell? ⟨p, 3, none⟩ = some (.pointer (some ⟨rb 1, 0, none⟩))) W1.drew := ⟨P.drew.pcell 1 _ rfl, P.drew.pcell 3 _ rfl⟩
  have t1 := ht 1 (by omega)
  obtain ⟨F1, a1, n1⟩ := P.drew.callM 1 (by omega)
  have f0 : W1.cell? ⟨g, 0, none⟩ = some (.int .i64 9) := P.bcell 0 _ rfl
  have f3 : W1.cell? ⟨g, 3, none⟩ = some (.int .u16 X) := P.bcell 3 _ rfl
  have k1 := choose_any (mb 1) X W1.drew a1 (by omega)
  have N1 : Hid _ := n1
  have HT : Hid _ := ht
  clear P a1 n1 hW1 ht
  go_region_held3 (fun w' => w'.cell? ⟨p, 1, none⟩ = some (.pointer (some ⟨mb 1, 0, none⟩)) ∧ w'.cell? ⟨p, 3, none⟩ = some (.pointer (some ⟨rb 1, 0, none⟩))) (first | (with_reducible exact s0)) (fail)
  go_wp2_with fail
  refine k1.mono ?_
  rintro e w2 ⟨rfl, d1⟩
  have P2 := N1.out _ _ d1
  obtain ⟨F2, a2, n2⟩ := P2.callR 1 (by omega)
  have k2 := rchoose_any (rb 1) X w2 a2 (by omega)
  clear f0 k1 d1 a2 N1 s0 f3
  have f3 : w2.cell? ⟨g, 3, none⟩ = some (.int .u16 X) := P2.bcell 3 _ rfl
  have N2 : Hid _ := n2
  clear P2 n2
  go_wp2_with fail
  refine k2.mono ?_
  rintro e w3 ⟨rfl, d2⟩
  have P3 := N2.out _ _ d2
  go_wp2
  go_ret
  refine ⟨rfl, P3.done (up_le HT.out 1 _ ?_)⟩
  · have t1 := st_tones (s 1) 65280 (b8 X)
    omega
end Go.Proofs.Ytcmaccefjlgbfaa
