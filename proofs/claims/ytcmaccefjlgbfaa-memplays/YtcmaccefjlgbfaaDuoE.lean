import Derived.Test.YtcmaccefjlgbfaaDuoM
import Derived.Test.YtcmaccefjlgbfaaDuoD
import Derived.Test.YtcmaccefjlgbfaaSpoilH
import Derived.Deep.RegionHeld3
import Derived.Deep.RegionHeldLaw
/-! A step of the pair: Restore. -/
namespace Go.Proofs.Ytcmaccefjlgbfaa
open Go.RowKit
open Go.Proofs
set_option linter.unusedVariables false
set_option linter.unusedSimpArgs false
set_option maxHeartbeats 2000000
set_option maxRecDepth 100000
theorem Sp.kept {W W' : World} {B : Nat} {u rv sv : Value} {bs : List (Int × List UInt8)} {ram scr : List UInt8} {gs : List (Nat × Nat)} (h : Sp W B u rv sv bs ram scr gs) (k : ∀ i, B ≤ i → i < W.heap.size → W'.heap[i]? = W.heap[i]?) : Sp W' B u rv sv bs ram scr gs :=
  ⟨h.len, own_kept h.row fun g e hg => k g (h.row.lt g e).1 hg, fun i t g a c => own_kept (h.dat i t g a c) fun x e hx => k x ((h.dat i t g a c).lt x e).1 hx, h.nd, own_kept h.ram fun g e hg => k g (h.ram.lt g e).1 hg, own_kept h.scr fun g e hg => k g (h.scr.lt g e).1 hg, h.nr, h.nc, h.rc⟩
theorem Sp.glt {W : World} {B : Nat} {u rv sv : Value} {bs : List (Int × List UInt8)} {ram scr : List UInt8} {gs : List (Nat × Nat)} (h : Sp W B u rv sv bs ram scr gs) : ∀ y ∈ gs, y.1 < W.heap.size := by
  intro y hy
  obtain ⟨i, hi, e⟩ := List.mem_iff_getElem.1 hy
  have hb : i < bs.length := by rw [← h.len]; exact hi
  exact ((h.dat i _ y (List.getElem?_eq_getElem hb) (by rw [List.getElem?_eq_getElem hi, e])).lt y.1 rfl).2
/-- What Restore leaves of the pair. -/
theorem Duo.restored {A w2 w3 w4 w5 w6 w7 w10 : World} {B p : Nat} {c mb rb : Nat → Nat} {s : Nat → MS} (D : Duo A B p c mb rb s s) (O : Nat) (hO : O < 2) {m : MS} {b b2 : Nat} (h02 : Below A.heap.size A w2) (h23 : Below w2.heap.size w2 w3) (h34 : Below w3.heap.size w3 w4) (h45 : Below w4.heap.size w4 w5) (h56 : Below w5.heap.size w5 w6) (h67 : Below w6.heap.size w6 w7)
    (hM : HasM w5 (fun k => w4.heap.size ≤ k) b m) (hR : IsR w7 (fun k => w6.heap.size ≤ k) b2 m) (h10 : Below w2.heap.size ((w7.setCell ⟨p, O, none⟩ (ptr b)).setCell ⟨p, 2 + O, none⟩ (ptr b2)) w10) (hf : Fr w3.heap.size ((w7.setCell ⟨p, O, none⟩ (ptr b)).setCell ⟨p, 2 + O, none⟩ (ptr b2)) w10) :
    (∃ c', Duo w10 B p c' (up mb O b) (up rb O b2) (up s O m) (up s O m)) ∧ Below B A w10 := by
  have z2 := h02.size
  have z3 := h23.size
  have z4 := h34.size
  have z5 := h45.size
  have z6 := h56.size
  have z7 := h67.size
  have hpz := lt_of D.pb
  have hBp := D.bp
  have h57 : Below w5.heap.size w5 w7 := h56.trans (h67.mono z6)
  have h07 : Below A.heap.size A w7 := h02.trans ((h23.trans ((h34.trans ((h45.trans (h57.mono z5)).mono z4)).mono z3)).mono z2)
  have D7 := D.fresh.below h07
  have hM7 : HasM w7 (fun k => w4.heap.size ≤ k ∧ k < w5.heap.size) b m := (hM.mono (G := fun k => w4.heap.size ≤ k ∧ k < w5.heap.size) fun i hi f => ⟨f, hi⟩).kept fun i hi _ => h57.block i hi
  have D8 := D7.newM2 O hO (fun k h1 _ => dye_ge _ _ _ _ (by omega)) (by omega) hM7
  have hR8 : IsR (w7.setCell ⟨p, O, none⟩ (ptr b)) (fun k => w6.heap.size ≤ k ∧ k < w7.heap.size) b2 m := (hR.mono (G := fun k => w6.heap.size ≤ k ∧ k < w7.heap.size) fun i hi f => ⟨f, hi⟩).kept fun i hi f => setCell_other _ _ _ _ _ (by omega)
  have D9 := D8.newR2 O hO (N := w6.heap.size) (M := w7.heap.size) (fun k h1 _ => by rw [if_neg (by omega)]; exact dye_ge _ _ _ _ (by omega)) (by omega) hR8
  refine ⟨⟨_, D9.frame0 fun k hk hc => ?_⟩, ?_⟩
  · by_cases a1 : k < w2.heap.size
    · exact h10.block k a1
    · by_cases a2 : w3.heap.size ≤ k
      · exact hf.2 k a2 hk
      · exfalso
        rcases hc with hc | hc
        · apply hc
          rw [if_neg (by omega), if_neg (by omega)]
          exact dye_ge _ _ _ _ (by omega)
        · omega
  · refine (h07.mono (by omega)).trans (Below.trans ?_ (h10.mono (by omega)))
    exact ⟨rfl, rfl, rfl, by rw [setCell_size, setCell_size]; exact Nat.le_refl _, fun i hi => (setCell_other _ _ _ _ _ (by omega)).trans (setCell_other _ _ _ _ _ (by omega))⟩
theorem play14_0 (B p : Nat) (wh at' X Y C N : Int) (z0 : 0 ≤ at') (z1 : at' < 65536) (x0 : 0 ≤ X) (x1 : X < 65536) (y0 : 0 ≤ Y) (y1 : Y < 65536) (hw : (wrap64 (wh.tmod 2 + 2)).tmod 2 = 0) (T : Nat) (hT : T ≤ 900000) (W : World) {c mb rb : Nat → Nat} {s : Nat → MS} (h : Duo W B p c mb rb s s) (ht : ∀ j, j < 2 → (s j).tones.length ≤ T) :
    Calls Try.prog 34 #[.pointer (some ⟨p, 0, none⟩), .agg #[.int .i64 14, .int .i64 wh, .int .u16 at', .int .u16 X, .int .u16 Y, .int .u16 C, .int .i64 N]] W fun e w' => e = .returned (.bool true) ∧ PlE B p (T + 3) W w' := by
  have hz : (W.alloc (.cells #[.int .i64 14, .int .i64 wh, .int .u16 at', .int .u16 X, .int .u16 Y, .int .u16 C, .int .i64 N] 76)).heap[W.heap.size]? = some (.cells (opC 14 wh at' X Y C N).toArray 76 (0, 0)) := heap_alloc_new W _
  have hb : Below W.heap.size W (W.alloc (.cells #[.int .i64 14, .int .i64 wh, .int .u16 at', .int .u16 X, .int .u16 Y, .int .u16 C, .int .i64 N] 76)) := (Below.refl _ W).alloc (Nat.le_refl _) _
  have P := Pb.start h hb hz
  obtain ⟨g, hg⟩ : ∃ g, W.heap.size = g := ⟨_, rfl⟩
  rw [hg] at P
  clear hz hb h
  go_enter Try.func34, Try.ntmps34
  go_wp2_with fail
  generalize hW1 : W.alloc (.cells #[.int .i64 14, .int .i64 wh, .int .u16 at', .int .u16 X, .int .u16 Y, .int .u16 C, .int .i64 N] 76) = W1 at *
  have s0 : (fun w' : World => w'.cell? ⟨p, 0, none⟩ = some (.pointer (some ⟨mb 0, 0, none⟩)) ∧ w'.cell? ⟨p, 2, none⟩ = some (.pointer (some ⟨rb 0, 0, none⟩))) W1.drew := ⟨P.drew.pcell 0 _ rfl, P.drew.pcell 2 _ rfl⟩
  have t0 := ht 0 (by omega)
  have f0 : W1.cell? ⟨g, 0, none⟩ = some (.int .i64 14) := P.bcell 0 _ rfl
  have HT : Hid _ := fun (j : Nat) (hj : j < 2) => Nat.le_trans (ht j hj) (Nat.le_add_right T 3)
  obtain ⟨F1, a1, n1⟩ := P.drew.callR 0 (by omega)
  have hwf : Wf (s 0) := a1.1
  have hfu := inO_full (s 0) hwf 16
  have hil := inO_len (s 0) 16
  have k1 := rimage_any (rb 0) W1.drew a1 (by omega)
  obtain ⟨c0, D, cg⟩ := P.drew.ex
  have ew : IntKind.i64.wrap 1 = 1 := by decide
  have HP : Hid _ := P.drew
  have HD : Hid _ := And.intro D P.drew.lo
  unfold imgC at k1
  clear P a1 n1 hW1 ht D cg
  go_region_held3 (fun w' => w'.cell? ⟨p, 0, none⟩ = some (.pointer (some ⟨mb 0, 0, none⟩)) ∧ w'.cell? ⟨p, 2, none⟩ = some (.pointer (some ⟨rb 0, 0, none⟩))) (first | (with_reducible exact s0)) (fail)
  go_wp2_with fail
  refine k1.mono ?_
  rintro e w2 ⟨pb, cb, gr', gc, rfl, hRI, hB2⟩
  have k2 := back_any pb cb (inO (s 0) 16) (by unfold room; omega) (fun t ht => by have := hfu t ht; unfold room; omega) (some ⟨gr', 0, none⟩) (some ⟨gc, 0, none⟩) 16384 3072 (s 0) w2 hRI.bn (s 0).ram (s 0).scr (by rw [hwf.ram]; exact hRI.ram) (by rw [hwf.scr]; exact hRI.scr) (by rw [hwf.ram]; unfold room; omega) (by rw [hwf.scr]; unfold room; omega)
  rw [hwf.ram, hwf.scr] at k2
  unfold imgC at k2
  have HB2 : Hid _ := hB2
  clear k1 hRI hB2
  go_wp2_with fail
  refine k2.mono ?_
  rintro e w3 ⟨u, rv, sv, gs, N1, N2, rfl, hBk, hB3⟩
  obtain ⟨p1, c1, rp, rc, sp, sc', rfl, rfl, rfl, hbn, hr, hs⟩ := hBk.forms (fun t ht => by have := hfu t ht; unfold room; omega)
  have hblk : (w3.alloc (.cells #[.slice p1 (inO (s 0) 16).length c1, .slice rp (s 0).ram.length rc, .slice sp (s 0).scr.length sc', .int .u8 (s 0).ch, .int .u8 (s 0).pad, .int .u16 (s 0).pitch, .int .u8 (s 0).vol, .int .u16 (s 0).time] 48)).heap[w3.heap.size]? = some (.cells (imgC (.slice p1 (inO (s 0) 16).length c1) (.slice rp (s 0).ram.length rc) (.slice sp (s 0).scr.length sc') (s 0)).toArray 48 (0, 0)) := heap_alloc_new w3 _
  have hB4 : Below w3.heap.size w3 (w3.alloc (.cells #[.slice p1 (inO (s 0) 16).length c1, .slice rp (s 0).ram.length rc, .slice sp (s 0).scr.length sc', .int .u8 (s 0).ch, .int .u8 (s 0).pad, .int .u16 (s 0).pitch, .int .u8 (s 0).vol, .int .u16 (s 0).time] 48)) := (Below.refl _ w3).alloc (Nat.le_refl _) _
  obtain ⟨w4, hw4⟩ : ∃ w4, w3.alloc (.cells #[.slice p1 (inO (s 0) 16).length c1, .slice rp (s 0).ram.length rc, .slice sp (s 0).scr.length sc', .int .u8 (s 0).ch, .int .u8 (s 0).pad, .int .u16 (s 0).pitch, .int .u8 (s 0).vol, .int .u16 (s 0).time] 48) = w4 := ⟨_, rfl⟩
  rw [hw4] at hblk hB4
  have hsp := hBk.sp
  obtain ⟨n, hn⟩ : ∃ n, w3.heap.size = n := ⟨_, rfl⟩
  rw [hn] at hblk
  have k3 := restore_yes p1 c1 (inO (s 0) 16) (by unfold room; omega) rp sp rc sc' (s 0) w4 (hbn.below hB4) (s 0).ram (s 0).scr (Sl.below hr hB4) (Sl.below hs hB4) (inO_wh _ hwf) (inO_may _ hwf) hwf.ch0 hwf.pad0 hwf.pad1 hwf.pitch0 hwf.pitch1 hwf.vol0 hwf.vol1 hwf.time0 hwf.time1
  rw [mR_rs _ hwf] at k3
  unfold imgC at k3
  have H4 : Hid _ := And.intro hsp (And.intro hB3 (And.intro hB4 hblk))
  obtain ⟨f0', f1, f2, f3, f4, f5, f6, f7⟩ := cells8' hblk
  clear k2 hBk hbn hr hs hsp hB3 hB4 hblk
  go_upto_region 51 with fail
  try rw [hw4]
  clear hw4
  go_wp2_with fail
  refine k3.mono ?_
  rintro e w5 ⟨b, rfl, hM, hB5⟩
  have z2 := HB2.out.size
  have z3 := H4.out.2.1.size
  have z4 := H4.out.2.2.1.size
  have hA4 := HB2.out.trans ((H4.out.2.1.trans (H4.out.2.2.1.mono z3)).mono z2)
  have hA5 := hA4.trans (hB5.mono hA4.size)
  obtain ⟨F2, a5, n5⟩ := (HP.out.below hA5).callR 0 (by omega)
  have k4 := rimage_any (rb 0) w5 a5 (by omega)
  unfold imgC at k4
  have H5 : Hid _ := And.intro hM (And.intro hB5 hA5)
  clear k3 a5 n5 hM hB5 hA4 hA5 f0' f1 f2 f3 f4 f5 f6 f7
  go_wp2_with fail
  refine k4.mono ?_
  rintro e w6 ⟨pb2, cb2, gr2, gc2, rfl, hRI2, hB6⟩
  have k5 := rrest_yes pb2 cb2 (inO (s 0) 16) (by unfold room; omega) (some ⟨gr2, 0, none⟩) (some ⟨gc2, 0, none⟩) 16384 3072 (s 0) w6 hRI2.bn (s 0).ram (s 0).scr (by rw [hwf.ram]; exact hRI2.ram) (by rw [hwf.scr]; exact hRI2.scr) (inO_may _ hwf) (inO_wh _ hwf)
  rw [hwf.ram, hwf.scr] at k5
  unfold imgC at k5
  have HB6 : Hid _ := hB6
  clear k4 hRI2 hB6
  go_wp2_with fail
  refine k5.mono ?_
  rintro e w7 ⟨b2, rfl, hR, hB7⟩
  have hA7 := H5.out.2.2.trans ((HB6.out.trans (hB7.mono HB6.out.size)).mono H5.out.2.2.size)
  have hpb := (hA7.block p (lt_of HD.out.1.pb)).trans HD.out.1.pb
  have hpA := lt_of HD.out.1.pb
  have u1 := cell_of w7 p 1 _ 73 _ hpb rfl
  have u2 := frozen_of w7 p 1 _ 73 hpb
  have hpb8 := setCell_heap w7 p 1 _ 73 (.pointer (some ⟨b, 0, none⟩)) hpb
  have hR' := rs_is hwf hR
  have H7 : Hid _ := And.intro hR' (And.intro hB7 hpb8)
  have h47 : Below w4.heap.size w4 w7 := H5.out.2.1.trans ((HB6.out.trans (hB7.mono HB6.out.size)).mono H5.out.2.1.size)
  have H47 : Hid _ := h47
  have HpA : Hid _ := hpA
  clear k5 hR hR' hB7 hA7 hpb hpb8 h47 hpA
  unfold ptr at u1
  go_upto_region 54 with fail
  clear u1 u2
  obtain ⟨w8, hw8⟩ : ∃ w8, w7.setCell ⟨p, 1, none⟩ (.pointer (some ⟨b, 0, none⟩)) = w8 := ⟨_, rfl⟩
  have hpb8 := H7.out.2.2
  rw [hw8] at hpb8
  try rw [hw8]
  have u1 := cell_of w8 p 3 _ 73 _ hpb8 rfl
  have u2 := frozen_of w8 p 3 _ 73 hpb8
  have Hw8 : Hid _ := hw8
  clear hw8 hpb8
  unfold ptr at u1
  go_upto_region 55 with fail
  clear u1 u2
  obtain ⟨w9, hw9⟩ : ∃ w9, w8.setCell ⟨p, 3, none⟩ (.pointer (some ⟨b2, 0, none⟩)) = w9 := ⟨_, rfl⟩
  try rw [hw9]
  have z2 := HB2.out.size
  have z3 := H4.out.2.1.size
  have z4 := H4.out.2.2.1.size
  have z47 := H47.out.size
  have hpA := HpA.out
  have h79 : ∀ x, x ≠ p → w9.heap[x]? = w7.heap[x]? := fun x hx => by
    rw [← hw9, ← Hw8.out]; exact (setCell_other _ _ _ _ _ hx).trans (setCell_other _ _ _ _ _ hx)
  have hs9 : w9.heap.size = w7.heap.size := by rw [← hw9, ← Hw8.out, setCell_size, setCell_size]
  have hnp : n ≠ p := by omega
  have hblk9 := (h79 n hnp).trans ((H47.out.block n (lt_of H4.out.2.2.2)).trans H4.out.2.2.2)
  have h37 : Below w3.heap.size w3 w7 := H4.out.2.2.1.trans (H47.out.mono z4)
  have hsp9 := H4.out.1.kept (W' := w9) fun x h1 h2 => (h79 x (by omega)).trans (h37.block x h2)
  have k6 := spoil_hi _ w3.heap.size _ _ _ (inO (s 0) 16) hil (s 0).ram (s 0).scr gs (s 0) w9 hsp9 (by omega) (fun t ht => by rw [hfu t ht]; omega) (by rw [hwf.ram]; omega) (by rw [hwf.scr]; omega) (by omega) H4.out.1.glt (fun x hx => (H4.out.1.ram.lt x hx).2) (fun x hx => (H4.out.1.scr.lt x hx).2)
  unfold imgC at k6
  obtain ⟨f0', f1, f2, f3, f4, f5, f6, f7⟩ := cells8' hblk9
  have H9 : Hid _ := hw9
  clear hw9 hs9 h79 hnp hblk9 h37 hsp9 z47 hpA
  go_wp2_with fail
  refine k6.mono ?_
  rintro e w10 ⟨rfl, hb10, hf10⟩
  have hfin := HD.out.1.restored 1 (by omega) HB2.out H4.out.2.1 H4.out.2.2.1 H5.out.2.1 HB6.out H7.out.2.1 H5.out.1 H7.out.1 (w10 := w10) (by unfold ptr; rw [Hw8.out, H9.out]; exact hb10) (by unfold ptr; rw [Hw8.out, H9.out]; exact hf10)
  have HF : Hid _ := hfin
  clear hfin hb10 hf10 k6 f0' f1 f2 f3 f4 f5 f6 f7
  go_wp2
  go_ret
  obtain ⟨⟨c', D'⟩, hlo'⟩ := HF.out
  refine ⟨rfl, ⟨c', _, _, _, D', fun j hj => ?_⟩, HD.out.2.trans hlo'⟩
  by_cases e : j = 1
  · subst e; rw [up_at]; simp [rs]
  · rw [up_ne _ _ _ _ e]; exact HT.out j hj
theorem play14_1 (B p : Nat) (wh at' X Y C N : Int) (z0 : 0 ≤ at') (z1 : at' < 65536) (x0 : 0 ≤ X) (x1 : X < 65536) (y0 : 0 ≤ Y) (y1 : Y < 65536) (hw : (wrap64 (wh.tmod 2 + 2)).tmod 2 = 1) (T : Nat) (hT : T ≤ 900000) (W : World) {c mb rb : Nat → Nat} {s : Nat → MS} (h : Duo W B p c mb rb s s) (ht : ∀ j, j < 2 → (s j).tones.length ≤ T) :
    Calls Try.prog 34 #[.pointer (some ⟨p, 0, none⟩), .agg #[.int .i64 14, .int .i64 wh, .int .u16 at', .int .u16 X, .int .u16 Y, .int .u16 C, .int .i64 N]] W fun e w' => e = .returned (.bool true) ∧ PlE B p (T + 3) W w' := by
  have hz : (W.alloc (.cells #[.int .i64 14, .int .i64 wh, .int .u16 at', .int .u16 X, .int .u16 Y, .int .u16 C, .int .i64 N] 76)).heap[W.heap.size]? = some (.cells (opC 14 wh at' X Y C N).toArray 76 (0, 0)) := heap_alloc_new W _
  have hb : Below W.heap.size W (W.alloc (.cells #[.int .i64 14, .int .i64 wh, .int .u16 at', .int .u16 X, .int .u16 Y, .int .u16 C, .int .i64 N] 76)) := (Below.refl _ W).alloc (Nat.le_refl _) _
  have P := Pb.start h hb hz
  obtain ⟨g, hg⟩ : ∃ g, W.heap.size = g := ⟨_, rfl⟩
  rw [hg] at P
  clear hz hb h
  go_enter Try.func34, Try.ntmps34
  go_wp2_with fail
  generalize hW1 : W.alloc (.cells #[.int .i64 14, .int .i64 wh, .int .u16 at', .int .u16 X, .int .u16 Y, .int .u16 C, .int .i64 N] 76) = W1 at *
  have s0 : (fun w' : World => w'.cell? ⟨p, 1, none⟩ = some (.pointer (some ⟨mb 1, 0, none⟩)) ∧ w'.cell? ⟨p, 3, none⟩ = some (.pointer (some ⟨rb 1, 0, none⟩))) W1.drew := ⟨P.drew.pcell 1 _ rfl, P.drew.pcell 3 _ rfl⟩
  have t1 := ht 1 (by omega)
  have f0 : W1.cell? ⟨g, 0, none⟩ = some (.int .i64 14) := P.bcell 0 _ rfl
  have HT : Hid _ := fun (j : Nat) (hj : j < 2) => Nat.le_trans (ht j hj) (Nat.le_add_right T 3)
  obtain ⟨F1, a1, n1⟩ := P.drew.callR 1 (by omega)
  have hwf : Wf (s 1) := a1.1
  have hfu := inO_full (s 1) hwf 16
  have hil := inO_len (s 1) 16
  have k1 := rimage_any (rb 1) W1.drew a1 (by omega)
  obtain ⟨c0, D, cg⟩ := P.drew.ex
  have ew : IntKind.i64.wrap 0 = 0 := by decide
  have HP : Hid _ := P.drew
  have HD : Hid _ := And.intro D P.drew.lo
  unfold imgC at k1
  clear P a1 n1 hW1 ht D cg
  go_region_held3 (fun w' => w'.cell? ⟨p, 1, none⟩ = some (.pointer (some ⟨mb 1, 0, none⟩)) ∧ w'.cell? ⟨p, 3, none⟩ = some (.pointer (some ⟨rb 1, 0, none⟩))) (first | (with_reducible exact s0)) (fail)
  go_wp2_with fail
  refine k1.mono ?_
  rintro e w2 ⟨pb, cb, gr', gc, rfl, hRI, hB2⟩
  have k2 := back_any pb cb (inO (s 1) 16) (by unfold room; omega) (fun t ht => by have := hfu t ht; unfold room; omega) (some ⟨gr', 0, none⟩) (some ⟨gc, 0, none⟩) 16384 3072 (s 1) w2 hRI.bn (s 1).ram (s 1).scr (by rw [hwf.ram]; exact hRI.ram) (by rw [hwf.scr]; exact hRI.scr) (by rw [hwf.ram]; unfold room; omega) (by rw [hwf.scr]; unfold room; omega)
  rw [hwf.ram, hwf.scr] at k2
  unfold imgC at k2
  have HB2 : Hid _ := hB2
  clear k1 hRI hB2
  go_wp2_with fail
  refine k2.mono ?_
  rintro e w3 ⟨u, rv, sv, gs, N1, N2, rfl, hBk, hB3⟩
  obtain ⟨p1, c1, rp, rc, sp, sc', rfl, rfl, rfl, hbn, hr, hs⟩ := hBk.forms (fun t ht => by have := hfu t ht; unfold room; omega)
  have hblk : (w3.alloc (.cells #[.slice p1 (inO (s 1) 16).length c1, .slice rp (s 1).ram.length rc, .slice sp (s 1).scr.length sc', .int .u8 (s 1).ch, .int .u8 (s 1).pad, .int .u16 (s 1).pitch, .int .u8 (s 1).vol, .int .u16 (s 1).time] 48)).heap[w3.heap.size]? = some (.cells (imgC (.slice p1 (inO (s 1) 16).length c1) (.slice rp (s 1).ram.length rc) (.slice sp (s 1).scr.length sc') (s 1)).toArray 48 (0, 0)) := heap_alloc_new w3 _
  have hB4 : Below w3.heap.size w3 (w3.alloc (.cells #[.slice p1 (inO (s 1) 16).length c1, .slice rp (s 1).ram.length rc, .slice sp (s 1).scr.length sc', .int .u8 (s 1).ch, .int .u8 (s 1).pad, .int .u16 (s 1).pitch, .int .u8 (s 1).vol, .int .u16 (s 1).time] 48)) := (Below.refl _ w3).alloc (Nat.le_refl _) _
  obtain ⟨w4, hw4⟩ : ∃ w4, w3.alloc (.cells #[.slice p1 (inO (s 1) 16).length c1, .slice rp (s 1).ram.length rc, .slice sp (s 1).scr.length sc', .int .u8 (s 1).ch, .int .u8 (s 1).pad, .int .u16 (s 1).pitch, .int .u8 (s 1).vol, .int .u16 (s 1).time] 48) = w4 := ⟨_, rfl⟩
  rw [hw4] at hblk hB4
  have hsp := hBk.sp
  obtain ⟨n, hn⟩ : ∃ n, w3.heap.size = n := ⟨_, rfl⟩
  rw [hn] at hblk
  have k3 := restore_yes p1 c1 (inO (s 1) 16) (by unfold room; omega) rp sp rc sc' (s 1) w4 (hbn.below hB4) (s 1).ram (s 1).scr (Sl.below hr hB4) (Sl.below hs hB4) (inO_wh _ hwf) (inO_may _ hwf) hwf.ch0 hwf.pad0 hwf.pad1 hwf.pitch0 hwf.pitch1 hwf.vol0 hwf.vol1 hwf.time0 hwf.time1
  rw [mR_rs _ hwf] at k3
  unfold imgC at k3
  have H4 : Hid _ := And.intro hsp (And.intro hB3 (And.intro hB4 hblk))
  obtain ⟨f0', f1, f2, f3, f4, f5, f6, f7⟩ := cells8' hblk
  clear k2 hBk hbn hr hs hsp hB3 hB4 hblk
  go_upto_region 51 with fail
  try rw [hw4]
  clear hw4
  go_wp2_with fail
  refine k3.mono ?_
  rintro e w5 ⟨b, rfl, hM, hB5⟩
  have z2 := HB2.out.size
  have z3 := H4.out.2.1.size
  have z4 := H4.out.2.2.1.size
  have hA4 := HB2.out.trans ((H4.out.2.1.trans (H4.out.2.2.1.mono z3)).mono z2)
  have hA5 := hA4.trans (hB5.mono hA4.size)
  obtain ⟨F2, a5, n5⟩ := (HP.out.below hA5).callR 1 (by omega)
  have k4 := rimage_any (rb 1) w5 a5 (by omega)
  unfold imgC at k4
  have H5 : Hid _ := And.intro hM (And.intro hB5 hA5)
  clear k3 a5 n5 hM hB5 hA4 hA5 f0' f1 f2 f3 f4 f5 f6 f7
  go_wp2_with fail
  refine k4.mono ?_
  rintro e w6 ⟨pb2, cb2, gr2, gc2, rfl, hRI2, hB6⟩
  have k5 := rrest_yes pb2 cb2 (inO (s 1) 16) (by unfold room; omega) (some ⟨gr2, 0, none⟩) (some ⟨gc2, 0, none⟩) 16384 3072 (s 1) w6 hRI2.bn (s 1).ram (s 1).scr (by rw [hwf.ram]; exact hRI2.ram) (by rw [hwf.scr]; exact hRI2.scr) (inO_may _ hwf) (inO_wh _ hwf)
  rw [hwf.ram, hwf.scr] at k5
  unfold imgC at k5
  have HB6 : Hid _ := hB6
  clear k4 hRI2 hB6
  go_wp2_with fail
  refine k5.mono ?_
  rintro e w7 ⟨b2, rfl, hR, hB7⟩
  have hA7 := H5.out.2.2.trans ((HB6.out.trans (hB7.mono HB6.out.size)).mono H5.out.2.2.size)
  have hpb := (hA7.block p (lt_of HD.out.1.pb)).trans HD.out.1.pb
  have hpA := lt_of HD.out.1.pb
  have u1 := cell_of w7 p 0 _ 73 _ hpb rfl
  have u2 := frozen_of w7 p 0 _ 73 hpb
  have hpb8 := setCell_heap w7 p 0 _ 73 (.pointer (some ⟨b, 0, none⟩)) hpb
  have hR' := rs_is hwf hR
  have H7 : Hid _ := And.intro hR' (And.intro hB7 hpb8)
  have h47 : Below w4.heap.size w4 w7 := H5.out.2.1.trans ((HB6.out.trans (hB7.mono HB6.out.size)).mono H5.out.2.1.size)
  have H47 : Hid _ := h47
  have HpA : Hid _ := hpA
  clear k5 hR hR' hB7 hA7 hpb hpb8 h47 hpA
  unfold ptr at u1
  go_upto_region 54 with fail
  clear u1 u2
  obtain ⟨w8, hw8⟩ : ∃ w8, w7.setCell ⟨p, 0, none⟩ (.pointer (some ⟨b, 0, none⟩)) = w8 := ⟨_, rfl⟩
  have hpb8 := H7.out.2.2
  rw [hw8] at hpb8
  try rw [hw8]
  have u1 := cell_of w8 p 2 _ 73 _ hpb8 rfl
  have u2 := frozen_of w8 p 2 _ 73 hpb8
  have Hw8 : Hid _ := hw8
  clear hw8 hpb8
  unfold ptr at u1
  go_upto_region 55 with fail
  clear u1 u2
  obtain ⟨w9, hw9⟩ : ∃ w9, w8.setCell ⟨p, 2, none⟩ (.pointer (some ⟨b2, 0, none⟩)) = w9 := ⟨_, rfl⟩
  try rw [hw9]
  have z2 := HB2.out.size
  have z3 := H4.out.2.1.size
  have z4 := H4.out.2.2.1.size
  have z47 := H47.out.size
  have hpA := HpA.out
  have h79 : ∀ x, x ≠ p → w9.heap[x]? = w7.heap[x]? := fun x hx => by
    rw [← hw9, ← Hw8.out]; exact (setCell_other _ _ _ _ _ hx).trans (setCell_other _ _ _ _ _ hx)
  have hs9 : w9.heap.size = w7.heap.size := by rw [← hw9, ← Hw8.out, setCell_size, setCell_size]
  have hnp : n ≠ p := by omega
  have hblk9 := (h79 n hnp).trans ((H47.out.block n (lt_of H4.out.2.2.2)).trans H4.out.2.2.2)
  have h37 : Below w3.heap.size w3 w7 := H4.out.2.2.1.trans (H47.out.mono z4)
  have hsp9 := H4.out.1.kept (W' := w9) fun x h1 h2 => (h79 x (by omega)).trans (h37.block x h2)
  have k6 := spoil_hi _ w3.heap.size _ _ _ (inO (s 1) 16) hil (s 1).ram (s 1).scr gs (s 1) w9 hsp9 (by omega) (fun t ht => by rw [hfu t ht]; omega) (by rw [hwf.ram]; omega) (by rw [hwf.scr]; omega) (by omega) H4.out.1.glt (fun x hx => (H4.out.1.ram.lt x hx).2) (fun x hx => (H4.out.1.scr.lt x hx).2)
  unfold imgC at k6
  obtain ⟨f0', f1, f2, f3, f4, f5, f6, f7⟩ := cells8' hblk9
  have H9 : Hid _ := hw9
  clear hw9 hs9 h79 hnp hblk9 h37 hsp9 z47 hpA
  go_wp2_with fail
  refine k6.mono ?_
  rintro e w10 ⟨rfl, hb10, hf10⟩
  have hfin := HD.out.1.restored 0 (by omega) HB2.out H4.out.2.1 H4.out.2.2.1 H5.out.2.1 HB6.out H7.out.2.1 H5.out.1 H7.out.1 (w10 := w10) (by unfold ptr; rw [Hw8.out, H9.out]; exact hb10) (by unfold ptr; rw [Hw8.out, H9.out]; exact hf10)
  have HF : Hid _ := hfin
  clear hfin hb10 hf10 k6 f0' f1 f2 f3 f4 f5 f6 f7
  go_wp2
  go_ret
  obtain ⟨⟨c', D'⟩, hlo'⟩ := HF.out
  refine ⟨rfl, ⟨c', _, _, _, D', fun j hj => ?_⟩, HD.out.2.trans hlo'⟩
  by_cases e : j = 0
  · subst e; rw [up_at]; simp [rs]
  · rw [up_ne _ _ _ _ e]; exact HT.out j hj
end Go.Proofs.Ytcmaccefjlgbfaa
