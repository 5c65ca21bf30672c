import Derived.Test.YtlilefhmohkfkaaGreatDoorEDrop
import Derived.Test.YtlilefhmohkfkaaGreatDoorEPrim
namespace Go.Proofs.YtlilefhmohkfkaaGreatDoor.E
open Go.RowKit
open Go.Proofs
open Go.Proofs.YtlilefhmohkfkaaGreatDoor.Y (Nd Df Ps ndc dfc hid)
set_option linter.unusedVariables false
set_option linter.unusedSimpArgs false
set_option maxHeartbeats 2000000
set_option maxRecDepth 100000
open R (MP En lk look_no look_yes)
def tyc (t : Ty) : List Value := [.string t.nm, .int .i64 t.i, .int .i64 t.o, .int .i64 t.d, .int .i64 t.r, .bool t.nv, .int .i64 t.e, .int .i64 t.p.1, .int .i64 t.p.2]
def TL (W : World) (v : Value) (l : List Ty) : Prop := ∃ b c, v = .slice (some ⟨b, 0, none⟩) l.length c /\ l.length <= 140737488355328 /\ ∀ (i : Nat) (t : Ty) (j : Nat) (x : Value), l[i]? = some t -> (tyc t)[j]? = some x -> W.cell? ⟨b, i * 9 + j, none⟩ = some x
def tb (v : Value) : Nat := match v with | .slice (some a) _ _ => a.block | _ => 0
theorem TL.kept {W W' : World} {v : Value} {l : List Ty} (h : TL W v l) (k : W'.heap[tb v]? = W.heap[tb v]?) : TL W' v l := by
 obtain ⟨b, c, rfl, hl, hc⟩ := h
 exact ⟨b, c, rfl, hl, fun i t j x hi hj => (World.cell?_of_block (w := W) (a := ⟨b, i * 9 + j, none⟩) k).trans (hc i t j x hi hj)⟩
structure LU (W : World) (g : Nat) (mv av : Value) (at_ : En) (l : List Ty) : Prop where
 m : ∃ mb, mv = .map (some mb) /\ MP W mb at_ /\ mb ≠ g
 a : TL W av l
 ag : tb av ≠ g
 al : tb av < W.heap.size
theorem LU.gw {W W' : World} {g : Nat} {mv av : Value} {at_ : En} {l : List Ty} (h : LU W g mv av at_ l) (k : Gw g W W') : LU W' g mv av at_ l := by
 obtain ⟨⟨mb, e, hm, hg⟩, ha, hag, hal⟩ := h
 exact ⟨⟨mb, e, hm.kept (k.block mb hm.lt hg), hg⟩, ha.kept (k.block _ hal hag), hag, Nat.lt_of_lt_of_le hal k.size⟩
def known (at_ : En) (l : List Ty) (s : ByteArray) : Option Ty := match lk at_ s with | none => none | some i => l[i.toNat]?
def TI (t : Ty) : Prop := t.e = 0 -> 0 <= t.i /\ t.i <= 256 /\ 0 <= t.o /\ t.o <= 256 /\ 0 <= t.d /\ t.d <= 256 /\ 0 <= t.r /\ t.r <= 128
theorem cl_none (n : Nd) (q1 q2 : Option Addr) (d1 d2 : Nat) (w : Wk) (s : St) (hh : -1000 <= s.h /\ s.h <= 1000) (hl : s.own.length <= 1000) (g : Nat) (mv av : Value) (W : World) (h : EW W g mv av w) (at_ : En) (l : List Ty) (hLU : LU W g mv av at_ l) (hlk : lk at_ n.nm = none) :
  Calls Tryz.prog 101 #[.pointer (some ⟨g, 0, none⟩), .agg #[.int .i64 n.k, .int .i64 n.op, .int .u16 n.v, .string n.nm, .slice q1 n.th.length d1, .slice q2 n.el.length d2, .bool n.has, .int .i64 n.p.1, .int .i64 n.p.2], .agg (stc s).toArray] W (EO W g mv av (fun s => .agg (stc s).toArray) (call none n.p (w, s))) := by
 obtain ⟨W0, W1, W2, hW0, hW1, hW2, hB, hA, hF⟩ := box_nsr n q1 q2 d1 d2 s g mv av w W h
 have HA := hid hA
 have HB := hid hB
 have HF := hid hF
 have HG := hid (Gw.of (g := g) hB)
 clear hA hB hF h
 obtain ⟨⟨mb, rfl, hm, hmg⟩, ha, hag, hal⟩ := hLU
 obtain ⟨ba, ca, rfl, hll, hcl⟩ := ha
 have HK : Y.Hd (∀ wz, Below W2.heap.size W2 wz -> (Instr.lookup 75 (.map (some mb)) (.string n.nm) true).run Tryz.prog wz = .ok (.tuple #[.int .i64 0, .bool false]) wz) := ⟨fun wz hz => look_no wz mb n.nm at_ ((hm.below HB.out hm.lt).below hz (Nat.lt_of_lt_of_le hm.lt HB.out.size)) hlk⟩
 have HMP : Y.Hd (∀ wz, Below W2.heap.size W2 wz -> MP wz mb at_) := ⟨fun wz hz => (hm.below HB.out hm.lt).below hz (Nat.lt_of_lt_of_le hm.lt HB.out.size)⟩
 have HLK := hid hlk
 clear hm hmg hlk
 have HR : Y.Hd (call none n.p (w, s) = step (w, s) 0 1 n.p) := ⟨rfl⟩
 generalize call none n.p (w, s) = R at *
 clear hcl hag hal hll
 unfold stc
 go_enter Tryz.func101, Tryz.ntmps101
 go_upto_region 1 with fail
 have HS : Y.Hd (∀ wz, Below W2.heap.size W2 wz -> (fun wz : World => wz.cell? ⟨g, 0, none⟩ = some (.map (some mb)) /\ wz.cell? ⟨W.heap.size, 3, none⟩ = some (.string n.nm) /\ MP wz mb at_) wz) := ⟨fun wz hz => by
  have hf := HF.out.below hz
  obtain ⟨_, _, _, c3, _, _, _, _, _⟩ := nd_cells hf.1
  exact ⟨hf.2.2.2.cells.1, c3, HMP.out wz hz⟩⟩
 refine wp_region_drop [] (S := fun wz : World => wz.cell? ⟨g, 0, none⟩ = some (.map (some mb)) /\ wz.cell? ⟨W.heap.size, 3, none⟩ = some (.string n.nm) /\ MP wz mb at_) (by kernel_rfl) (HS.out W2.drew (Below.refl _ _).drew) (fun hHeld => ?_)
 have HB0 := hid (Below.refl W2.heap.size W2).drew
 generalize W2.drew = y0 at *
 clear hW0 hW1 hW2
 refine E.zP (is := [0, 1, 2]) ?_
 iterate 3
  refine E.yP (v := ?_) rfl (by kernel_rfl) (fun c a w h => h) (by rfl) ?_ (fun _ => hHeld) ?_
  rotate_left
  ·(intro w hSw; clear hSw; go_simp; try with_reducible rfl)
  simp only [E.pts]
 refine E.eP ?_
 refine E.xT 3 (v := ?_) rfl (by kernel_rfl) (fun c a w h => h) (by rfl) ?_ hHeld ?_
 rotate_left
 ·(intro w hSw; (try dsimp only at hSw); go_simp; try with_reducible rfl)
 simp only [E.pts]
 refine E.xP 4 (v := ?_) rfl (by kernel_rfl) (fun c a w h => h) (by rfl) ?_ (fun _ => hHeld) ?_
 rotate_left
 ·(intro w hSw; clear hSw; go_simp; try with_reducible rfl)
 simp only [E.pts]
 refine E.xT 5 (v := ?_) rfl (by kernel_rfl) (fun c a w h => h) (by rfl) ?_ hHeld ?_
 rotate_left
 ·(intro w hSw; (try dsimp only at hSw); go_simp; try with_reducible rfl)
 simp only [E.pts]
 refine E.xT 6 (v := ?_) rfl (by kernel_rfl) (fun c a w h => h) (by rfl) ?_ hHeld ?_
 rotate_left
 ·(intro w hSw; obtain ⟨e0, e1, e2⟩ := hSw; have hlo := look_no w mb n.nm at_ e2 HLK.out; go_simp; try with_reducible rfl)
 simp only [E.pts]
 refine E.zP (is := [7, 8, 9, 10, 11]) ?_
 iterate 5
  refine E.yP (v := ?_) rfl (by kernel_rfl) (fun c a w h => h) (by rfl) ?_ (fun _ => hHeld) ?_
  rotate_left
  ·(intro w hSw; clear hSw; go_simp; try with_reducible rfl)
  simp only [E.pts]
 refine E.eP ?_
 refine wpD_done (by kernel_rfl) ?_ _
 have HF1 := hid (HF.out.below HB0.out)
 have HG1 := hid (HG.out.trans (Gw.of HB0.out))
 clear hHeld HS
 obtain ⟨c0, c1, c2, c3, c4, c5, c6, c7, c8⟩ := nd_cells HF1.out.1
 obtain ⟨x0, x1, x2⟩ := HF1.out.2.1.cells
 have hstep := step_any (w, s) 0 1 n.p hh (by omega) (by omega) g _ _ y0 HF1.out.2.2.2
 generalize hgs : step (w, s) 0 1 n.p = G at *
 clear hgs
 unfold stc at hstep
 go_wp2_with fail
 refine hstep.mono ?_
 intro e y5 hp
 clear hstep
 clear c0 c1 c2 c3 c4 c5 c6 c7 c8 x0 x1 x2
 cases G with
 | error er =>
  obtain ⟨rfl, hG⟩ := hp
  refine ⟨rfl, ?_⟩
  rw [HR.out]
  exact ⟨rfl, HG1.out.trans hG⟩
 | ok y =>
  obtain ⟨k', s'⟩ := y
  obtain ⟨rfl, hE, hG⟩ := hp
  have HF5 := hid (HF1.out.gw HA.out hG hE)
  have HG5 := hid (HG1.out.trans hG)
  clear hE hG
  simp only
  have k6 := HF5.out.res HA.out HG5.out s'
  have hst := HF5.out.2.2.1
  unfold stc at k6
  simp only at k6
  have H6 := hid k6
  clear k6
  go_wp2_with (refine wpList_store_row rfl 129 _ _ rfl W1.heap.size _ rfl rfl 129 _ hst (by exact sizeS) (by rfl) (by simp [Value.oneCell']) ?_)
  refine bodyPost_ret (st_end 6 rfl rfl H6.out.1) rfl ?_
  rw [HR.out]
  exact ⟨rfl, H6.out.2.1, H6.out.2.2⟩
theorem cl_bad (n : Nd) (q1 q2 : Option Addr) (d1 d2 : Nat) (w : Wk) (s : St) (hh : -1000 <= s.h /\ s.h <= 1000) (hl : s.own.length <= 1000) (g : Nat) (mv av : Value) (W : World) (h : EW W g mv av w) (at_ : En) (l : List Ty) (hLU : LU W g mv av at_ l) (i : Nat) (hlk : lk at_ n.nm = some (i : Int)) (t : Ty) (hi : l[i]? = some t) (he : (t.e == 0) = false) :
  Calls Tryz.prog 101 #[.pointer (some ⟨g, 0, none⟩), .agg #[.int .i64 n.k, .int .i64 n.op, .int .u16 n.v, .string n.nm, .slice q1 n.th.length d1, .slice q2 n.el.length d2, .bool n.has, .int .i64 n.p.1, .int .i64 n.p.2], .agg (stc s).toArray] W (EO W g mv av (fun s => .agg (stc s).toArray) (call (some t) n.p (w, s))) := by
 obtain ⟨W0, W1, W2, hW0, hW1, hW2, hB, hA, hF⟩ := box_nsr n q1 q2 d1 d2 s g mv av w W h
 have HA := hid hA
 have HB := hid hB
 have HF := hid hF
 have HG := hid (Gw.of (g := g) hB)
 clear hA hB hF h
 obtain ⟨⟨mb, rfl, hm, hmg⟩, ha, hag, hal⟩ := hLU
 obtain ⟨ba, ca, rfl, hll, hcl⟩ := ha
 have HK : Y.Hd (∀ wz, Below W2.heap.size W2 wz -> (Instr.lookup 75 (.map (some mb)) (.string n.nm) true).run Tryz.prog wz = .ok (.tuple #[.int .i64 (i : Int), .bool true]) wz) := ⟨fun wz hz => look_yes wz mb n.nm (i : Int) at_ ((hm.below HB.out hm.lt).below hz (Nat.lt_of_lt_of_le hm.lt HB.out.size)) hlk⟩
 have HMP : Y.Hd (∀ wz, Below W2.heap.size W2 wz -> MP wz mb at_) := ⟨fun wz hz => (hm.below HB.out hm.lt).below hz (Nat.lt_of_lt_of_le hm.lt HB.out.size)⟩
 have HLK := hid hlk
 clear hm hmg hlk
 have HR : Y.Hd (call (some t) n.p (w, s) = .error (t.e, n.p)) := ⟨by simp only [call]; rw [if_neg (by simpa using he)]⟩
 generalize call (some t) n.p (w, s) = R at *
 unfold stc
 go_enter Tryz.func101, Tryz.ntmps101
 go_upto_region 1 with fail
 have HS : Y.Hd (∀ wz, Below W2.heap.size W2 wz -> (fun wz : World => wz.cell? ⟨g, 0, none⟩ = some (.map (some mb)) /\ wz.cell? ⟨W.heap.size, 3, none⟩ = some (.string n.nm) /\ MP wz mb at_) wz) := ⟨fun wz hz => by
  have hf := HF.out.below hz
  obtain ⟨_, _, _, c3, _, _, _, _, _⟩ := nd_cells hf.1
  exact ⟨hf.2.2.2.cells.1, c3, HMP.out wz hz⟩⟩
 refine wp_region_drop [] (S := fun wz : World => wz.cell? ⟨g, 0, none⟩ = some (.map (some mb)) /\ wz.cell? ⟨W.heap.size, 3, none⟩ = some (.string n.nm) /\ MP wz mb at_) (by kernel_rfl) (HS.out W2.drew (Below.refl _ _).drew) (fun hHeld => ?_)
 have HB0 := hid (Below.refl W2.heap.size W2).drew
 generalize W2.drew = y0 at *
 clear hW0 hW1 hW2
 refine E.zP (is := [0, 1, 2]) ?_
 iterate 3
  refine E.yP (v := ?_) rfl (by kernel_rfl) (fun c a w h => h) (by rfl) ?_ (fun _ => hHeld) ?_
  rotate_left
  ·(intro w hSw; clear hSw; go_simp; try with_reducible rfl)
  simp only [E.pts]
 refine E.eP ?_
 refine E.xT 3 (v := ?_) rfl (by kernel_rfl) (fun c a w h => h) (by rfl) ?_ hHeld ?_
 rotate_left
 ·(intro w hSw; (try dsimp only at hSw); go_simp; try with_reducible rfl)
 simp only [E.pts]
 refine E.xP 4 (v := ?_) rfl (by kernel_rfl) (fun c a w h => h) (by rfl) ?_ (fun _ => hHeld) ?_
 rotate_left
 ·(intro w hSw; clear hSw; go_simp; try with_reducible rfl)
 simp only [E.pts]
 refine E.xT 5 (v := ?_) rfl (by kernel_rfl) (fun c a w h => h) (by rfl) ?_ hHeld ?_
 rotate_left
 ·(intro w hSw; (try dsimp only at hSw); go_simp; try with_reducible rfl)
 simp only [E.pts]
 refine E.xT 6 (v := ?_) rfl (by kernel_rfl) (fun c a w h => h) (by rfl) ?_ hHeld ?_
 rotate_left
 ·(intro w hSw; obtain ⟨e0, e1, e2⟩ := hSw; have hlo := look_yes w mb n.nm (i : Int) at_ e2 HLK.out; go_simp; try with_reducible rfl)
 simp only [E.pts]
 refine E.zP (is := [7, 8, 9, 10, 11]) ?_
 iterate 5
  refine E.yP (v := ?_) rfl (by kernel_rfl) (fun c a w h => h) (by rfl) ?_ (fun _ => hHeld) ?_
  rotate_left
  ·(intro w hSw; clear hSw; go_simp; try with_reducible rfl)
  simp only [E.pts]
 refine E.eP ?_
 refine wpD_done (by kernel_rfl) ?_ _
 have HF1 := hid (HF.out.below HB0.out)
 have HG1 := hid (HG.out.trans (Gw.of HB0.out))
 clear hHeld HS
 obtain ⟨c0, c1, c2, c3, c4, c5, c6, c7, c8⟩ := nd_cells HF1.out.1
 obtain ⟨x0, x1, x2⟩ := HF1.out.2.1.cells
 have hlt : i < l.length := (List.getElem?_eq_some_iff.1 hi).1
 have ilt : (i : Int) < (l.length : Int) := by omega
 have ige : 0 <= (i : Int) := by omega
 have hWy : Below W.heap.size W y0 := HB.out.trans (HB0.out.mono HB.out.size)
 have hcy : ∀ (j : Nat) (x : Value), (tyc t)[j]? = some x -> y0.cell? ⟨ba, i * 9 + j, none⟩ = some x := fun j x hj => (World.cell?_of_block (w := W) (a := ⟨ba, i * 9 + j, none⟩) (hWy.block ba hal)).trans (hcl i t j x hi hj)
 have g0 := hcy 0 _ rfl
 have g1 := hcy 1 _ rfl
 have g2 := hcy 2 _ rfl
 have g3 := hcy 3 _ rfl
 have g4 := hcy 4 _ rfl
 have g5 := hcy 5 _ rfl
 have g6 := hcy 6 _ rfl
 have g7 := hcy 7 _ rfl
 have g8 := hcy 8 _ rfl
 simp only [Nat.add_zero] at g0
 obtain ⟨e0, e1, _, _, _, _, _, _⟩ := HF1.out.2.2.2.cells
 obtain ⟨y1, hy1⟩ : ∃ y1, y0.alloc (.cells #[.string t.nm, .int .i64 t.i, .int .i64 t.o, .int .i64 t.d, .int .i64 t.r, .bool t.nv, .int .i64 t.e, .int .i64 t.p.1, .int .i64 t.p.2] 47) = y1 := ⟨_, rfl⟩
 have zt : Below y0.heap.size y0 y1 := by rw [<- hy1]; exact (Below.refl _ _).alloc (Nat.le_refl _) _
 have vt : y1.heap[y0.heap.size]? = some (.cells (tyc t).toArray 47 (0, 0)) := by rw [<- hy1]; exact heap_alloc_new y0 _
 have HF2 := hid (HF1.out.below zt)
 have HG2 := hid (HG1.out.trans (Gw.of zt))
 have HT2 := hid vt
 clear zt vt hcy hcl hWy hi
 clear c0 c1 c2 c3 c4 c5 c6 c7 c8 x0 x1 x2
 obtain ⟨c0, c1, c2, c3, c4, c5, c6, c7, c8⟩ := nd_cells HF2.out.1
 obtain ⟨x0, x1, x2⟩ := HF2.out.2.1.cells
 have t6 := S.cell_of y1 _ 6 _ 47 _ HT2.out rfl
 go_wp2_with fail
 refine (must_false t.e n.p y1).mono ?_
 rintro e y2 ⟨rfl, hb⟩
 refine ⟨rfl, ?_⟩
 rw [HR.out]
 exact ⟨rfl, HG2.out.trans (Gw.of hb)⟩
theorem cl_ok (n : Nd) (q1 q2 : Option Addr) (d1 d2 : Nat) (w : Wk) (s : St) (hh : -1000 <= s.h /\ s.h <= 1000) (hl : s.own.length <= 1000) (g : Nat) (mv av : Value) (W : World) (h : EW W g mv av w) (at_ : En) (l : List Ty) (hLU : LU W g mv av at_ l) (i : Nat) (hlk : lk at_ n.nm = some (i : Int)) (t : Ty) (hi : l[i]? = some t) (he : (t.e == 0) = true) (ht : TI t) :
  Calls Tryz.prog 101 #[.pointer (some ⟨g, 0, none⟩), .agg #[.int .i64 n.k, .int .i64 n.op, .int .u16 n.v, .string n.nm, .slice q1 n.th.length d1, .slice q2 n.el.length d2, .bool n.has, .int .i64 n.p.1, .int .i64 n.p.2], .agg (stc s).toArray] W (EO W g mv av (fun s => .agg (stc s).toArray) (call (some t) n.p (w, s))) := by
 obtain ⟨W0, W1, W2, hW0, hW1, hW2, hB, hA, hF⟩ := box_nsr n q1 q2 d1 d2 s g mv av w W h
 have HA := hid hA
 have HB := hid hB
 have HF := hid hF
 have HG := hid (Gw.of (g := g) hB)
 clear hA hB hF h
 obtain ⟨⟨mb, rfl, hm, hmg⟩, ha, hag, hal⟩ := hLU
 obtain ⟨ba, ca, rfl, hll, hcl⟩ := ha
 have HK : Y.Hd (∀ wz, Below W2.heap.size W2 wz -> (Instr.lookup 75 (.map (some mb)) (.string n.nm) true).run Tryz.prog wz = .ok (.tuple #[.int .i64 (i : Int), .bool true]) wz) := ⟨fun wz hz => look_yes wz mb n.nm (i : Int) at_ ((hm.below HB.out hm.lt).below hz (Nat.lt_of_lt_of_le hm.lt HB.out.size)) hlk⟩
 have HMP : Y.Hd (∀ wz, Below W2.heap.size W2 wz -> MP wz mb at_) := ⟨fun wz hz => (hm.below HB.out hm.lt).below hz (Nat.lt_of_lt_of_le hm.lt HB.out.size)⟩
 have HLK := hid hlk
 clear hm hmg hlk
 have HR : Y.Hd (call (some t) n.p (w, s) = match grow w (t.i - s.h) (s.h + t.d) ((s.own.length : Int) + 1 + t.r) n.p with | .error e => .error e | .ok w => .ok (w, { s with h := s.h + (t.o - t.i), dead := t.nv })) := ⟨by simp only [call]; rw [if_pos (by simpa using he)]; cases grow w (t.i - s.h) (s.h + t.d) ((s.own.length : Int) + 1 + t.r) n.p <;> rfl⟩
 generalize call (some t) n.p (w, s) = R at *
 unfold stc
 go_enter Tryz.func101, Tryz.ntmps101
 go_upto_region 1 with fail
 have HS : Y.Hd (∀ wz, Below W2.heap.size W2 wz -> (fun wz : World => wz.cell? ⟨g, 0, none⟩ = some (.map (some mb)) /\ wz.cell? ⟨W.heap.size, 3, none⟩ = some (.string n.nm) /\ MP wz mb at_) wz) := ⟨fun wz hz => by
  have hf := HF.out.below hz
  obtain ⟨_, _, _, c3, _, _, _, _, _⟩ := nd_cells hf.1
  exact ⟨hf.2.2.2.cells.1, c3, HMP.out wz hz⟩⟩
 refine wp_region_drop [] (S := fun wz : World => wz.cell? ⟨g, 0, none⟩ = some (.map (some mb)) /\ wz.cell? ⟨W.heap.size, 3, none⟩ = some (.string n.nm) /\ MP wz mb at_) (by kernel_rfl) (HS.out W2.drew (Below.refl _ _).drew) (fun hHeld => ?_)
 have HB0 := hid (Below.refl W2.heap.size W2).drew
 generalize W2.drew = y0 at *
 clear hW0 hW1 hW2
 refine E.zP (is := [0, 1, 2]) ?_
 iterate 3
  refine E.yP (v := ?_) rfl (by kernel_rfl) (fun c a w h => h) (by rfl) ?_ (fun _ => hHeld) ?_
  rotate_left
  ·(intro w hSw; clear hSw; go_simp; try with_reducible rfl)
  simp only [E.pts]
 refine E.eP ?_
 refine E.xT 3 (v := ?_) rfl (by kernel_rfl) (fun c a w h => h) (by rfl) ?_ hHeld ?_
 rotate_left
 ·(intro w hSw; (try dsimp only at hSw); go_simp; try with_reducible rfl)
 simp only [E.pts]
 refine E.xP 4 (v := ?_) rfl (by kernel_rfl) (fun c a w h => h) (by rfl) ?_ (fun _ => hHeld) ?_
 rotate_left
 ·(intro w hSw; clear hSw; go_simp; try with_reducible rfl)
 simp only [E.pts]
 refine E.xT 5 (v := ?_) rfl (by kernel_rfl) (fun c a w h => h) (by rfl) ?_ hHeld ?_
 rotate_left
 ·(intro w hSw; (try dsimp only at hSw); go_simp; try with_reducible rfl)
 simp only [E.pts]
 refine E.xT 6 (v := ?_) rfl (by kernel_rfl) (fun c a w h => h) (by rfl) ?_ hHeld ?_
 rotate_left
 ·(intro w hSw; obtain ⟨e0, e1, e2⟩ := hSw; have hlo := look_yes w mb n.nm (i : Int) at_ e2 HLK.out; go_simp; try with_reducible rfl)
 simp only [E.pts]
 refine E.zP (is := [7, 8, 9, 10, 11]) ?_
 iterate 5
  refine E.yP (v := ?_) rfl (by kernel_rfl) (fun c a w h => h) (by rfl) ?_ (fun _ => hHeld) ?_
  rotate_left
  ·(intro w hSw; clear hSw; go_simp; try with_reducible rfl)
  simp only [E.pts]
 refine E.eP ?_
 refine wpD_done (by kernel_rfl) ?_ _
 have HF1 := hid (HF.out.below HB0.out)
 have HG1 := hid (HG.out.trans (Gw.of HB0.out))
 clear hHeld HS
 obtain ⟨c0, c1, c2, c3, c4, c5, c6, c7, c8⟩ := nd_cells HF1.out.1
 obtain ⟨x0, x1, x2⟩ := HF1.out.2.1.cells
 have hlt : i < l.length := (List.getElem?_eq_some_iff.1 hi).1
 have ilt : (i : Int) < (l.length : Int) := by omega
 have ige : 0 <= (i : Int) := by omega
 have hWy : Below W.heap.size W y0 := HB.out.trans (HB0.out.mono HB.out.size)
 have hcy : ∀ (j : Nat) (x : Value), (tyc t)[j]? = some x -> y0.cell? ⟨ba, i * 9 + j, none⟩ = some x := fun j x hj => (World.cell?_of_block (w := W) (a := ⟨ba, i * 9 + j, none⟩) (hWy.block ba hal)).trans (hcl i t j x hi hj)
 have g0 := hcy 0 _ rfl
 have g1 := hcy 1 _ rfl
 have g2 := hcy 2 _ rfl
 have g3 := hcy 3 _ rfl
 have g4 := hcy 4 _ rfl
 have g5 := hcy 5 _ rfl
 have g6 := hcy 6 _ rfl
 have g7 := hcy 7 _ rfl
 have g8 := hcy 8 _ rfl
 simp only [Nat.add_zero] at g0
 obtain ⟨e0, e1, _, _, _, _, _, _⟩ := HF1.out.2.2.2.cells
 obtain ⟨y1, hy1⟩ : ∃ y1, y0.alloc (.cells #[.string t.nm, .int .i64 t.i, .int .i64 t.o, .int .i64 t.d, .int .i64 t.r, .bool t.nv, .int .i64 t.e, .int .i64 t.p.1, .int .i64 t.p.2] 47) = y1 := ⟨_, rfl⟩
 have zt : Below y0.heap.size y0 y1 := by rw [<- hy1]; exact (Below.refl _ _).alloc (Nat.le_refl _) _
 have vt : y1.heap[y0.heap.size]? = some (.cells (tyc t).toArray 47 (0, 0)) := by rw [<- hy1]; exact heap_alloc_new y0 _
 have HF2 := hid (HF1.out.below zt)
 have HG2 := hid (HG1.out.trans (Gw.of zt))
 have HT2 := hid vt
 clear zt vt hcy hcl hWy hi
 clear c0 c1 c2 c3 c4 c5 c6 c7 c8 x0 x1 x2
 obtain ⟨c0, c1, c2, c3, c4, c5, c6, c7, c8⟩ := nd_cells HF2.out.1
 obtain ⟨x0, x1, x2⟩ := HF2.out.2.1.cells
 have t6 := S.cell_of y1 _ 6 _ 47 _ HT2.out rfl
 go_wp2_with fail
 first
  | refine (must_true t.e n.p y1).mono ?_
  | refine (must_true 0 n.p y1).mono ?_
 rintro e y2 ⟨rfl, hb⟩
 have HF3 := hid (HF2.out.below hb)
 have HG3 := hid (HG2.out.trans (Gw.of hb))
 have HT3 := hid ((hb.block _ (S.lt_of HT2.out)).trans HT2.out)
 obtain ⟨t1, t2, t3, t4, t5, t7, t8, t9⟩ := ht (by simpa using he)
 clear hb t6 hy1 g0 g1 g2 g3 g4 g5 g6 g7 g8 e0 e1 ht
 clear c0 c1 c2 c3 c4 c5 c6 c7 c8 x0 x1 x2
 obtain ⟨c0, c1, c2, c3, c4, c5, c6, c7, c8⟩ := nd_cells HF3.out.1
 obtain ⟨x0, x1, x2⟩ := HF3.out.2.1.cells
 have u1 := S.cell_of y2 _ 1 _ 47 _ HT3.out rfl
 have u3 := S.cell_of y2 _ 3 _ 47 _ HT3.out rfl
 have u4 := S.cell_of y2 _ 4 _ 47 _ HT3.out rfl
 have hsz : (⟨s.own.toArray⟩ : ByteArray).size = s.own.length := by simp [ByteArray.size]
 have q1 : IntKind.i64.wrap (t.i - s.h) = t.i - s.h := S.i64_id _ (by omega) (by omega)
 have q2 : IntKind.i64.wrap (s.h + t.d) = s.h + t.d := S.i64_id _ (by omega) (by omega)
 have q3 : IntKind.i64.wrap ((s.own.length : Int) + 1) = (s.own.length : Int) + 1 := S.i64_id _ (by omega) (by omega)
 have q4 : IntKind.i64.wrap ((s.own.length : Int) + 1 + t.r) = (s.own.length : Int) + 1 + t.r := S.i64_id _ (by omega) (by omega)
 have q5 : IntKind.i64.wrap (t.o - t.i) = t.o - t.i := S.i64_id _ (by omega) (by omega)
 have q6 : IntKind.i64.wrap (s.h + (t.o - t.i)) = s.h + (t.o - t.i) := S.i64_id _ (by omega) (by omega)
 have hgr := grow_any w (t.i - s.h) (s.h + t.d) ((s.own.length : Int) + 1 + t.r) n.p g _ _ y2 HF3.out.2.2.2
 generalize hgg : grow w (t.i - s.h) (s.h + t.d) ((s.own.length : Int) + 1 + t.r) n.p = G at *
 clear hgg t1 t2 t3 t4 t5 t7 t8 t9
 go_wp2_with fail
 refine hgr.mono ?_
 intro e y3 hp
 clear hgr q1 q2 q3 q4 u1 u3 u4 hsz
 clear c0 c1 c2 c3 c4 c5 c6 c7 c8 x0 x1 x2
 cases G with
 | error er =>
  obtain ⟨rfl, hG⟩ := hp
  refine ⟨rfl, ?_⟩
  rw [HR.out]
  exact ⟨rfl, HG3.out.trans hG⟩
 | ok k' =>
  obtain ⟨rfl, hE, hG⟩ := hp
  have HF4 := hid (HF3.out.gw HA.out hG hE)
  have HG4 := hid (HG3.out.trans hG)
  have htb : y0.heap.size ≠ g := by have h1 := HA.out.lt; have h2 := HG1.out.size; omega
  have htb2 : y0.heap.size ≠ W0.heap.size := by have h2 := S.lt_of HF1.out.2.1; omega
  have HT4 := hid (hG.keep HT3.out htb)
  clear hE hG
  obtain ⟨x0, x1, x2⟩ := HF4.out.2.1.cells
  have f1 := HF4.out.2.1.fro 1
  have u1 := S.cell_of y3 _ 1 _ 47 _ HT4.out rfl
  have u2 := S.cell_of y3 _ 2 _ 47 _ HT4.out rfl
  have HF5 := hid (HF4.out.cell HA.out 1 (.int .i64 (s.h + (t.o - t.i))) { s with h := s.h + (t.o - t.i) } rfl)
  have HG5 := hid (HG4.out.setN W0.heap.size 1 (.int .i64 (s.h + (t.o - t.i))) (by have := HA.out.n1; omega))
  have HT5 := hid ((S.setCell_other y3 W0.heap.size 1 y0.heap.size (.int .i64 (s.h + (t.o - t.i))) htb2).trans HT4.out)
  go_upto_region 8 with fail
  clear f1 u1 u2 x0 x1 x2 q5 q6
  generalize y3.setCell ⟨W0.heap.size, 1, none⟩ (.int .i64 (s.h + (t.o - t.i))) = y4 at *
  obtain ⟨x0, x1, x2⟩ := HF5.out.2.1.cells
  have f0 := HF5.out.2.1.fro 0
  have u5 := S.cell_of y4 _ 5 _ 47 _ HT5.out rfl
  have HF6 := hid (HF5.out.cell HA.out 0 (.bool t.nv) { s with h := s.h + (t.o - t.i), dead := t.nv } rfl)
  have HG6 := hid (HG5.out.setN W0.heap.size 0 (.bool t.nv) (by have := HA.out.n1; omega))
  go_upto_region 9 with fail
  clear f0 u5 x0 x1 x2
  generalize y4.setCell ⟨W0.heap.size, 0, none⟩ (.bool t.nv) = y5 at *
  obtain ⟨x0, x1, x2⟩ := HF6.out.2.1.cells
  simp only at x0 x1 x2
  have k6 := HF6.out.res HA.out HG6.out { s with h := s.h + (t.o - t.i), dead := t.nv }
  have hst := HF6.out.2.2.1
  unfold stc at k6
  simp only at k6
  have H6 := hid k6
  clear k6
  go_wp2_with (refine wpList_store_row rfl 129 _ _ rfl W1.heap.size _ rfl rfl 129 _ hst (by exact sizeS) (by rfl) (by simp [Value.oneCell']) ?_)
  refine bodyPost_ret (st_end 6 rfl rfl H6.out.1) rfl ?_
  rw [HR.out]
  exact ⟨rfl, H6.out.2.1, H6.out.2.2⟩
theorem call_any (n : Nd) (q1 q2 : Option Addr) (d1 d2 : Nat) (x : X) (hh : -1000 <= x.2.h /\ x.2.h <= 1000) (hl : x.2.own.length <= 1000) (g : Nat) (mv av : Value) (W : World) (h : EW W g mv av x.1) (at_ : En) (l : List Ty) (hLU : LU W g mv av at_ l) (hin : ∀ i, lk at_ n.nm = some i -> 0 <= i /\ i < l.length) (hT : ∀ t ∈ l, TI t) :
  Calls Tryz.prog 101 #[.pointer (some ⟨g, 0, none⟩), .agg #[.int .i64 n.k, .int .i64 n.op, .int .u16 n.v, .string n.nm, .slice q1 n.th.length d1, .slice q2 n.el.length d2, .bool n.has, .int .i64 n.p.1, .int .i64 n.p.2], .agg (stc x.2).toArray] W (EO W g mv av (fun s => .agg (stc s).toArray) (call (known at_ l n.nm) n.p x)) := by
 obtain ⟨w, s⟩ := x
 simp only at hh hl h
 unfold known
 cases hlk : lk at_ n.nm with
 | none => exact cl_none n q1 q2 d1 d2 w s hh hl g mv av W h at_ l hLU hlk
 | some i =>
  obtain ⟨h0, h1⟩ := hin i hlk
  have hlt : i.toNat < l.length := by omega
  have hi := List.getElem?_eq_getElem hlt
  have hm := hT l[i.toNat] (List.getElem_mem _)
  simp only
  rw [hi]
  have hlk2 : lk at_ n.nm = some ((i.toNat : Nat) : Int) := by rw [hlk]; congr 1; omega
  cases he : (l[i.toNat].e == 0) with
  | false => exact cl_bad n q1 q2 d1 d2 w s hh hl g mv av W h at_ l hLU i.toNat hlk2 _ hi he
  | true => exact cl_ok n q1 q2 d1 d2 w s hh hl g mv av W h at_ l hLU i.toNat hlk2 _ hi he hm
end Go.Proofs.YtlilefhmohkfkaaGreatDoor.E
