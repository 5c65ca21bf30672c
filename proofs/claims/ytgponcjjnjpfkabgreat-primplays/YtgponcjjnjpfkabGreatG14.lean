import Derived.Test.YtgponcjjnjpfkabGreatG13
/-! memories. -/
namespace Go.Proofs.YtgponcjjnjpfkabGreat.L
open Go.RowKit
open Go.Proofs
open P
set_option linter.unusedVariables false
set_option linter.unusedSimpArgs false
set_option maxHeartbeats 4000000
set_option maxRecDepth 100000
theorem below_setRow {B g : Nat} {w0 w : World} (hb : Below B w0 w) (hBg : B ≤ g) (cs : Array Value) : Below B w0 (w.setRow g cs) :=
  ⟨hb.os, hb.tape, hb.output, by rw [size_setRow]; exact hb.size, fun k hk => (setRow_other w g k _ (by omega)).trans (hb.block k hk)⟩
/-- An image as it is before it is stored. -/
def Z8 : List Value := [.slice none 0 0, .slice none 0 0, .slice none 0 0, .int .u8 0, .int .u8 0, .int .u16 0, .int .u8 0, .int .u16 0]
def Zb (W : World) (b : Nat) (t : TypeId) : Prop := W.heap[b]? = some (.cells Z8.toArray t (0, 0))
theorem Zb.below {W W' : World} {b : Nat} {t : TypeId} (h : Zb W b t) (k : Below W.heap.size W W') : Zb W' b t := (k.block b (S.lt_of h)).trans h
theorem Zb.none {W : World} {b : Nat} {t : TypeId} (h : Zb W b t) (j : Nat) (hj : 8 ≤ j) : W.cell? ⟨b, j, Option.none⟩ = Option.none := by
  unfold Zb at h
  have : (Z8.toArray)[j]? = Option.none := by simp [Z8]; omega
  simp [World.cell?, h, this]
theorem Zb.no64 {W : World} {b : Nat} {t : TypeId} (h : Zb W b t) (j : Nat) (x : Int) : W.cell? ⟨b, j, Option.none⟩ ≠ some (.int .i64 x) := by
  by_cases hj : 8 ≤ j
  · rw [h.none j hj]; simp
  · unfold Zb at h
    have : j = 0 ∨ j = 1 ∨ j = 2 ∨ j = 3 ∨ j = 4 ∨ j = 5 ∨ j = 6 ∨ j = 7 := by omega
    rcases this with rfl | rfl | rfl | rfl | rfl | rfl | rfl | rfl <;> simp [World.cell?, h, Z8]
theorem sl_other {W W' : World} {b : Nat} {t : TypeId} {v : Value} {l : List UInt8} (h : Zb W b t) (k : ∀ i, i ≠ b → W'.heap[i]? = W.heap[i]?) (s : M.Sl W v l) (hl : 9 ≤ l.length) : M.Sl W' v l := by
  rcases s with ⟨rfl, rfl⟩ | ⟨a, c, rfl, h1, h2⟩
  · simp at hl
  · refine .inr ⟨a, c, rfl, h1, fun j x hj => ?_⟩
    have hb : a.block ≠ b := by
      rintro rfl
      have h8 := h2 8 _ (List.getElem?_eq_getElem (show 8 < l.length by omega))
      obtain ⟨ab, ao, asp⟩ := a
      have e8 : (⟨ab, ao, asp⟩ : Addr).add 8 = ⟨ab, ao + 8, Option.none⟩ := by simp [Addr.add]
      rw [e8] at h8
      have h9 := h.none (ao + 8) (by omega)
      simp only at h9
      rw [h9] at h8
      cases h8
    have e := h2 j x hj
    have hbl : (a.add j).block = a.block := by simp [Addr.add]; try (split <;> rfl)
    exact (World.cell?_of_block (w := W) (a := a.add j) (by rw [hbl]; exact k _ hb)).trans e
theorem bns_other {W W' : World} {b : Nat} {t : TypeId} {p : Option Addr} {bs : List (Int × List UInt8)} (h : Zb W b t) (k : ∀ i, i ≠ b → W'.heap[i]? = W.heap[i]?) (s : M.BnS W p bs) (hl : ∀ x ∈ bs, 9 ≤ x.2.length) : M.BnS W' p bs := by
  intro i x hx
  obtain ⟨q, o, dv, e1, e2, e3, e4, e5⟩ := s i x hx
  have hb : q ≠ b := by rintro rfl; exact h.no64 _ _ e2
  exact ⟨q, o, dv, e1, (World.cell?_of_block (a := ⟨q, o + i * 2, Option.none⟩) (k q hb)).trans e2, (World.cell?_of_block (a := ⟨q, o + i * 2 + 1, Option.none⟩) (k q hb)).trans e3, sl_other h k e4 (hl x (List.mem_of_getElem? hx)), e5⟩
def I3 (W : World) (p1 : Option Addr) (rp : Option Addr) (rc : Nat) (sp : Option Addr) (sc' : Nat) (m : M.MS) : Prop := M.BnS W p1 (M.inO m 16) ∧ M.Sl W (.slice rp m.ram.length rc) m.ram ∧ M.Sl W (.slice sp m.scr.length sc') m.scr
theorem I3.below {W W' : World} {p1 : Option Addr} {rp : Option Addr} {rc : Nat} {sp : Option Addr} {sc' : Nat} {m : M.MS} (h : I3 W p1 rp rc sp sc' m) (k : Below W.heap.size W W') : I3 W' p1 rp rc sp sc' m := ⟨h.1.below k, M.Sl.below h.2.1 k, M.Sl.below h.2.2 k⟩
/-- Both images lie in their variables. -/
structure MF (W0 wc : World) (m : M.MS) (bA bC : Nat) (p1 : Option Addr) (c1 : Nat) (rp : Option Addr) (rc : Nat) (sp : Option Addr) (sc' : Nat) (pb : Option Addr) (cb gr gc : Nat) : Prop where
  bel : Below W0.heap.size W0 wc
  a : wc.heap[bA]? = some (.cells (#[.slice p1 (M.inO m 16).length c1, .slice rp m.ram.length rc, .slice sp m.scr.length sc', .int .u8 m.ch, .int .u8 m.pad, .int .u16 m.pitch, .int .u8 m.vol, .int .u16 m.time]) 108 (0, 0))
  c : wc.heap[bC]? = some (.cells (#[.slice pb (M.inO m 16).length cb, .slice (some ⟨gr, 0, none⟩) 16384 16384, .slice (some ⟨gc, 0, none⟩) 3072 3072, .int .u8 m.ch, .int .u8 m.pad, .int .u16 m.pitch, .int .u8 m.vol, .int .u16 m.time]) 110 (0, 0))
  i : I3 wc p1 rp rc sp sc' m
  r : M.RIm wc pb gr gc m
def MFe (W0 wc : World) (m : M.MS) (s3 s4 : Value) : Prop := ∃ bA bC p1 c1 rp rc sp sc' pb cb gr gc, s3 = .pointer (some ⟨bA, 0, none⟩) ∧ s4 = .pointer (some ⟨bC, 0, none⟩) ∧ MF W0 wc m bA bC p1 c1 rp rc sp sc' pb cb gr gc
theorem MF.make {W0 X : World} {m : M.MS} {bA bC : Nat} {p1 : Option Addr} {c1 : Nat} {rp : Option Addr} {rc : Nat} {sp : Option Addr} {sc' : Nat} {pb : Option Addr} {cb gr gc : Nat} (hwf : M.Wf m) (hb : Below W0.heap.size W0 X) (ha : Zb X bA 108 ∧ W0.heap.size ≤ bA) (hc : Zb X bC 110 ∧ W0.heap.size ≤ bC) (hi : I3 X p1 rp rc sp sc' m) (hr : M.RIm X pb gr gc m) :
    Zb (X.setRow bA (#[.slice p1 (M.inO m 16).length c1, .slice rp m.ram.length rc, .slice sp m.scr.length sc', .int .u8 m.ch, .int .u8 m.pad, .int .u16 m.pitch, .int .u8 m.vol, .int .u16 m.time])) bC 110 ∧ MF W0 ((X.setRow bA (#[.slice p1 (M.inO m 16).length c1, .slice rp m.ram.length rc, .slice sp m.scr.length sc', .int .u8 m.ch, .int .u8 m.pad, .int .u16 m.pitch, .int .u8 m.vol, .int .u16 m.time])).setRow bC (#[.slice pb (M.inO m 16).length cb, .slice (some ⟨gr, 0, none⟩) 16384 16384, .slice (some ⟨gc, 0, none⟩) 3072 3072, .int .u8 m.ch, .int .u8 m.pad, .int .u16 m.pitch, .int .u8 m.vol, .int .u16 m.time])) m bA bC p1 c1 rp rc sp sc' pb cb gr gc := by
  have hne : bA ≠ bC := by
    rintro rfl
    have h1 := ha.1
    have h2 := hc.1
    unfold Zb at h1 h2
    rw [h1] at h2
    simp at h2
  have hfu := M.inO_full m hwf 16
  have l1 : 9 ≤ m.ram.length := by rw [hwf.ram]; omega
  have l2 : 9 ≤ m.scr.length := by rw [hwf.scr]; omega
  have l3 : ∀ x ∈ M.inO m 16, 9 ≤ x.2.length := fun x hx => by rw [hfu x hx]; omega
  have k1 : ∀ i, i ≠ bA → (X.setRow bA (#[.slice p1 (M.inO m 16).length c1, .slice rp m.ram.length rc, .slice sp m.scr.length sc', .int .u8 m.ch, .int .u8 m.pad, .int .u16 m.pitch, .int .u8 m.vol, .int .u16 m.time])).heap[i]? = X.heap[i]? := fun i hi => setRow_other X bA i _ hi
  have z1 : Zb (X.setRow bA (#[.slice p1 (M.inO m 16).length c1, .slice rp m.ram.length rc, .slice sp m.scr.length sc', .int .u8 m.ch, .int .u8 m.pad, .int .u16 m.pitch, .int .u8 m.vol, .int .u16 m.time])) bC 110 := (k1 bC (Ne.symm hne)).trans hc.1
  have k2 : ∀ i, i ≠ bC → ((X.setRow bA (#[.slice p1 (M.inO m 16).length c1, .slice rp m.ram.length rc, .slice sp m.scr.length sc', .int .u8 m.ch, .int .u8 m.pad, .int .u16 m.pitch, .int .u8 m.vol, .int .u16 m.time])).setRow bC (#[.slice pb (M.inO m 16).length cb, .slice (some ⟨gr, 0, none⟩) 16384 16384, .slice (some ⟨gc, 0, none⟩) 3072 3072, .int .u8 m.ch, .int .u8 m.pad, .int .u16 m.pitch, .int .u8 m.vol, .int .u16 m.time])).heap[i]? = (X.setRow bA (#[.slice p1 (M.inO m 16).length c1, .slice rp m.ram.length rc, .slice sp m.scr.length sc', .int .u8 m.ch, .int .u8 m.pad, .int .u16 m.pitch, .int .u8 m.vol, .int .u16 m.time])).heap[i]? := fun i hi => setRow_other _ bC i _ hi
  have gl := hr.ram
  refine ⟨z1, below_setRow (below_setRow hb ha.2 _) hc.2 _, (k2 bA hne).trans (setRow_heap X bA _ _ _ _ ha.1), setRow_heap _ bC _ _ _ _ z1, ?_, ?_⟩
  · exact ⟨bns_other z1 k2 (bns_other ha.1 k1 hi.1 l3) l3, sl_other z1 k2 (sl_other ha.1 k1 hi.2.1 l1) l1, sl_other z1 k2 (sl_other ha.1 k1 hi.2.2 l2) l2⟩
  · exact ⟨bns_other z1 k2 (bns_other ha.1 k1 hr.bn l3) l3, sl_other z1 k2 (sl_other ha.1 k1 hr.ram l1) l1, sl_other z1 k2 (sl_other ha.1 k1 hr.scr l2) l2⟩
theorem cells8' {W : World} {n : Nat} {a b c d e f g h : Value} {t : TypeId} (hb : W.heap[n]? = some (.cells #[a, b, c, d, e, f, g, h] t (0, 0))) : W.cell? ⟨n, 0, none⟩ = some a ∧ W.cell? ⟨n, 1, none⟩ = some b ∧ W.cell? ⟨n, 2, none⟩ = some c ∧ W.cell? ⟨n, 3, none⟩ = some d ∧ W.cell? ⟨n, 4, none⟩ = some e ∧ W.cell? ⟨n, 5, none⟩ = some f ∧ W.cell? ⟨n, 6, none⟩ = some g ∧ W.cell? ⟨n, 7, none⟩ = some h := by
  have hb' : W.heap[n]? = some (.cells [a, b, c, d, e, f, g, h].toArray t (0, 0)) := hb
  exact ⟨M.cell_of W n 0 _ t _ hb' rfl, M.cell_of W n 1 _ t _ hb' rfl, M.cell_of W n 2 _ t _ hb' rfl, M.cell_of W n 3 _ t _ hb' rfl, M.cell_of W n 4 _ t _ hb' rfl, M.cell_of W n 5 _ t _ hb' rfl, M.cell_of W n 6 _ t _ hb' rfl, M.cell_of W n 7 _ t _ hb' rfl⟩
theorem sizeA : (Tryz.prog.info? 108).map (·.size) = some 8 := by kernel_rfl
theorem sizeC : (Tryz.prog.info? 110).map (·.size) = some 8 := by kernel_rfl
theorem memories_any {W : World} {B g bd br bm bx bq bz : Nat} {F G : Nat → Prop} {ev qv : Value} {D : List Int} {R : List (Int × Int)} {m : M.MS} (h : WW W B g bd br bm bx bq bz F G ev qv D R m) (ht : m.tones.length ≤ 1000) :
    Calls Tryz.prog 18 #[.pointer (some ⟨g, 0, none⟩)] W fun e w' => e = .returned (.bool true) ∧ Below W.heap.size W w' := by
  have hwf := M.HasM.wf h.p.m
  have hfu := M.inO_full m hwf 16
  have hil := M.inO_len m 16
  have SF : ∀ wz, Below W.drew.heap.size W.drew wz → (fun wz : World => wz.cell? ⟨g, 2, none⟩ = some (.pointer (some ⟨bm, 0, none⟩)) ∧ wz.cell? ⟨g, 5, none⟩ = some (.pointer (some ⟨bz, 0, none⟩))) wz := fun wz k => ⟨(h.drew.below k).c6.2.2.1, (h.drew.below k).c6.2.2.2.2.2⟩
  have s0 := SF W.drew (Below.refl _ _)
  have HW := S.hid h.drew
  have HSW := S.hid SF
  clear h SF
  go_enter Tryz.func18, Tryz.ntmps18
  go_upto_region 1 with fail
  go_cut [3, 4] (fun s3 s4 wc => MFe W.drew wc m s3 s4)
  case first =>
    refine wp_region_held_drew (S := (fun wz : World => wz.cell? ⟨g, 2, none⟩ = some (.pointer (some ⟨bm, 0, none⟩)) ∧ wz.cell? ⟨g, 5, none⟩ = some (.pointer (some ⟨bz, 0, none⟩)))) (by kernel_rfl) s0 (fun hHeld => ?_)
    generalize hWd : W.drew = Wd at *
    have HBWd := S.hid (Below.refl Wd.heap.size Wd)
    refine wpAnyH_take (i := 0) (v := ?_) rfl (by kernel_rfl) (by kernel_rfl) (by kernel_rfl) (fun c a w h => h) (Or.inl ⟨by rfl, ?_⟩) hHeld ?_
    rotate_left
    · (intro w hSw; (try dsimp only at hSw); go_simp; try with_reducible rfl)
    simp only [Act.put, List.getElem_toArray, List.getElem_cons_zero, List.getElem_cons_succ, List.setIfInBounds_toArray, List.set_cons_zero, List.set_cons_succ]
    refine wpAnyH_take (i := 1) (v := ?_) rfl (by kernel_rfl) (by kernel_rfl) (by kernel_rfl) (fun c a w h => h) (Or.inl ⟨by rfl, ?_⟩) hHeld ?_
    rotate_left
    · (intro w hSw; (try dsimp only at hSw); go_simp; try with_reducible rfl)
    simp only [Act.put, List.getElem_toArray, List.getElem_cons_zero, List.getElem_cons_succ, List.setIfInBounds_toArray, List.set_cons_zero, List.set_cons_succ]
    refine wpAnyH_take (i := 2) (v := ?_) rfl (by kernel_rfl) (by kernel_rfl) (by kernel_rfl) (fun c a w h => h) (Or.inl ⟨by rfl, ?_⟩) hHeld ?_
    rotate_left
    · (intro w hSw; (try dsimp only at hSw); go_simp; try with_reducible rfl)
    simp only [Act.put, List.getElem_toArray, List.getElem_cons_zero, List.getElem_cons_succ, List.setIfInBounds_toArray, List.set_cons_zero, List.set_cons_succ]
    refine wpAnyH_take (i := 3) (v := ?_) rfl (by kernel_rfl) (by kernel_rfl) (by kernel_rfl) (fun c a w h => h) (Or.inl ⟨by rfl, ?_⟩) hHeld ?_
    rotate_left
    · (intro w hSw; (try dsimp only at hSw); go_simp; try with_reducible rfl)
    simp only [Act.put, List.getElem_toArray, List.getElem_cons_zero, List.getElem_cons_succ, List.setIfInBounds_toArray, List.set_cons_zero, List.set_cons_succ]
    refine wpAnyH_take (i := 5) (v := ?_) rfl (by kernel_rfl) (by kernel_rfl) (by kernel_rfl) (fun c a w h => h) (Or.inl ⟨by rfl, ?_⟩) hHeld ?_
    rotate_left
    · (intro w hSw; (try dsimp only at hSw); go_simp; try with_reducible rfl)
    simp only [Act.put, List.getElem_toArray, List.getElem_cons_zero, List.getElem_cons_succ, List.setIfInBounds_toArray, List.set_cons_zero, List.set_cons_succ]
    refine wpAnyH_take (i := 6) (v := ?_) rfl (by kernel_rfl) (by kernel_rfl) (by kernel_rfl) (fun c a w h => h) (Or.inl ⟨by rfl, ?_⟩) hHeld ?_
    rotate_left
    · (intro w hSw; (try dsimp only at hSw); go_simp; try with_reducible rfl)
    simp only [Act.put, List.getElem_toArray, List.getElem_cons_zero, List.getElem_cons_succ, List.setIfInBounds_toArray, List.set_cons_zero, List.set_cons_succ]
    refine wpAnyH_take (i := 7) (v := ?_) rfl (by kernel_rfl) (by kernel_rfl) (by kernel_rfl) (fun c a w h => h) (Or.inl ⟨by rfl, ?_⟩) hHeld ?_
    rotate_left
    · (intro w hSw; (try dsimp only at hSw); go_simp; try with_reducible rfl)
    simp only [Act.put, List.getElem_toArray, List.getElem_cons_zero, List.getElem_cons_succ, List.setIfInBounds_toArray, List.set_cons_zero, List.set_cons_succ]
    refine wpAnyH_take (i := 8) (v := ?_) rfl (by kernel_rfl) (by kernel_rfl) (by kernel_rfl) (fun c a w h => h) (Or.inl ⟨by rfl, ?_⟩) hHeld ?_
    rotate_left
    · (intro w hSw; (try dsimp only at hSw); go_simp; try with_reducible rfl)
    simp only [Act.put, List.getElem_toArray, List.getElem_cons_zero, List.getElem_cons_succ, List.setIfInBounds_toArray, List.set_cons_zero, List.set_cons_succ]
    refine wpAnyH_ready (rs := [4, 10, 11]) (by kernel_rfl) (by simp) ?_
    refine AllReadyH.cons rfl (fun K hK => ?_) ?_
    · have k1 := M.image_has bm Wd (HW.out.below HBWd.out).p.m
      unfold M.imgC at k1
      go_simp
      refine k1.mono ?_
      rintro e y1 ⟨u, rv, sv, gs9, N1, N2, rfl, hIm, kk⟩
      obtain ⟨p1, c1, rp, rc, sp, sc', rfl, rfl, rfl, hbn, hr, hs⟩ := ImO_forms hIm (fun t ht => by have := hfu t ht; unfold M.room; omega)
      have HIy1 := S.hid (show I3 y1 p1 rp rc sp sc' m from ⟨hbn, hr, hs⟩)
      have HBy1 := S.hid (bel2 HBWd.out kk)
      have s9 := HSW.out _ HBy1.out
      refine hK.out _ _ s9 (fun hHeld => ?_)
      clear hK K s9
      clear k1 hIm hbn hr hs kk HBWd
      try simp only [Act.put, List.getElem_toArray, List.getElem_cons_zero, List.getElem_cons_succ, List.setIfInBounds_toArray, List.set_cons_zero, List.set_cons_succ]
      refine wpAnyH_ready (rs := [9, 10, 11]) (by kernel_rfl) (by simp) ?_
      refine AllReadyH.cons rfl (fun K hK => ?_) ?_
      · have k1 := M.rimage_any bz y1 (HW.out.below HBy1.out).z (by omega)
        unfold M.imgC at k1
        go_simp
        refine k1.mono ?_
        rintro e y2 ⟨pb, cb, gr, gc, rfl, hRI, kk⟩
        have HRy2 := S.hid hRI
        have HBy2 := S.hid (bel2 HBy1.out kk)
        have HIy2 := S.hid (I3.below HIy1.out kk)
        have s9 := HSW.out _ HBy2.out
        refine hK.out _ _ s9 (fun hHeld => ?_)
        clear hK K s9
        clear k1 hRI kk HBy1 HIy1
        try simp only [Act.put, List.getElem_toArray, List.getElem_cons_zero, List.getElem_cons_succ, List.setIfInBounds_toArray, List.set_cons_zero, List.set_cons_succ]
        refine wpAnyH_ready (rs := [10, 11]) (by kernel_rfl) (by simp) ?_
        refine AllReadyH.cons rfl (fun K hK => ?_) ?_
        · go_simp
          have kk : Below y2.heap.size y2 (y2.alloc (.cells #[.slice none 0 0, .slice none 0 0, .slice none 0 0, .int .u8 0, .int .u8 0, .int .u16 0, .int .u8 0, .int .u16 0] 108)) := (Below.refl _ _).alloc (Nat.le_refl _) _
          have hz : Zb (y2.alloc (.cells #[.slice none 0 0, .slice none 0 0, .slice none 0 0, .int .u8 0, .int .u8 0, .int .u16 0, .int .u8 0, .int .u16 0] 108)) y2.heap.size 108 := heap_alloc_new y2 _
          generalize y2.alloc (.cells #[.slice none 0 0, .slice none 0 0, .slice none 0 0, .int .u8 0, .int .u8 0, .int .u16 0, .int .u8 0, .int .u16 0] 108) = y3 at *
          have HBy3 := S.hid (bel2 HBy2.out kk)
          have HIy3 := S.hid (I3.below HIy2.out kk)
          have HRy3 := S.hid (M.RIm.below HRy2.out kk)
          have s9 := HSW.out _ HBy3.out
          obtain ⟨bA, hbn⟩ : ∃ bA, y2.heap.size = bA := ⟨_, rfl⟩
          have hz2 : Zb y3 bA 108 := by rw [← hbn]; exact hz
          have hlo : Wd.heap.size ≤ bA := by rw [← hbn]; exact HBy2.out.size
          have HAy3 := S.hid (And.intro hz2 hlo)
          rw [hbn]
          refine hK.out _ _ s9 (fun hHeld => ?_)
          clear hK K s9 hbn hz2 hlo
          clear hz kk HBy2 HIy2 HRy2
          try simp only [Act.put, List.getElem_toArray, List.getElem_cons_zero, List.getElem_cons_succ, List.setIfInBounds_toArray, List.set_cons_zero, List.set_cons_succ]
          refine wpAnyH_ready (rs := [11]) (by kernel_rfl) (by simp) ?_
          refine AllReadyH.cons rfl (fun K hK => ?_) AllReadyH.nil
          go_simp
          have kk : Below y3.heap.size y3 (y3.alloc (.cells #[.slice none 0 0, .slice none 0 0, .slice none 0 0, .int .u8 0, .int .u8 0, .int .u16 0, .int .u8 0, .int .u16 0] 110)) := (Below.refl _ _).alloc (Nat.le_refl _) _
          have hz : Zb (y3.alloc (.cells #[.slice none 0 0, .slice none 0 0, .slice none 0 0, .int .u8 0, .int .u8 0, .int .u16 0, .int .u8 0, .int .u16 0] 110)) y3.heap.size 110 := heap_alloc_new y3 _
          generalize y3.alloc (.cells #[.slice none 0 0, .slice none 0 0, .slice none 0 0, .int .u8 0, .int .u8 0, .int .u16 0, .int .u8 0, .int .u16 0] 110) = y4 at *
          have HBy4 := S.hid (bel2 HBy3.out kk)
          have HAy4 := S.hid (And.intro (HAy3.out.1.below kk) HAy3.out.2)
          have HIy4 := S.hid (I3.below HIy3.out kk)
          have HRy4 := S.hid (M.RIm.below HRy3.out kk)
          have s9 := HSW.out _ HBy4.out
          obtain ⟨bC, hbn⟩ : ∃ bC, y3.heap.size = bC := ⟨_, rfl⟩
          have hz2 : Zb y4 bC 110 := by rw [← hbn]; exact hz
          have hlo : Wd.heap.size ≤ bC := by rw [← hbn]; exact HBy3.out.size
          have HCy4 := S.hid (And.intro hz2 hlo)
          rw [hbn]
          refine hK.out _ _ s9 (fun hHeld => ?_)
          clear hK K s9 hbn hz2 hlo
          clear hz kk HBy3 HAy3 HIy3 HRy3
          try simp only [Act.put, List.getElem_toArray, List.getElem_cons_zero, List.getElem_cons_succ, List.setIfInBounds_toArray, List.set_cons_zero, List.set_cons_succ]
          obtain ⟨z1, hF⟩ := MF.make (c1 := c1) (cb := cb) hwf HBy4.out HAy4.out HCy4.out HIy4.out HRy4.out
          have s1 := HSW.out _ (below_setRow HBy4.out HAy4.out.2 (#[.slice p1 (M.inO m 16).length c1, .slice rp m.ram.length rc, .slice sp m.scr.length sc', .int .u8 m.ch, .int .u8 m.pad, .int .u16 m.pitch, .int .u8 m.vol, .int .u16 m.time]))
          have s2 := HSW.out _ hF.bel
          have HFm := S.hid hF
          have hz0 := HAy4.out.1
          clear hF
          refine wpAnyH_ready (rs := [12]) (by kernel_rfl) (by simp) ?_
          refine AllReadyH.cons rfl (fun K hK => ?_) AllReadyH.nil
          refine M.step_store_row rfl 108 (.tmp 3) (.tmp 11) rfl bA (#[.slice p1 (M.inO m 16).length c1, .slice rp m.ram.length rc, .slice sp m.scr.length sc', .int .u8 m.ch, .int .u8 m.pad, .int .u16 m.pitch, .int .u8 m.vol, .int .u16 m.time]) (by simp [Act.eval]) (by simp [Act.eval]) 108 Z8.toArray hz0 (by exact sizeA) (by rfl) (by simp [Value.oneCell']) ?_
          refine hK.out _ _ s1 (fun hHeld => ?_)
          clear hK K
          refine wpAnyH_ready (rs := [13]) (by kernel_rfl) (by simp) ?_
          refine AllReadyH.cons rfl (fun K hK => ?_) AllReadyH.nil
          refine M.step_store_row rfl 110 (.tmp 4) (.tmp 16) rfl bC (#[.slice pb (M.inO m 16).length cb, .slice (some ⟨gr, 0, none⟩) 16384 16384, .slice (some ⟨gc, 0, none⟩) 3072 3072, .int .u8 m.ch, .int .u8 m.pad, .int .u16 m.pitch, .int .u8 m.vol, .int .u16 m.time]) (by simp [Act.eval, Act.put]) (by simp [Act.eval, Act.put]) 110 Z8.toArray z1 (by exact sizeC) (by rfl) (by simp [Value.oneCell']) ?_
          refine hK.out _ _ s2 (fun hHeld => ?_)
          clear hK K
          refine wpAnyH_done (by kernel_rfl) ?_ _
          clear hHeld
          try simp only [Act.put, List.setIfInBounds_toArray, List.set_cons_zero, List.set_cons_succ]
          go_wp2
          go_meet
          case rel => exact ⟨bA, bC, p1, c1, rp, rc, sp, sc', pb, cb, gr, gc, rfl, rfl, HFm.out⟩
        refine AllReadyH.cons rfl (fun K hK => ?_) AllReadyH.nil
        go_simp
        have kk : Below y2.heap.size y2 (y2.alloc (.cells #[.slice none 0 0, .slice none 0 0, .slice none 0 0, .int .u8 0, .int .u8 0, .int .u16 0, .int .u8 0, .int .u16 0] 110)) := (Below.refl _ _).alloc (Nat.le_refl _) _
        have hz : Zb (y2.alloc (.cells #[.slice none 0 0, .slice none 0 0, .slice none 0 0, .int .u8 0, .int .u8 0, .int .u16 0, .int .u8 0, .int .u16 0] 110)) y2.heap.size 110 := heap_alloc_new y2 _
        generalize y2.alloc (.cells #[.slice none 0 0, .slice none 0 0, .slice none 0 0, .int .u8 0, .int .u8 0, .int .u16 0, .int .u8 0, .int .u16 0] 110) = y5 at *
        have HBy5 := S.hid (bel2 HBy2.out kk)
        have HIy5 := S.hid (I3.below HIy2.out kk)
        have HRy5 := S.hid (M.RIm.below HRy2.out kk)
        have s9 := HSW.out _ HBy5.out
        obtain ⟨bC, hbn⟩ : ∃ bC, y2.heap.size = bC := ⟨_, rfl⟩
        have hz2 : Zb y5 bC 110 := by rw [← hbn]; exact hz
        have hlo : Wd.heap.size ≤ bC := by rw [← hbn]; exact HBy2.out.size
        have HCy5 := S.hid (And.intro hz2 hlo)
        rw [hbn]
        refine hK.out _ _ s9 (fun hHeld => ?_)
        clear hK K s9 hbn hz2 hlo
        clear hz kk HBy2 HIy2 HRy2
        try simp only [Act.put, List.getElem_toArray, List.getElem_cons_zero, List.getElem_cons_succ, List.setIfInBounds_toArray, List.set_cons_zero, List.set_cons_succ]
        refine wpAnyH_ready (rs := [10]) (by kernel_rfl) (by simp) ?_
        refine AllReadyH.cons rfl (fun K hK => ?_) AllReadyH.nil
        go_simp
        have kk : Below y5.heap.size y5 (y5.alloc (.cells #[.slice none 0 0, .slice none 0 0, .slice none 0 0, .int .u8 0, .int .u8 0, .int .u16 0, .int .u8 0, .int .u16 0] 108)) := (Below.refl _ _).alloc (Nat.le_refl _) _
        have hz : Zb (y5.alloc (.cells #[.slice none 0 0, .slice none 0 0, .slice none 0 0, .int .u8 0, .int .u8 0, .int .u16 0, .int .u8 0, .int .u16 0] 108)) y5.heap.size 108 := heap_alloc_new y5 _
        generalize y5.alloc (.cells #[.slice none 0 0, .slice none 0 0, .slice none 0 0, .int .u8 0, .int .u8 0, .int .u16 0, .int .u8 0, .int .u16 0] 108) = y6 at *
        have HBy6 := S.hid (bel2 HBy5.out kk)
        have HCy6 := S.hid (And.intro (HCy5.out.1.below kk) HCy5.out.2)
        have HIy6 := S.hid (I3.below HIy5.out kk)
        have HRy6 := S.hid (M.RIm.below HRy5.out kk)
        have s9 := HSW.out _ HBy6.out
        obtain ⟨bA, hbn⟩ : ∃ bA, y5.heap.size = bA := ⟨_, rfl⟩
        have hz2 : Zb y6 bA 108 := by rw [← hbn]; exact hz
        have hlo : Wd.heap.size ≤ bA := by rw [← hbn]; exact HBy5.out.size
        have HAy6 := S.hid (And.intro hz2 hlo)
        rw [hbn]
        refine hK.out _ _ s9 (fun hHeld => ?_)
        clear hK K s9 hbn hz2 hlo
        clear hz kk HBy5 HCy5 HIy5 HRy5
        try simp only [Act.put, List.getElem_toArray, List.getElem_cons_zero, List.getElem_cons_succ, List.setIfInBounds_toArray, List.set_cons_zero, List.set_cons_succ]
        obtain ⟨z1, hF⟩ := MF.make (c1 := c1) (cb := cb) hwf HBy6.out HAy6.out HCy6.out HIy6.out HRy6.out
        have s1 := HSW.out _ (below_setRow HBy6.out HAy6.out.2 (#[.slice p1 (M.inO m 16).length c1, .slice rp m.ram.length rc, .slice sp m.scr.length sc', .int .u8 m.ch, .int .u8 m.pad, .int .u16 m.pitch, .int .u8 m.vol, .int .u16 m.time]))
        have s2 := HSW.out _ hF.bel
        have HFm := S.hid hF
        have hz0 := HAy6.out.1
        clear hF
        refine wpAnyH_ready (rs := [12]) (by kernel_rfl) (by simp) ?_
        refine AllReadyH.cons rfl (fun K hK => ?_) AllReadyH.nil
        refine M.step_store_row rfl 108 (.tmp 3) (.tmp 11) rfl bA (#[.slice p1 (M.inO m 16).length c1, .slice rp m.ram.length rc, .slice sp m.scr.length sc', .int .u8 m.ch, .int .u8 m.pad, .int .u16 m.pitch, .int .u8 m.vol, .int .u16 m.time]) (by simp [Act.eval]) (by simp [Act.eval]) 108 Z8.toArray hz0 (by exact sizeA) (by rfl) (by simp [Value.oneCell']) ?_
        refine hK.out _ _ s1 (fun hHeld => ?_)
        clear hK K
        refine wpAnyH_ready (rs := [13]) (by kernel_rfl) (by simp) ?_
        refine AllReadyH.cons rfl (fun K hK => ?_) AllReadyH.nil
        refine M.step_store_row rfl 110 (.tmp 4) (.tmp 16) rfl bC (#[.slice pb (M.inO m 16).length cb, .slice (some ⟨gr, 0, none⟩) 16384 16384, .slice (some ⟨gc, 0, none⟩) 3072 3072, .int .u8 m.ch, .int .u8 m.pad, .int .u16 m.pitch, .int .u8 m.vol, .int .u16 m.time]) (by simp [Act.eval, Act.put]) (by simp [Act.eval, Act.put]) 110 Z8.toArray z1 (by exact sizeC) (by rfl) (by simp [Value.oneCell']) ?_
        refine hK.out _ _ s2 (fun hHeld => ?_)
        clear hK K
        refine wpAnyH_done (by kernel_rfl) ?_ _
        clear hHeld
        try simp only [Act.put, List.setIfInBounds_toArray, List.set_cons_zero, List.set_cons_succ]
        go_wp2
        go_meet
        case rel => exact ⟨bA, bC, p1, c1, rp, rc, sp, sc', pb, cb, gr, gc, rfl, rfl, HFm.out⟩
      refine AllReadyH.cons rfl (fun K hK => ?_) ?_
      · go_simp
        have kk : Below y1.heap.size y1 (y1.alloc (.cells #[.slice none 0 0, .slice none 0 0, .slice none 0 0, .int .u8 0, .int .u8 0, .int .u16 0, .int .u8 0, .int .u16 0] 108)) := (Below.refl _ _).alloc (Nat.le_refl _) _
        have hz : Zb (y1.alloc (.cells #[.slice none 0 0, .slice none 0 0, .slice none 0 0, .int .u8 0, .int .u8 0, .int .u16 0, .int .u8 0, .int .u16 0] 108)) y1.heap.size 108 := heap_alloc_new y1 _
        generalize y1.alloc (.cells #[.slice none 0 0, .slice none 0 0, .slice none 0 0, .int .u8 0, .int .u8 0, .int .u16 0, .int .u8 0, .int .u16 0] 108) = y7 at *
        have HBy7 := S.hid (bel2 HBy1.out kk)
        have HIy7 := S.hid (I3.below HIy1.out kk)
        have s9 := HSW.out _ HBy7.out
        obtain ⟨bA, hbn⟩ : ∃ bA, y1.heap.size = bA := ⟨_, rfl⟩
        have hz2 : Zb y7 bA 108 := by rw [← hbn]; exact hz
        have hlo : Wd.heap.size ≤ bA := by rw [← hbn]; exact HBy1.out.size
        have HAy7 := S.hid (And.intro hz2 hlo)
        rw [hbn]
        refine hK.out _ _ s9 (fun hHeld => ?_)
        clear hK K s9 hbn hz2 hlo
        clear hz kk HBy1 HIy1
        try simp only [Act.put, List.getElem_toArray, List.getElem_cons_zero, List.getElem_cons_succ, List.setIfInBounds_toArray, List.set_cons_zero, List.set_cons_succ]
        refine wpAnyH_ready (rs := [9, 11]) (by kernel_rfl) (by simp) ?_
        refine AllReadyH.cons rfl (fun K hK => ?_) ?_
        · have k1 := M.rimage_any bz y7 (HW.out.below HBy7.out).z (by omega)
          unfold M.imgC at k1
          go_simp
          refine k1.mono ?_
          rintro e y8 ⟨pb, cb, gr, gc, rfl, hRI, kk⟩
          have HRy8 := S.hid hRI
          have HBy8 := S.hid (bel2 HBy7.out kk)
          have HAy8 := S.hid (And.intro (HAy7.out.1.below kk) HAy7.out.2)
          have HIy8 := S.hid (I3.below HIy7.out kk)
          have s9 := HSW.out _ HBy8.out
          refine hK.out _ _ s9 (fun hHeld => ?_)
          clear hK K s9
          clear k1 hRI kk HBy7 HAy7 HIy7
          try simp only [Act.put, List.getElem_toArray, List.getElem_cons_zero, List.getElem_cons_succ, List.setIfInBounds_toArray, List.set_cons_zero, List.set_cons_succ]
          refine wpAnyH_ready (rs := [11]) (by kernel_rfl) (by simp) ?_
          refine AllReadyH.cons rfl (fun K hK => ?_) AllReadyH.nil
          go_simp
          have kk : Below y8.heap.size y8 (y8.alloc (.cells #[.slice none 0 0, .slice none 0 0, .slice none 0 0, .int .u8 0, .int .u8 0, .int .u16 0, .int .u8 0, .int .u16 0] 110)) := (Below.refl _ _).alloc (Nat.le_refl _) _
          have hz : Zb (y8.alloc (.cells #[.slice none 0 0, .slice none 0 0, .slice none 0 0, .int .u8 0, .int .u8 0, .int .u16 0, .int .u8 0, .int .u16 0] 110)) y8.heap.size 110 := heap_alloc_new y8 _
          generalize y8.alloc (.cells #[.slice none 0 0, .slice none 0 0, .slice none 0 0, .int .u8 0, .int .u8 0, .int .u16 0, .int .u8 0, .int .u16 0] 110) = y9 at *
          have HBy9 := S.hid (bel2 HBy8.out kk)
          have HAy9 := S.hid (And.intro (HAy8.out.1.below kk) HAy8.out.2)
          have HIy9 := S.hid (I3.below HIy8.out kk)
          have HRy9 := S.hid (M.RIm.below HRy8.out kk)
          have s9 := HSW.out _ HBy9.out
          obtain ⟨bC, hbn⟩ : ∃ bC, y8.heap.size = bC := ⟨_, rfl⟩
          have hz2 : Zb y9 bC 110 := by rw [← hbn]; exact hz
          have hlo : Wd.heap.size ≤ bC := by rw [← hbn]; exact HBy8.out.size
          have HCy9 := S.hid (And.intro hz2 hlo)
          rw [hbn]
          refine hK.out _ _ s9 (fun hHeld => ?_)
          clear hK K s9 hbn hz2 hlo
          clear hz kk HBy8 HAy8 HIy8 HRy8
          try simp only [Act.put, List.getElem_toArray, List.getElem_cons_zero, List.getElem_cons_succ, List.setIfInBounds_toArray, List.set_cons_zero, List.set_cons_succ]
          obtain ⟨z1, hF⟩ := MF.make (c1 := c1) (cb := cb) hwf HBy9.out HAy9.out HCy9.out HIy9.out HRy9.out
          have s1 := HSW.out _ (below_setRow HBy9.out HAy9.out.2 (#[.slice p1 (M.inO m 16).length c1, .slice rp m.ram.length rc, .slice sp m.scr.length sc', .int .u8 m.ch, .int .u8 m.pad, .int .u16 m.pitch, .int .u8 m.vol, .int .u16 m.time]))
          have s2 := HSW.out _ hF.bel
          have HFm := S.hid hF
          have hz0 := HAy9.out.1
          clear hF
          refine wpAnyH_ready (rs := [12]) (by kernel_rfl) (by simp) ?_
          refine AllReadyH.cons rfl (fun K hK => ?_) AllReadyH.nil
          refine M.step_store_row rfl 108 (.tmp 3) (.tmp 11) rfl bA (#[.slice p1 (M.inO m 16).length c1, .slice rp m.ram.length rc, .slice sp m.scr.length sc', .int .u8 m.ch, .int .u8 m.pad, .int .u16 m.pitch, .int .u8 m.vol, .int .u16 m.time]) (by simp [Act.eval]) (by simp [Act.eval]) 108 Z8.toArray hz0 (by exact sizeA) (by rfl) (by simp [Value.oneCell']) ?_
          refine hK.out _ _ s1 (fun hHeld => ?_)
          clear hK K
          refine wpAnyH_ready (rs := [13]) (by kernel_rfl) (by simp) ?_
          refine AllReadyH.cons rfl (fun K hK => ?_) AllReadyH.nil
          refine M.step_store_row rfl 110 (.tmp 4) (.tmp 16) rfl bC (#[.slice pb (M.inO m 16).length cb, .slice (some ⟨gr, 0, none⟩) 16384 16384, .slice (some ⟨gc, 0, none⟩) 3072 3072, .int .u8 m.ch, .int .u8 m.pad, .int .u16 m.pitch, .int .u8 m.vol, .int .u16 m.time]) (by simp [Act.eval, Act.put]) (by simp [Act.eval, Act.put]) 110 Z8.toArray z1 (by exact sizeC) (by rfl) (by simp [Value.oneCell']) ?_
          refine hK.out _ _ s2 (fun hHeld => ?_)
          clear hK K
          refine wpAnyH_done (by kernel_rfl) ?_ _
          clear hHeld
          try simp only [Act.put, List.setIfInBounds_toArray, List.set_cons_zero, List.set_cons_succ]
          go_wp2
          go_meet
          case rel => exact ⟨bA, bC, p1, c1, rp, rc, sp, sc', pb, cb, gr, gc, rfl, rfl, HFm.out⟩
        refine AllReadyH.cons rfl (fun K hK => ?_) AllReadyH.nil
        go_simp
        have kk : Below y7.heap.size y7 (y7.alloc (.cells #[.slice none 0 0, .slice none 0 0, .slice none 0 0, .int .u8 0, .int .u8 0, .int .u16 0, .int .u8 0, .int .u16 0] 110)) := (Below.refl _ _).alloc (Nat.le_refl _) _
        have hz : Zb (y7.alloc (.cells #[.slice none 0 0, .slice none 0 0, .slice none 0 0, .int .u8 0, .int .u8 0, .int .u16 0, .int .u8 0, .int .u16 0] 110)) y7.heap.size 110 := heap_alloc_new y7 _
        generalize y7.alloc (.cells #[.slice none 0 0, .slice none 0 0, .slice none 0 0, .int .u8 0, .int .u8 0, .int .u16 0, .int .u8 0, .int .u16 0] 110) = y10 at *
        have HBy10 := S.hid (bel2 HBy7.out kk)
        have HAy10 := S.hid (And.intro (HAy7.out.1.below kk) HAy7.out.2)
        have HIy10 := S.hid (I3.below HIy7.out kk)
        have s9 := HSW.out _ HBy10.out
        obtain ⟨bC, hbn⟩ : ∃ bC, y7.heap.size = bC := ⟨_, rfl⟩
        have hz2 : Zb y10 bC 110 := by rw [← hbn]; exact hz
        have hlo : Wd.heap.size ≤ bC := by rw [← hbn]; exact HBy7.out.size
        have HCy10 := S.hid (And.intro hz2 hlo)
        rw [hbn]
        refine hK.out _ _ s9 (fun hHeld => ?_)
        clear hK K s9 hbn hz2 hlo
        clear hz kk HBy7 HAy7 HIy7
        try simp only [Act.put, List.getElem_toArray, List.getElem_cons_zero, List.getElem_cons_succ, List.setIfInBounds_toArray, List.set_cons_zero, List.set_cons_succ]
        refine wpAnyH_ready (rs := [9]) (by kernel_rfl) (by simp) ?_
        refine AllReadyH.cons rfl (fun K hK => ?_) AllReadyH.nil
        have k1 := M.rimage_any bz y10 (HW.out.below HBy10.out).z (by omega)
        unfold M.imgC at k1
        go_simp
        refine k1.mono ?_
        rintro e y11 ⟨pb, cb, gr, gc, rfl, hRI, kk⟩
        have HRy11 := S.hid hRI
        have HBy11 := S.hid (bel2 HBy10.out kk)
        have HAy11 := S.hid (And.intro (HAy10.out.1.below kk) HAy10.out.2)
        have HCy11 := S.hid (And.intro (HCy10.out.1.below kk) HCy10.out.2)
        have HIy11 := S.hid (I3.below HIy10.out kk)
        have s9 := HSW.out _ HBy11.out
        refine hK.out _ _ s9 (fun hHeld => ?_)
        clear hK K s9
        clear k1 hRI kk HBy10 HAy10 HCy10 HIy10
        try simp only [Act.put, List.getElem_toArray, List.getElem_cons_zero, List.getElem_cons_succ, List.setIfInBounds_toArray, List.set_cons_zero, List.set_cons_succ]
        obtain ⟨z1, hF⟩ := MF.make (c1 := c1) (cb := cb) hwf HBy11.out HAy11.out HCy11.out HIy11.out HRy11.out
        have s1 := HSW.out _ (below_setRow HBy11.out HAy11.out.2 (#[.slice p1 (M.inO m 16).length c1, .slice rp m.ram.length rc, .slice sp m.scr.length sc', .int .u8 m.ch, .int .u8 m.pad, .int .u16 m.pitch, .int .u8 m.vol, .int .u16 m.time]))
        have s2 := HSW.out _ hF.bel
        have HFm := S.hid hF
        have hz0 := HAy11.out.1
        clear hF
        refine wpAnyH_ready (rs := [12]) (by kernel_rfl) (by simp) ?_
        refine AllReadyH.cons rfl (fun K hK => ?_) AllReadyH.nil
        refine M.step_store_row rfl 108 (.tmp 3) (.tmp 11) rfl bA (#[.slice p1 (M.inO m 16).length c1, .slice rp m.ram.length rc, .slice sp m.scr.length sc', .int .u8 m.ch, .int .u8 m.pad, .int .u16 m.pitch, .int .u8 m.vol, .int .u16 m.time]) (by simp [Act.eval]) (by simp [Act.eval]) 108 Z8.toArray hz0 (by exact sizeA) (by rfl) (by simp [Value.oneCell']) ?_
        refine hK.out _ _ s1 (fun hHeld => ?_)
        clear hK K
        refine wpAnyH_ready (rs := [13]) (by kernel_rfl) (by simp) ?_
        refine AllReadyH.cons rfl (fun K hK => ?_) AllReadyH.nil
        refine M.step_store_row rfl 110 (.tmp 4) (.tmp 16) rfl bC (#[.slice pb (M.inO m 16).length cb, .slice (some ⟨gr, 0, none⟩) 16384 16384, .slice (some ⟨gc, 0, none⟩) 3072 3072, .int .u8 m.ch, .int .u8 m.pad, .int .u16 m.pitch, .int .u8 m.vol, .int .u16 m.time]) (by simp [Act.eval, Act.put]) (by simp [Act.eval, Act.put]) 110 Z8.toArray z1 (by exact sizeC) (by rfl) (by simp [Value.oneCell']) ?_
        refine hK.out _ _ s2 (fun hHeld => ?_)
        clear hK K
        refine wpAnyH_done (by kernel_rfl) ?_ _
        clear hHeld
        try simp only [Act.put, List.setIfInBounds_toArray, List.set_cons_zero, List.set_cons_succ]
        go_wp2
        go_meet
        case rel => exact ⟨bA, bC, p1, c1, rp, rc, sp, sc', pb, cb, gr, gc, rfl, rfl, HFm.out⟩
      refine AllReadyH.cons rfl (fun K hK => ?_) AllReadyH.nil
      go_simp
      have kk : Below y1.heap.size y1 (y1.alloc (.cells #[.slice none 0 0, .slice none 0 0, .slice none 0 0, .int .u8 0, .int .u8 0, .int .u16 0, .int .u8 0, .int .u16 0] 110)) := (Below.refl _ _).alloc (Nat.le_refl _) _
      have hz : Zb (y1.alloc (.cells #[.slice none 0 0, .slice none 0 0, .slice none 0 0, .int .u8 0, .int .u8 0, .int .u16 0, .int .u8 0, .int .u16 0] 110)) y1.heap.size 110 := heap_alloc_new y1 _
      generalize y1.alloc (.cells #[.slice none 0 0, .slice none 0 0, .slice none 0 0, .int .u8 0, .int .u8 0, .int .u16 0, .int .u8 0, .int .u16 0] 110) = y12 at *
      have HBy12 := S.hid (bel2 HBy1.out kk)
      have HIy12 := S.hid (I3.below HIy1.out kk)
      have s9 := HSW.out _ HBy12.out
      obtain ⟨bC, hbn⟩ : ∃ bC, y1.heap.size = bC := ⟨_, rfl⟩
      have hz2 : Zb y12 bC 110 := by rw [← hbn]; exact hz
      have hlo : Wd.heap.size ≤ bC := by rw [← hbn]; exact HBy1.out.size
      have HCy12 := S.hid (And.intro hz2 hlo)
      rw [hbn]
      refine hK.out _ _ s9 (fun hHeld => ?_)
      clear hK K s9 hbn hz2 hlo
      clear hz kk HBy1 HIy1
      try simp only [Act.put, List.getElem_toArray, List.getElem_cons_zero, List.getElem_cons_succ, List.setIfInBounds_toArray, List.set_cons_zero, List.set_cons_succ]
      refine wpAnyH_ready (rs := [9, 10]) (by kernel_rfl) (by simp) ?_
      refine AllReadyH.cons rfl (fun K hK => ?_) ?_
      · have k1 := M.rimage_any bz y12 (HW.out.below HBy12.out).z (by omega)
        unfold M.imgC at k1
        go_simp
        refine k1.mono ?_
        rintro e y13 ⟨pb, cb, gr, gc, rfl, hRI, kk⟩
        have HRy13 := S.hid hRI
        have HBy13 := S.hid (bel2 HBy12.out kk)
        have HCy13 := S.hid (And.intro (HCy12.out.1.below kk) HCy12.out.2)
        have HIy13 := S.hid (I3.below HIy12.out kk)
        have s9 := HSW.out _ HBy13.out
        refine hK.out _ _ s9 (fun hHeld => ?_)
        clear hK K s9
        clear k1 hRI kk HBy12 HCy12 HIy12
        try simp only [Act.put, List.getElem_toArray, List.getElem_cons_zero, List.getElem_cons_succ, List.setIfInBounds_toArray, List.set_cons_zero, List.set_cons_succ]
        refine wpAnyH_ready (rs := [10]) (by kernel_rfl) (by simp) ?_
        refine AllReadyH.cons rfl (fun K hK => ?_) AllReadyH.nil
        go_simp
        have kk : Below y13.heap.size y13 (y13.alloc (.cells #[.slice none 0 0, .slice none 0 0, .slice none 0 0, .int .u8 0, .int .u8 0, .int .u16 0, .int .u8 0, .int .u16 0] 108)) := (Below.refl _ _).alloc (Nat.le_refl _) _
        have hz : Zb (y13.alloc (.cells #[.slice none 0 0, .slice none 0 0, .slice none 0 0, .int .u8 0, .int .u8 0, .int .u16 0, .int .u8 0, .int .u16 0] 108)) y13.heap.size 108 := heap_alloc_new y13 _
        generalize y13.alloc (.cells #[.slice none 0 0, .slice none 0 0, .slice none 0 0, .int .u8 0, .int .u8 0, .int .u16 0, .int .u8 0, .int .u16 0] 108) = y14 at *
        have HBy14 := S.hid (bel2 HBy13.out kk)
        have HCy14 := S.hid (And.intro (HCy13.out.1.below kk) HCy13.out.2)
        have HIy14 := S.hid (I3.below HIy13.out kk)
        have HRy14 := S.hid (M.RIm.below HRy13.out kk)
        have s9 := HSW.out _ HBy14.out
        obtain ⟨bA, hbn⟩ : ∃ bA, y13.heap.size = bA := ⟨_, rfl⟩
        have hz2 : Zb y14 bA 108 := by rw [← hbn]; exact hz
        have hlo : Wd.heap.size ≤ bA := by rw [← hbn]; exact HBy13.out.size
        have HAy14 := S.hid (And.intro hz2 hlo)
        rw [hbn]
        refine hK.out _ _ s9 (fun hHeld => ?_)
        clear hK K s9 hbn hz2 hlo
        clear hz kk HBy13 HCy13 HIy13 HRy13
        try simp only [Act.put, List.getElem_toArray, List.getElem_cons_zero, List.getElem_cons_succ, List.setIfInBounds_toArray, List.set_cons_zero, List.set_cons_succ]
        obtain ⟨z1, hF⟩ := MF.make (c1 := c1) (cb := cb) hwf HBy14.out HAy14.out HCy14.out HIy14.out HRy14.out
        have s1 := HSW.out _ (below_setRow HBy14.out HAy14.out.2 (#[.slice p1 (M.inO m 16).length c1, .slice rp m.ram.length rc, .slice sp m.scr.length sc', .int .u8 m.ch, .int .u8 m.pad, .int .u16 m.pitch, .int .u8 m.vol, .int .u16 m.time]))
        have s2 := HSW.out _ hF.bel
        have HFm := S.hid hF
        have hz0 := HAy14.out.1
        clear hF
        refine wpAnyH_ready (rs := [12]) (by kernel_rfl) (by simp) ?_
        refine AllReadyH.cons rfl (fun K hK => ?_) AllReadyH.nil
        refine M.step_store_row rfl 108 (.tmp 3) (.tmp 11) rfl bA (#[.slice p1 (M.inO m 16).length c1, .slice rp m.ram.length rc, .slice sp m.scr.length sc', .int .u8 m.ch, .int .u8 m.pad, .int .u16 m.pitch, .int .u8 m.vol, .int .u16 m.time]) (by simp [Act.eval]) (by simp [Act.eval]) 108 Z8.toArray hz0 (by exact sizeA) (by rfl) (by simp [Value.oneCell']) ?_
        refine hK.out _ _ s1 (fun hHeld => ?_)
        clear hK K
        refine wpAnyH_ready (rs := [13]) (by kernel_rfl) (by simp) ?_
        refine AllReadyH.cons rfl (fun K hK => ?_) AllReadyH.nil
        refine M.step_store_row rfl 110 (.tmp 4) (.tmp 16) rfl bC (#[.slice pb (M.inO m 16).length cb, .slice (some ⟨gr, 0, none⟩) 16384 16384, .slice (some ⟨gc, 0, none⟩) 3072 3072, .int .u8 m.ch, .int .u8 m.pad, .int .u16 m.pitch, .int .u8 m.vol, .int .u16 m.time]) (by simp [Act.eval, Act.put]) (by simp [Act.eval, Act.put]) 110 Z8.toArray z1 (by exact sizeC) (by rfl) (by simp [Value.oneCell']) ?_
        refine hK.out _ _ s2 (fun hHeld => ?_)
        clear hK K
        refine wpAnyH_done (by kernel_rfl) ?_ _
        clear hHeld
        try simp only [Act.put, List.setIfInBounds_toArray, List.set_cons_zero, List.set_cons_succ]
        go_wp2
        go_meet
        case rel => exact ⟨bA, bC, p1, c1, rp, rc, sp, sc', pb, cb, gr, gc, rfl, rfl, HFm.out⟩
      refine AllReadyH.cons rfl (fun K hK => ?_) AllReadyH.nil
      go_simp
      have kk : Below y12.heap.size y12 (y12.alloc (.cells #[.slice none 0 0, .slice none 0 0, .slice none 0 0, .int .u8 0, .int .u8 0, .int .u16 0, .int .u8 0, .int .u16 0] 108)) := (Below.refl _ _).alloc (Nat.le_refl _) _
      have hz : Zb (y12.alloc (.cells #[.slice none 0 0, .slice none 0 0, .slice none 0 0, .int .u8 0, .int .u8 0, .int .u16 0, .int .u8 0, .int .u16 0] 108)) y12.heap.size 108 := heap_alloc_new y12 _
      generalize y12.alloc (.cells #[.slice none 0 0, .slice none 0 0, .slice none 0 0, .int .u8 0, .int .u8 0, .int .u16 0, .int .u8 0, .int .u16 0] 108) = y15 at *
      have HBy15 := S.hid (bel2 HBy12.out kk)
      have HCy15 := S.hid (And.intro (HCy12.out.1.below kk) HCy12.out.2)
      have HIy15 := S.hid (I3.below HIy12.out kk)
      have s9 := HSW.out _ HBy15.out
      obtain ⟨bA, hbn⟩ : ∃ bA, y12.heap.size = bA := ⟨_, rfl⟩
      have hz2 : Zb y15 bA 108 := by rw [← hbn]; exact hz
      have hlo : Wd.heap.size ≤ bA := by rw [← hbn]; exact HBy12.out.size
      have HAy15 := S.hid (And.intro hz2 hlo)
      rw [hbn]
      refine hK.out _ _ s9 (fun hHeld => ?_)
      clear hK K s9 hbn hz2 hlo
      clear hz kk HBy12 HCy12 HIy12
      try simp only [Act.put, List.getElem_toArray, List.getElem_cons_zero, List.getElem_cons_succ, List.setIfInBounds_toArray, List.set_cons_zero, List.set_cons_succ]
      refine wpAnyH_ready (rs := [9]) (by kernel_rfl) (by simp) ?_
      refine AllReadyH.cons rfl (fun K hK => ?_) AllReadyH.nil
      have k1 := M.rimage_any bz y15 (HW.out.below HBy15.out).z (by omega)
      unfold M.imgC at k1
      go_simp
      refine k1.mono ?_
      rintro e y16 ⟨pb, cb, gr, gc, rfl, hRI, kk⟩
      have HRy16 := S.hid hRI
      have HBy16 := S.hid (bel2 HBy15.out kk)
      have HAy16 := S.hid (And.intro (HAy15.out.1.below kk) HAy15.out.2)
      have HCy16 := S.hid (And.intro (HCy15.out.1.below kk) HCy15.out.2)
      have HIy16 := S.hid (I3.below HIy15.out kk)
      have s9 := HSW.out _ HBy16.out
      refine hK.out _ _ s9 (fun hHeld => ?_)
      clear hK K s9
      clear k1 hRI kk HBy15 HAy15 HCy15 HIy15
      try simp only [Act.put, List.getElem_toArray, List.getElem_cons_zero, List.getElem_cons_succ, List.setIfInBounds_toArray, List.set_cons_zero, List.set_cons_succ]
      obtain ⟨z1, hF⟩ := MF.make (c1 := c1) (cb := cb) hwf HBy16.out HAy16.out HCy16.out HIy16.out HRy16.out
      have s1 := HSW.out _ (below_setRow HBy16.out HAy16.out.2 (#[.slice p1 (M.inO m 16).length c1, .slice rp m.ram.length rc, .slice sp m.scr.length sc', .int .u8 m.ch, .int .u8 m.pad, .int .u16 m.pitch, .int .u8 m.vol, .int .u16 m.time]))
      have s2 := HSW.out _ hF.bel
      have HFm := S.hid hF
      have hz0 := HAy16.out.1
      clear hF
      refine wpAnyH_ready (rs := [12]) (by kernel_rfl) (by simp) ?_
      refine AllReadyH.cons rfl (fun K hK => ?_) AllReadyH.nil
      refine M.step_store_row rfl 108 (.tmp 3) (.tmp 11) rfl bA (#[.slice p1 (M.inO m 16).length c1, .slice rp m.ram.length rc, .slice sp m.scr.length sc', .int .u8 m.ch, .int .u8 m.pad, .int .u16 m.pitch, .int .u8 m.vol, .int .u16 m.time]) (by simp [Act.eval]) (by simp [Act.eval]) 108 Z8.toArray hz0 (by exact sizeA) (by rfl) (by simp [Value.oneCell']) ?_
      refine hK.out _ _ s1 (fun hHeld => ?_)
      clear hK K
      refine wpAnyH_ready (rs := [13]) (by kernel_rfl) (by simp) ?_
      refine AllReadyH.cons rfl (fun K hK => ?_) AllReadyH.nil
      refine M.step_store_row rfl 110 (.tmp 4) (.tmp 16) rfl bC (#[.slice pb (M.inO m 16).length cb, .slice (some ⟨gr, 0, none⟩) 16384 16384, .slice (some ⟨gc, 0, none⟩) 3072 3072, .int .u8 m.ch, .int .u8 m.pad, .int .u16 m.pitch, .int .u8 m.vol, .int .u16 m.time]) (by simp [Act.eval, Act.put]) (by simp [Act.eval, Act.put]) 110 Z8.toArray z1 (by exact sizeC) (by rfl) (by simp [Value.oneCell']) ?_
      refine hK.out _ _ s2 (fun hHeld => ?_)
      clear hK K
      refine wpAnyH_done (by kernel_rfl) ?_ _
      clear hHeld
      try simp only [Act.put, List.setIfInBounds_toArray, List.set_cons_zero, List.set_cons_succ]
      go_wp2
      go_meet
      case rel => exact ⟨bA, bC, p1, c1, rp, rc, sp, sc', pb, cb, gr, gc, rfl, rfl, HFm.out⟩
    refine AllReadyH.cons rfl (fun K hK => ?_) ?_
    · go_simp
      have kk : Below Wd.heap.size Wd (Wd.alloc (.cells #[.slice none 0 0, .slice none 0 0, .slice none 0 0, .int .u8 0, .int .u8 0, .int .u16 0, .int .u8 0, .int .u16 0] 108)) := (Below.refl _ _).alloc (Nat.le_refl _) _
      have hz : Zb (Wd.alloc (.cells #[.slice none 0 0, .slice none 0 0, .slice none 0 0, .int .u8 0, .int .u8 0, .int .u16 0, .int .u8 0, .int .u16 0] 108)) Wd.heap.size 108 := heap_alloc_new Wd _
      generalize Wd.alloc (.cells #[.slice none 0 0, .slice none 0 0, .slice none 0 0, .int .u8 0, .int .u8 0, .int .u16 0, .int .u8 0, .int .u16 0] 108) = y17 at *
      have HBy17 := S.hid (bel2 HBWd.out kk)
      have s9 := HSW.out _ HBy17.out
      obtain ⟨bA, hbn⟩ : ∃ bA, Wd.heap.size = bA := ⟨_, rfl⟩
      have hz2 : Zb y17 bA 108 := by rw [← hbn]; exact hz
      have hlo : Wd.heap.size ≤ bA := by rw [← hbn]; exact HBWd.out.size
      have HAy17 := S.hid (And.intro hz2 hlo)
      rw [hbn]
      refine hK.out _ _ s9 (fun hHeld => ?_)
      clear hK K s9 hbn hz2 hlo
      clear hz kk HBWd
      try simp only [Act.put, List.getElem_toArray, List.getElem_cons_zero, List.getElem_cons_succ, List.setIfInBounds_toArray, List.set_cons_zero, List.set_cons_succ]
      refine wpAnyH_ready (rs := [4, 11]) (by kernel_rfl) (by simp) ?_
      refine AllReadyH.cons rfl (fun K hK => ?_) ?_
      · have k1 := M.image_has bm y17 (HW.out.below HBy17.out).p.m
        unfold M.imgC at k1
        go_simp
        refine k1.mono ?_
        rintro e y18 ⟨u, rv, sv, gs9, N1, N2, rfl, hIm, kk⟩
        obtain ⟨p1, c1, rp, rc, sp, sc', rfl, rfl, rfl, hbn, hr, hs⟩ := ImO_forms hIm (fun t ht => by have := hfu t ht; unfold M.room; omega)
        have HIy18 := S.hid (show I3 y18 p1 rp rc sp sc' m from ⟨hbn, hr, hs⟩)
        have HBy18 := S.hid (bel2 HBy17.out kk)
        have HAy18 := S.hid (And.intro (HAy17.out.1.below kk) HAy17.out.2)
        have s9 := HSW.out _ HBy18.out
        refine hK.out _ _ s9 (fun hHeld => ?_)
        clear hK K s9
        clear k1 hIm hbn hr hs kk HBy17 HAy17
        try simp only [Act.put, List.getElem_toArray, List.getElem_cons_zero, List.getElem_cons_succ, List.setIfInBounds_toArray, List.set_cons_zero, List.set_cons_succ]
        refine wpAnyH_ready (rs := [9, 11]) (by kernel_rfl) (by simp) ?_
        refine AllReadyH.cons rfl (fun K hK => ?_) ?_
        · have k1 := M.rimage_any bz y18 (HW.out.below HBy18.out).z (by omega)
          unfold M.imgC at k1
          go_simp
          refine k1.mono ?_
          rintro e y19 ⟨pb, cb, gr, gc, rfl, hRI, kk⟩
          have HRy19 := S.hid hRI
          have HBy19 := S.hid (bel2 HBy18.out kk)
          have HAy19 := S.hid (And.intro (HAy18.out.1.below kk) HAy18.out.2)
          have HIy19 := S.hid (I3.below HIy18.out kk)
          have s9 := HSW.out _ HBy19.out
          refine hK.out _ _ s9 (fun hHeld => ?_)
          clear hK K s9
          clear k1 hRI kk HBy18 HAy18 HIy18
          try simp only [Act.put, List.getElem_toArray, List.getElem_cons_zero, List.getElem_cons_succ, List.setIfInBounds_toArray, List.set_cons_zero, List.set_cons_succ]
          refine wpAnyH_ready (rs := [11]) (by kernel_rfl) (by simp) ?_
          refine AllReadyH.cons rfl (fun K hK => ?_) AllReadyH.nil
          go_simp
          have kk : Below y19.heap.size y19 (y19.alloc (.cells #[.slice none 0 0, .slice none 0 0, .slice none 0 0, .int .u8 0, .int .u8 0, .int .u16 0, .int .u8 0, .int .u16 0] 110)) := (Below.refl _ _).alloc (Nat.le_refl _) _
          have hz : Zb (y19.alloc (.cells #[.slice none 0 0, .slice none 0 0, .slice none 0 0, .int .u8 0, .int .u8 0, .int .u16 0, .int .u8 0, .int .u16 0] 110)) y19.heap.size 110 := heap_alloc_new y19 _
          generalize y19.alloc (.cells #[.slice none 0 0, .slice none 0 0, .slice none 0 0, .int .u8 0, .int .u8 0, .int .u16 0, .int .u8 0, .int .u16 0] 110) = y20 at *
          have HBy20 := S.hid (bel2 HBy19.out kk)
          have HAy20 := S.hid (And.intro (HAy19.out.1.below kk) HAy19.out.2)
          have HIy20 := S.hid (I3.below HIy19.out kk)
          have HRy20 := S.hid (M.RIm.below HRy19.out kk)
          have s9 := HSW.out _ HBy20.out
          obtain ⟨bC, hbn⟩ : ∃ bC, y19.heap.size = bC := ⟨_, rfl⟩
          have hz2 : Zb y20 bC 110 := by rw [← hbn]; exact hz
          have hlo : Wd.heap.size ≤ bC := by rw [← hbn]; exact HBy19.out.size
          have HCy20 := S.hid (And.intro hz2 hlo)
          rw [hbn]
          refine hK.out _ _ s9 (fun hHeld => ?_)
          clear hK K s9 hbn hz2 hlo
          clear hz kk HBy19 HAy19 HIy19 HRy19
          try simp only [Act.put, List.getElem_toArray, List.getElem_cons_zero, List.getElem_cons_succ, List.setIfInBounds_toArray, List.set_cons_zero, List.set_cons_succ]
          obtain ⟨z1, hF⟩ := MF.make (c1 := c1) (cb := cb) hwf HBy20.out HAy20.out HCy20.out HIy20.out HRy20.out
          have s1 := HSW.out _ (below_setRow HBy20.out HAy20.out.2 (#[.slice p1 (M.inO m 16).length c1, .slice rp m.ram.length rc, .slice sp m.scr.length sc', .int .u8 m.ch, .int .u8 m.pad, .int .u16 m.pitch, .int .u8 m.vol, .int .u16 m.time]))
          have s2 := HSW.out _ hF.bel
          have HFm := S.hid hF
          have hz0 := HAy20.out.1
          clear hF
          refine wpAnyH_ready (rs := [12]) (by kernel_rfl) (by simp) ?_
          refine AllReadyH.cons rfl (fun K hK => ?_) AllReadyH.nil
          refine M.step_store_row rfl 108 (.tmp 3) (.tmp 11) rfl bA (#[.slice p1 (M.inO m 16).length c1, .slice rp m.ram.length rc, .slice sp m.scr.length sc', .int .u8 m.ch, .int .u8 m.pad, .int .u16 m.pitch, .int .u8 m.vol, .int .u16 m.time]) (by simp [Act.eval]) (by simp [Act.eval]) 108 Z8.toArray hz0 (by exact sizeA) (by rfl) (by simp [Value.oneCell']) ?_
          refine hK.out _ _ s1 (fun hHeld => ?_)
          clear hK K
          refine wpAnyH_ready (rs := [13]) (by kernel_rfl) (by simp) ?_
          refine AllReadyH.cons rfl (fun K hK => ?_) AllReadyH.nil
          refine M.step_store_row rfl 110 (.tmp 4) (.tmp 16) rfl bC (#[.slice pb (M.inO m 16).length cb, .slice (some ⟨gr, 0, none⟩) 16384 16384, .slice (some ⟨gc, 0, none⟩) 3072 3072, .int .u8 m.ch, .int .u8 m.pad, .int .u16 m.pitch, .int .u8 m.vol, .int .u16 m.time]) (by simp [Act.eval, Act.put]) (by simp [Act.eval, Act.put]) 110 Z8.toArray z1 (by exact sizeC) (by rfl) (by simp [Value.oneCell']) ?_
          refine hK.out _ _ s2 (fun hHeld => ?_)
          clear hK K
          refine wpAnyH_done (by kernel_rfl) ?_ _
          clear hHeld
          try simp only [Act.put, List.setIfInBounds_toArray, List.set_cons_zero, List.set_cons_succ]
          go_wp2
          go_meet
          case rel => exact ⟨bA, bC, p1, c1, rp, rc, sp, sc', pb, cb, gr, gc, rfl, rfl, HFm.out⟩
        refine AllReadyH.cons rfl (fun K hK => ?_) AllReadyH.nil
        go_simp
        have kk : Below y18.heap.size y18 (y18.alloc (.cells #[.slice none 0 0, .slice none 0 0, .slice none 0 0, .int .u8 0, .int .u8 0, .int .u16 0, .int .u8 0, .int .u16 0] 110)) := (Below.refl _ _).alloc (Nat.le_refl _) _
        have hz : Zb (y18.alloc (.cells #[.slice none 0 0, .slice none 0 0, .slice none 0 0, .int .u8 0, .int .u8 0, .int .u16 0, .int .u8 0, .int .u16 0] 110)) y18.heap.size 110 := heap_alloc_new y18 _
        generalize y18.alloc (.cells #[.slice none 0 0, .slice none 0 0, .slice none 0 0, .int .u8 0, .int .u8 0, .int .u16 0, .int .u8 0, .int .u16 0] 110) = y21 at *
        have HBy21 := S.hid (bel2 HBy18.out kk)
        have HAy21 := S.hid (And.intro (HAy18.out.1.below kk) HAy18.out.2)
        have HIy21 := S.hid (I3.below HIy18.out kk)
        have s9 := HSW.out _ HBy21.out
        obtain ⟨bC, hbn⟩ : ∃ bC, y18.heap.size = bC := ⟨_, rfl⟩
        have hz2 : Zb y21 bC 110 := by rw [← hbn]; exact hz
        have hlo : Wd.heap.size ≤ bC := by rw [← hbn]; exact HBy18.out.size
        have HCy21 := S.hid (And.intro hz2 hlo)
        rw [hbn]
        refine hK.out _ _ s9 (fun hHeld => ?_)
        clear hK K s9 hbn hz2 hlo
        clear hz kk HBy18 HAy18 HIy18
        try simp only [Act.put, List.getElem_toArray, List.getElem_cons_zero, List.getElem_cons_succ, List.setIfInBounds_toArray, List.set_cons_zero, List.set_cons_succ]
        refine wpAnyH_ready (rs := [9]) (by kernel_rfl) (by simp) ?_
        refine AllReadyH.cons rfl (fun K hK => ?_) AllReadyH.nil
        have k1 := M.rimage_any bz y21 (HW.out.below HBy21.out).z (by omega)
        unfold M.imgC at k1
        go_simp
        refine k1.mono ?_
        rintro e y22 ⟨pb, cb, gr, gc, rfl, hRI, kk⟩
        have HRy22 := S.hid hRI
        have HBy22 := S.hid (bel2 HBy21.out kk)
        have HAy22 := S.hid (And.intro (HAy21.out.1.below kk) HAy21.out.2)
        have HCy22 := S.hid (And.intro (HCy21.out.1.below kk) HCy21.out.2)
        have HIy22 := S.hid (I3.below HIy21.out kk)
        have s9 := HSW.out _ HBy22.out
        refine hK.out _ _ s9 (fun hHeld => ?_)
        clear hK K s9
        clear k1 hRI kk HBy21 HAy21 HCy21 HIy21
        try simp only [Act.put, List.getElem_toArray, List.getElem_cons_zero, List.getElem_cons_succ, List.setIfInBounds_toArray, List.set_cons_zero, List.set_cons_succ]
        obtain ⟨z1, hF⟩ := MF.make (c1 := c1) (cb := cb) hwf HBy22.out HAy22.out HCy22.out HIy22.out HRy22.out
        have s1 := HSW.out _ (below_setRow HBy22.out HAy22.out.2 (#[.slice p1 (M.inO m 16).length c1, .slice rp m.ram.length rc, .slice sp m.scr.length sc', .int .u8 m.ch, .int .u8 m.pad, .int .u16 m.pitch, .int .u8 m.vol, .int .u16 m.time]))
        have s2 := HSW.out _ hF.bel
        have HFm := S.hid hF
        have hz0 := HAy22.out.1
        clear hF
        refine wpAnyH_ready (rs := [12]) (by kernel_rfl) (by simp) ?_
        refine AllReadyH.cons rfl (fun K hK => ?_) AllReadyH.nil
        refine M.step_store_row rfl 108 (.tmp 3) (.tmp 11) rfl bA (#[.slice p1 (M.inO m 16).length c1, .slice rp m.ram.length rc, .slice sp m.scr.length sc', .int .u8 m.ch, .int .u8 m.pad, .int .u16 m.pitch, .int .u8 m.vol, .int .u16 m.time]) (by simp [Act.eval]) (by simp [Act.eval]) 108 Z8.toArray hz0 (by exact sizeA) (by rfl) (by simp [Value.oneCell']) ?_
        refine hK.out _ _ s1 (fun hHeld => ?_)
        clear hK K
        refine wpAnyH_ready (rs := [13]) (by kernel_rfl) (by simp) ?_
        refine AllReadyH.cons rfl (fun K hK => ?_) AllReadyH.nil
        refine M.step_store_row rfl 110 (.tmp 4) (.tmp 16) rfl bC (#[.slice pb (M.inO m 16).length cb, .slice (some ⟨gr, 0, none⟩) 16384 16384, .slice (some ⟨gc, 0, none⟩) 3072 3072, .int .u8 m.ch, .int .u8 m.pad, .int .u16 m.pitch, .int .u8 m.vol, .int .u16 m.time]) (by simp [Act.eval, Act.put]) (by simp [Act.eval, Act.put]) 110 Z8.toArray z1 (by exact sizeC) (by rfl) (by simp [Value.oneCell']) ?_
        refine hK.out _ _ s2 (fun hHeld => ?_)
        clear hK K
        refine wpAnyH_done (by kernel_rfl) ?_ _
        clear hHeld
        try simp only [Act.put, List.setIfInBounds_toArray, List.set_cons_zero, List.set_cons_succ]
        go_wp2
        go_meet
        case rel => exact ⟨bA, bC, p1, c1, rp, rc, sp, sc', pb, cb, gr, gc, rfl, rfl, HFm.out⟩
      refine AllReadyH.cons rfl (fun K hK => ?_) AllReadyH.nil
      go_simp
      have kk : Below y17.heap.size y17 (y17.alloc (.cells #[.slice none 0 0, .slice none 0 0, .slice none 0 0, .int .u8 0, .int .u8 0, .int .u16 0, .int .u8 0, .int .u16 0] 110)) := (Below.refl _ _).alloc (Nat.le_refl _) _
      have hz : Zb (y17.alloc (.cells #[.slice none 0 0, .slice none 0 0, .slice none 0 0, .int .u8 0, .int .u8 0, .int .u16 0, .int .u8 0, .int .u16 0] 110)) y17.heap.size 110 := heap_alloc_new y17 _
      generalize y17.alloc (.cells #[.slice none 0 0, .slice none 0 0, .slice none 0 0, .int .u8 0, .int .u8 0, .int .u16 0, .int .u8 0, .int .u16 0] 110) = y23 at *
      have HBy23 := S.hid (bel2 HBy17.out kk)
      have HAy23 := S.hid (And.intro (HAy17.out.1.below kk) HAy17.out.2)
      have s9 := HSW.out _ HBy23.out
      obtain ⟨bC, hbn⟩ : ∃ bC, y17.heap.size = bC := ⟨_, rfl⟩
      have hz2 : Zb y23 bC 110 := by rw [← hbn]; exact hz
      have hlo : Wd.heap.size ≤ bC := by rw [← hbn]; exact HBy17.out.size
      have HCy23 := S.hid (And.intro hz2 hlo)
      rw [hbn]
      refine hK.out _ _ s9 (fun hHeld => ?_)
      clear hK K s9 hbn hz2 hlo
      clear hz kk HBy17 HAy17
      try simp only [Act.put, List.getElem_toArray, List.getElem_cons_zero, List.getElem_cons_succ, List.setIfInBounds_toArray, List.set_cons_zero, List.set_cons_succ]
      refine wpAnyH_ready (rs := [4]) (by kernel_rfl) (by simp) ?_
      refine AllReadyH.cons rfl (fun K hK => ?_) AllReadyH.nil
      have k1 := M.image_has bm y23 (HW.out.below HBy23.out).p.m
      unfold M.imgC at k1
      go_simp
      refine k1.mono ?_
      rintro e y24 ⟨u, rv, sv, gs9, N1, N2, rfl, hIm, kk⟩
      obtain ⟨p1, c1, rp, rc, sp, sc', rfl, rfl, rfl, hbn, hr, hs⟩ := ImO_forms hIm (fun t ht => by have := hfu t ht; unfold M.room; omega)
      have HIy24 := S.hid (show I3 y24 p1 rp rc sp sc' m from ⟨hbn, hr, hs⟩)
      have HBy24 := S.hid (bel2 HBy23.out kk)
      have HAy24 := S.hid (And.intro (HAy23.out.1.below kk) HAy23.out.2)
      have HCy24 := S.hid (And.intro (HCy23.out.1.below kk) HCy23.out.2)
      have s9 := HSW.out _ HBy24.out
      refine hK.out _ _ s9 (fun hHeld => ?_)
      clear hK K s9
      clear k1 hIm hbn hr hs kk HBy23 HAy23 HCy23
      try simp only [Act.put, List.getElem_toArray, List.getElem_cons_zero, List.getElem_cons_succ, List.setIfInBounds_toArray, List.set_cons_zero, List.set_cons_succ]
      refine wpAnyH_ready (rs := [9]) (by kernel_rfl) (by simp) ?_
      refine AllReadyH.cons rfl (fun K hK => ?_) AllReadyH.nil
      have k1 := M.rimage_any bz y24 (HW.out.below HBy24.out).z (by omega)
      unfold M.imgC at k1
      go_simp
      refine k1.mono ?_
      rintro e y25 ⟨pb, cb, gr, gc, rfl, hRI, kk⟩
      have HRy25 := S.hid hRI
      have HBy25 := S.hid (bel2 HBy24.out kk)
      have HAy25 := S.hid (And.intro (HAy24.out.1.below kk) HAy24.out.2)
      have HCy25 := S.hid (And.intro (HCy24.out.1.below kk) HCy24.out.2)
      have HIy25 := S.hid (I3.below HIy24.out kk)
      have s9 := HSW.out _ HBy25.out
      refine hK.out _ _ s9 (fun hHeld => ?_)
      clear hK K s9
      clear k1 hRI kk HBy24 HAy24 HCy24 HIy24
      try simp only [Act.put, List.getElem_toArray, List.getElem_cons_zero, List.getElem_cons_succ, List.setIfInBounds_toArray, List.set_cons_zero, List.set_cons_succ]
      obtain ⟨z1, hF⟩ := MF.make (c1 := c1) (cb := cb) hwf HBy25.out HAy25.out HCy25.out HIy25.out HRy25.out
      have s1 := HSW.out _ (below_setRow HBy25.out HAy25.out.2 (#[.slice p1 (M.inO m 16).length c1, .slice rp m.ram.length rc, .slice sp m.scr.length sc', .int .u8 m.ch, .int .u8 m.pad, .int .u16 m.pitch, .int .u8 m.vol, .int .u16 m.time]))
      have s2 := HSW.out _ hF.bel
      have HFm := S.hid hF
      have hz0 := HAy25.out.1
      clear hF
      refine wpAnyH_ready (rs := [12]) (by kernel_rfl) (by simp) ?_
      refine AllReadyH.cons rfl (fun K hK => ?_) AllReadyH.nil
      refine M.step_store_row rfl 108 (.tmp 3) (.tmp 11) rfl bA (#[.slice p1 (M.inO m 16).length c1, .slice rp m.ram.length rc, .slice sp m.scr.length sc', .int .u8 m.ch, .int .u8 m.pad, .int .u16 m.pitch, .int .u8 m.vol, .int .u16 m.time]) (by simp [Act.eval]) (by simp [Act.eval]) 108 Z8.toArray hz0 (by exact sizeA) (by rfl) (by simp [Value.oneCell']) ?_
      refine hK.out _ _ s1 (fun hHeld => ?_)
      clear hK K
      refine wpAnyH_ready (rs := [13]) (by kernel_rfl) (by simp) ?_
      refine AllReadyH.cons rfl (fun K hK => ?_) AllReadyH.nil
      refine M.step_store_row rfl 110 (.tmp 4) (.tmp 16) rfl bC (#[.slice pb (M.inO m 16).length cb, .slice (some ⟨gr, 0, none⟩) 16384 16384, .slice (some ⟨gc, 0, none⟩) 3072 3072, .int .u8 m.ch, .int .u8 m.pad, .int .u16 m.pitch, .int .u8 m.vol, .int .u16 m.time]) (by simp [Act.eval, Act.put]) (by simp [Act.eval, Act.put]) 110 Z8.toArray z1 (by exact sizeC) (by rfl) (by simp [Value.oneCell']) ?_
      refine hK.out _ _ s2 (fun hHeld => ?_)
      clear hK K
      refine wpAnyH_done (by kernel_rfl) ?_ _
      clear hHeld
      try simp only [Act.put, List.setIfInBounds_toArray, List.set_cons_zero, List.set_cons_succ]
      go_wp2
      go_meet
      case rel => exact ⟨bA, bC, p1, c1, rp, rc, sp, sc', pb, cb, gr, gc, rfl, rfl, HFm.out⟩
    refine AllReadyH.cons rfl (fun K hK => ?_) AllReadyH.nil
    go_simp
    have kk : Below Wd.heap.size Wd (Wd.alloc (.cells #[.slice none 0 0, .slice none 0 0, .slice none 0 0, .int .u8 0, .int .u8 0, .int .u16 0, .int .u8 0, .int .u16 0] 110)) := (Below.refl _ _).alloc (Nat.le_refl _) _
    have hz : Zb (Wd.alloc (.cells #[.slice none 0 0, .slice none 0 0, .slice none 0 0, .int .u8 0, .int .u8 0, .int .u16 0, .int .u8 0, .int .u16 0] 110)) Wd.heap.size 110 := heap_alloc_new Wd _
    generalize Wd.alloc (.cells #[.slice none 0 0, .slice none 0 0, .slice none 0 0, .int .u8 0, .int .u8 0, .int .u16 0, .int .u8 0, .int .u16 0] 110) = y26 at *
    have HBy26 := S.hid (bel2 HBWd.out kk)
    have s9 := HSW.out _ HBy26.out
    obtain ⟨bC, hbn⟩ : ∃ bC, Wd.heap.size = bC := ⟨_, rfl⟩
    have hz2 : Zb y26 bC 110 := by rw [← hbn]; exact hz
    have hlo : Wd.heap.size ≤ bC := by rw [← hbn]; exact HBWd.out.size
    have HCy26 := S.hid (And.intro hz2 hlo)
    rw [hbn]
    refine hK.out _ _ s9 (fun hHeld => ?_)
    clear hK K s9 hbn hz2 hlo
    clear hz kk HBWd
    try simp only [Act.put, List.getElem_toArray, List.getElem_cons_zero, List.getElem_cons_succ, List.setIfInBounds_toArray, List.set_cons_zero, List.set_cons_succ]
    refine wpAnyH_ready (rs := [4, 10]) (by kernel_rfl) (by simp) ?_
    refine AllReadyH.cons rfl (fun K hK => ?_) ?_
    · have k1 := M.image_has bm y26 (HW.out.below HBy26.out).p.m
      unfold M.imgC at k1
      go_simp
      refine k1.mono ?_
      rintro e y27 ⟨u, rv, sv, gs9, N1, N2, rfl, hIm, kk⟩
      obtain ⟨p1, c1, rp, rc, sp, sc', rfl, rfl, rfl, hbn, hr, hs⟩ := ImO_forms hIm (fun t ht => by have := hfu t ht; unfold M.room; omega)
      have HIy27 := S.hid (show I3 y27 p1 rp rc sp sc' m from ⟨hbn, hr, hs⟩)
      have HBy27 := S.hid (bel2 HBy26.out kk)
      have HCy27 := S.hid (And.intro (HCy26.out.1.below kk) HCy26.out.2)
      have s9 := HSW.out _ HBy27.out
      refine hK.out _ _ s9 (fun hHeld => ?_)
      clear hK K s9
      clear k1 hIm hbn hr hs kk HBy26 HCy26
      try simp only [Act.put, List.getElem_toArray, List.getElem_cons_zero, List.getElem_cons_succ, List.setIfInBounds_toArray, List.set_cons_zero, List.set_cons_succ]
      refine wpAnyH_ready (rs := [9, 10]) (by kernel_rfl) (by simp) ?_
      refine AllReadyH.cons rfl (fun K hK => ?_) ?_
      · have k1 := M.rimage_any bz y27 (HW.out.below HBy27.out).z (by omega)
        unfold M.imgC at k1
        go_simp
        refine k1.mono ?_
        rintro e y28 ⟨pb, cb, gr, gc, rfl, hRI, kk⟩
        have HRy28 := S.hid hRI
        have HBy28 := S.hid (bel2 HBy27.out kk)
        have HCy28 := S.hid (And.intro (HCy27.out.1.below kk) HCy27.out.2)
        have HIy28 := S.hid (I3.below HIy27.out kk)
        have s9 := HSW.out _ HBy28.out
        refine hK.out _ _ s9 (fun hHeld => ?_)
        clear hK K s9
        clear k1 hRI kk HBy27 HCy27 HIy27
        try simp only [Act.put, List.getElem_toArray, List.getElem_cons_zero, List.getElem_cons_succ, List.setIfInBounds_toArray, List.set_cons_zero, List.set_cons_succ]
        refine wpAnyH_ready (rs := [10]) (by kernel_rfl) (by simp) ?_
        refine AllReadyH.cons rfl (fun K hK => ?_) AllReadyH.nil
        go_simp
        have kk : Below y28.heap.size y28 (y28.alloc (.cells #[.slice none 0 0, .slice none 0 0, .slice none 0 0, .int .u8 0, .int .u8 0, .int .u16 0, .int .u8 0, .int .u16 0] 108)) := (Below.refl _ _).alloc (Nat.le_refl _) _
        have hz : Zb (y28.alloc (.cells #[.slice none 0 0, .slice none 0 0, .slice none 0 0, .int .u8 0, .int .u8 0, .int .u16 0, .int .u8 0, .int .u16 0] 108)) y28.heap.size 108 := heap_alloc_new y28 _
        generalize y28.alloc (.cells #[.slice none 0 0, .slice none 0 0, .slice none 0 0, .int .u8 0, .int .u8 0, .int .u16 0, .int .u8 0, .int .u16 0] 108) = y29 at *
        have HBy29 := S.hid (bel2 HBy28.out kk)
        have HCy29 := S.hid (And.intro (HCy28.out.1.below kk) HCy28.out.2)
        have HIy29 := S.hid (I3.below HIy28.out kk)
        have HRy29 := S.hid (M.RIm.below HRy28.out kk)
        have s9 := HSW.out _ HBy29.out
        obtain ⟨bA, hbn⟩ : ∃ bA, y28.heap.size = bA := ⟨_, rfl⟩
        have hz2 : Zb y29 bA 108 := by rw [← hbn]; exact hz
        have hlo : Wd.heap.size ≤ bA := by rw [← hbn]; exact HBy28.out.size
        have HAy29 := S.hid (And.intro hz2 hlo)
        rw [hbn]
        refine hK.out _ _ s9 (fun hHeld => ?_)
        clear hK K s9 hbn hz2 hlo
        clear hz kk HBy28 HCy28 HIy28 HRy28
        try simp only [Act.put, List.getElem_toArray, List.getElem_cons_zero, List.getElem_cons_succ, List.setIfInBounds_toArray, List.set_cons_zero, List.set_cons_succ]
        obtain ⟨z1, hF⟩ := MF.make (c1 := c1) (cb := cb) hwf HBy29.out HAy29.out HCy29.out HIy29.out HRy29.out
        have s1 := HSW.out _ (below_setRow HBy29.out HAy29.out.2 (#[.slice p1 (M.inO m 16).length c1, .slice rp m.ram.length rc, .slice sp m.scr.length sc', .int .u8 m.ch, .int .u8 m.pad, .int .u16 m.pitch, .int .u8 m.vol, .int .u16 m.time]))
        have s2 := HSW.out _ hF.bel
        have HFm := S.hid hF
        have hz0 := HAy29.out.1
        clear hF
        refine wpAnyH_ready (rs := [12]) (by kernel_rfl) (by simp) ?_
        refine AllReadyH.cons rfl (fun K hK => ?_) AllReadyH.nil
        refine M.step_store_row rfl 108 (.tmp 3) (.tmp 11) rfl bA (#[.slice p1 (M.inO m 16).length c1, .slice rp m.ram.length rc, .slice sp m.scr.length sc', .int .u8 m.ch, .int .u8 m.pad, .int .u16 m.pitch, .int .u8 m.vol, .int .u16 m.time]) (by simp [Act.eval]) (by simp [Act.eval]) 108 Z8.toArray hz0 (by exact sizeA) (by rfl) (by simp [Value.oneCell']) ?_
        refine hK.out _ _ s1 (fun hHeld => ?_)
        clear hK K
        refine wpAnyH_ready (rs := [13]) (by kernel_rfl) (by simp) ?_
        refine AllReadyH.cons rfl (fun K hK => ?_) AllReadyH.nil
        refine M.step_store_row rfl 110 (.tmp 4) (.tmp 16) rfl bC (#[.slice pb (M.inO m 16).length cb, .slice (some ⟨gr, 0, none⟩) 16384 16384, .slice (some ⟨gc, 0, none⟩) 3072 3072, .int .u8 m.ch, .int .u8 m.pad, .int .u16 m.pitch, .int .u8 m.vol, .int .u16 m.time]) (by simp [Act.eval, Act.put]) (by simp [Act.eval, Act.put]) 110 Z8.toArray z1 (by exact sizeC) (by rfl) (by simp [Value.oneCell']) ?_
        refine hK.out _ _ s2 (fun hHeld => ?_)
        clear hK K
        refine wpAnyH_done (by kernel_rfl) ?_ _
        clear hHeld
        try simp only [Act.put, List.setIfInBounds_toArray, List.set_cons_zero, List.set_cons_succ]
        go_wp2
        go_meet
        case rel => exact ⟨bA, bC, p1, c1, rp, rc, sp, sc', pb, cb, gr, gc, rfl, rfl, HFm.out⟩
      refine AllReadyH.cons rfl (fun K hK => ?_) AllReadyH.nil
      go_simp
      have kk : Below y27.heap.size y27 (y27.alloc (.cells #[.slice none 0 0, .slice none 0 0, .slice none 0 0, .int .u8 0, .int .u8 0, .int .u16 0, .int .u8 0, .int .u16 0] 108)) := (Below.refl _ _).alloc (Nat.le_refl _) _
      have hz : Zb (y27.alloc (.cells #[.slice none 0 0, .slice none 0 0, .slice none 0 0, .int .u8 0, .int .u8 0, .int .u16 0, .int .u8 0, .int .u16 0] 108)) y27.heap.size 108 := heap_alloc_new y27 _
      generalize y27.alloc (.cells #[.slice none 0 0, .slice none 0 0, .slice none 0 0, .int .u8 0, .int .u8 0, .int .u16 0, .int .u8 0, .int .u16 0] 108) = y30 at *
      have HBy30 := S.hid (bel2 HBy27.out kk)
      have HCy30 := S.hid (And.intro (HCy27.out.1.below kk) HCy27.out.2)
      have HIy30 := S.hid (I3.below HIy27.out kk)
      have s9 := HSW.out _ HBy30.out
      obtain ⟨bA, hbn⟩ : ∃ bA, y27.heap.size = bA := ⟨_, rfl⟩
      have hz2 : Zb y30 bA 108 := by rw [← hbn]; exact hz
      have hlo : Wd.heap.size ≤ bA := by rw [← hbn]; exact HBy27.out.size
      have HAy30 := S.hid (And.intro hz2 hlo)
      rw [hbn]
      refine hK.out _ _ s9 (fun hHeld => ?_)
      clear hK K s9 hbn hz2 hlo
      clear hz kk HBy27 HCy27 HIy27
      try simp only [Act.put, List.getElem_toArray, List.getElem_cons_zero, List.getElem_cons_succ, List.setIfInBounds_toArray, List.set_cons_zero, List.set_cons_succ]
      refine wpAnyH_ready (rs := [9]) (by kernel_rfl) (by simp) ?_
      refine AllReadyH.cons rfl (fun K hK => ?_) AllReadyH.nil
      have k1 := M.rimage_any bz y30 (HW.out.below HBy30.out).z (by omega)
      unfold M.imgC at k1
      go_simp
      refine k1.mono ?_
      rintro e y31 ⟨pb, cb, gr, gc, rfl, hRI, kk⟩
      have HRy31 := S.hid hRI
      have HBy31 := S.hid (bel2 HBy30.out kk)
      have HAy31 := S.hid (And.intro (HAy30.out.1.below kk) HAy30.out.2)
      have HCy31 := S.hid (And.intro (HCy30.out.1.below kk) HCy30.out.2)
      have HIy31 := S.hid (I3.below HIy30.out kk)
      have s9 := HSW.out _ HBy31.out
      refine hK.out _ _ s9 (fun hHeld => ?_)
      clear hK K s9
      clear k1 hRI kk HBy30 HAy30 HCy30 HIy30
      try simp only [Act.put, List.getElem_toArray, List.getElem_cons_zero, List.getElem_cons_succ, List.setIfInBounds_toArray, List.set_cons_zero, List.set_cons_succ]
      obtain ⟨z1, hF⟩ := MF.make (c1 := c1) (cb := cb) hwf HBy31.out HAy31.out HCy31.out HIy31.out HRy31.out
      have s1 := HSW.out _ (below_setRow HBy31.out HAy31.out.2 (#[.slice p1 (M.inO m 16).length c1, .slice rp m.ram.length rc, .slice sp m.scr.length sc', .int .u8 m.ch, .int .u8 m.pad, .int .u16 m.pitch, .int .u8 m.vol, .int .u16 m.time]))
      have s2 := HSW.out _ hF.bel
      have HFm := S.hid hF
      have hz0 := HAy31.out.1
      clear hF
      refine wpAnyH_ready (rs := [12]) (by kernel_rfl) (by simp) ?_
      refine AllReadyH.cons rfl (fun K hK => ?_) AllReadyH.nil
      refine M.step_store_row rfl 108 (.tmp 3) (.tmp 11) rfl bA (#[.slice p1 (M.inO m 16).length c1, .slice rp m.ram.length rc, .slice sp m.scr.length sc', .int .u8 m.ch, .int .u8 m.pad, .int .u16 m.pitch, .int .u8 m.vol, .int .u16 m.time]) (by simp [Act.eval]) (by simp [Act.eval]) 108 Z8.toArray hz0 (by exact sizeA) (by rfl) (by simp [Value.oneCell']) ?_
      refine hK.out _ _ s1 (fun hHeld => ?_)
      clear hK K
      refine wpAnyH_ready (rs := [13]) (by kernel_rfl) (by simp) ?_
      refine AllReadyH.cons rfl (fun K hK => ?_) AllReadyH.nil
      refine M.step_store_row rfl 110 (.tmp 4) (.tmp 16) rfl bC (#[.slice pb (M.inO m 16).length cb, .slice (some ⟨gr, 0, none⟩) 16384 16384, .slice (some ⟨gc, 0, none⟩) 3072 3072, .int .u8 m.ch, .int .u8 m.pad, .int .u16 m.pitch, .int .u8 m.vol, .int .u16 m.time]) (by simp [Act.eval, Act.put]) (by simp [Act.eval, Act.put]) 110 Z8.toArray z1 (by exact sizeC) (by rfl) (by simp [Value.oneCell']) ?_
      refine hK.out _ _ s2 (fun hHeld => ?_)
      clear hK K
      refine wpAnyH_done (by kernel_rfl) ?_ _
      clear hHeld
      try simp only [Act.put, List.setIfInBounds_toArray, List.set_cons_zero, List.set_cons_succ]
      go_wp2
      go_meet
      case rel => exact ⟨bA, bC, p1, c1, rp, rc, sp, sc', pb, cb, gr, gc, rfl, rfl, HFm.out⟩
    refine AllReadyH.cons rfl (fun K hK => ?_) AllReadyH.nil
    go_simp
    have kk : Below y26.heap.size y26 (y26.alloc (.cells #[.slice none 0 0, .slice none 0 0, .slice none 0 0, .int .u8 0, .int .u8 0, .int .u16 0, .int .u8 0, .int .u16 0] 108)) := (Below.refl _ _).alloc (Nat.le_refl _) _
    have hz : Zb (y26.alloc (.cells #[.slice none 0 0, .slice none 0 0, .slice none 0 0, .int .u8 0, .int .u8 0, .int .u16 0, .int .u8 0, .int .u16 0] 108)) y26.heap.size 108 := heap_alloc_new y26 _
    generalize y26.alloc (.cells #[.slice none 0 0, .slice none 0 0, .slice none 0 0, .int .u8 0, .int .u8 0, .int .u16 0, .int .u8 0, .int .u16 0] 108) = y32 at *
    have HBy32 := S.hid (bel2 HBy26.out kk)
    have HCy32 := S.hid (And.intro (HCy26.out.1.below kk) HCy26.out.2)
    have s9 := HSW.out _ HBy32.out
    obtain ⟨bA, hbn⟩ : ∃ bA, y26.heap.size = bA := ⟨_, rfl⟩
    have hz2 : Zb y32 bA 108 := by rw [← hbn]; exact hz
    have hlo : Wd.heap.size ≤ bA := by rw [← hbn]; exact HBy26.out.size
    have HAy32 := S.hid (And.intro hz2 hlo)
    rw [hbn]
    refine hK.out _ _ s9 (fun hHeld => ?_)
    clear hK K s9 hbn hz2 hlo
    clear hz kk HBy26 HCy26
    try simp only [Act.put, List.getElem_toArray, List.getElem_cons_zero, List.getElem_cons_succ, List.setIfInBounds_toArray, List.set_cons_zero, List.set_cons_succ]
    refine wpAnyH_ready (rs := [4]) (by kernel_rfl) (by simp) ?_
    refine AllReadyH.cons rfl (fun K hK => ?_) AllReadyH.nil
    have k1 := M.image_has bm y32 (HW.out.below HBy32.out).p.m
    unfold M.imgC at k1
    go_simp
    refine k1.mono ?_
    rintro e y33 ⟨u, rv, sv, gs9, N1, N2, rfl, hIm, kk⟩
    obtain ⟨p1, c1, rp, rc, sp, sc', rfl, rfl, rfl, hbn, hr, hs⟩ := ImO_forms hIm (fun t ht => by have := hfu t ht; unfold M.room; omega)
    have HIy33 := S.hid (show I3 y33 p1 rp rc sp sc' m from ⟨hbn, hr, hs⟩)
    have HBy33 := S.hid (bel2 HBy32.out kk)
    have HAy33 := S.hid (And.intro (HAy32.out.1.below kk) HAy32.out.2)
    have HCy33 := S.hid (And.intro (HCy32.out.1.below kk) HCy32.out.2)
    have s9 := HSW.out _ HBy33.out
    refine hK.out _ _ s9 (fun hHeld => ?_)
    clear hK K s9
    clear k1 hIm hbn hr hs kk HBy32 HAy32 HCy32
    try simp only [Act.put, List.getElem_toArray, List.getElem_cons_zero, List.getElem_cons_succ, List.setIfInBounds_toArray, List.set_cons_zero, List.set_cons_succ]
    refine wpAnyH_ready (rs := [9]) (by kernel_rfl) (by simp) ?_
    refine AllReadyH.cons rfl (fun K hK => ?_) AllReadyH.nil
    have k1 := M.rimage_any bz y33 (HW.out.below HBy33.out).z (by omega)
    unfold M.imgC at k1
    go_simp
    refine k1.mono ?_
    rintro e y34 ⟨pb, cb, gr, gc, rfl, hRI, kk⟩
    have HRy34 := S.hid hRI
    have HBy34 := S.hid (bel2 HBy33.out kk)
    have HAy34 := S.hid (And.intro (HAy33.out.1.below kk) HAy33.out.2)
    have HCy34 := S.hid (And.intro (HCy33.out.1.below kk) HCy33.out.2)
    have HIy34 := S.hid (I3.below HIy33.out kk)
    have s9 := HSW.out _ HBy34.out
    refine hK.out _ _ s9 (fun hHeld => ?_)
    clear hK K s9
    clear k1 hRI kk HBy33 HAy33 HCy33 HIy33
    try simp only [Act.put, List.getElem_toArray, List.getElem_cons_zero, List.getElem_cons_succ, List.setIfInBounds_toArray, List.set_cons_zero, List.set_cons_succ]
    obtain ⟨z1, hF⟩ := MF.make (c1 := c1) (cb := cb) hwf HBy34.out HAy34.out HCy34.out HIy34.out HRy34.out
    have s1 := HSW.out _ (below_setRow HBy34.out HAy34.out.2 (#[.slice p1 (M.inO m 16).length c1, .slice rp m.ram.length rc, .slice sp m.scr.length sc', .int .u8 m.ch, .int .u8 m.pad, .int .u16 m.pitch, .int .u8 m.vol, .int .u16 m.time]))
    have s2 := HSW.out _ hF.bel
    have HFm := S.hid hF
    have hz0 := HAy34.out.1
    clear hF
    refine wpAnyH_ready (rs := [12]) (by kernel_rfl) (by simp) ?_
    refine AllReadyH.cons rfl (fun K hK => ?_) AllReadyH.nil
    refine M.step_store_row rfl 108 (.tmp 3) (.tmp 11) rfl bA (#[.slice p1 (M.inO m 16).length c1, .slice rp m.ram.length rc, .slice sp m.scr.length sc', .int .u8 m.ch, .int .u8 m.pad, .int .u16 m.pitch, .int .u8 m.vol, .int .u16 m.time]) (by simp [Act.eval]) (by simp [Act.eval]) 108 Z8.toArray hz0 (by exact sizeA) (by rfl) (by simp [Value.oneCell']) ?_
    refine hK.out _ _ s1 (fun hHeld => ?_)
    clear hK K
    refine wpAnyH_ready (rs := [13]) (by kernel_rfl) (by simp) ?_
    refine AllReadyH.cons rfl (fun K hK => ?_) AllReadyH.nil
    refine M.step_store_row rfl 110 (.tmp 4) (.tmp 16) rfl bC (#[.slice pb (M.inO m 16).length cb, .slice (some ⟨gr, 0, none⟩) 16384 16384, .slice (some ⟨gc, 0, none⟩) 3072 3072, .int .u8 m.ch, .int .u8 m.pad, .int .u16 m.pitch, .int .u8 m.vol, .int .u16 m.time]) (by simp [Act.eval, Act.put]) (by simp [Act.eval, Act.put]) 110 Z8.toArray z1 (by exact sizeC) (by rfl) (by simp [Value.oneCell']) ?_
    refine hK.out _ _ s2 (fun hHeld => ?_)
    clear hK K
    refine wpAnyH_done (by kernel_rfl) ?_ _
    clear hHeld
    try simp only [Act.put, List.setIfInBounds_toArray, List.set_cons_zero, List.set_cons_succ]
    go_wp2
    go_meet
    case rel => exact ⟨bA, bC, p1, c1, rp, rc, sp, sc', pb, cb, gr, gc, rfl, rfl, HFm.out⟩
  case rest =>
    obtain ⟨bA, bC, p1, c1, rp, rc, sp, sc', pb, cb, gr, gc, rfl, rfl, hF⟩ := hcut
    have hrl : m.ram.length = 16384 := hwf.ram
    have hsl : m.scr.length = 3072 := hwf.scr
    obtain ⟨f0, f1, f2, f3, f4, f5, f6, f7⟩ := cells8' hF.a
    obtain ⟨g0, g1, g2, g3, g4, g5, g6, g7⟩ := cells8' hF.c
    have hc3 := M.sameImage_any p1 pb c1 cb (M.inO m 16) (by unfold M.room; omega) (.slice rp m.ram.length rc) (.slice (some ⟨gr, 0, none⟩) 16384 16384) (.slice sp m.scr.length sc') (.slice (some ⟨gc, 0, none⟩) 3072 3072) m.ram m.scr m wc hF.i.1 hF.r.bn hF.i.2.1 hF.r.ram hF.i.2.2 hF.r.scr
    unfold M.img at hc3
    have HFm := S.hid hF.bel
    clear hF hrl hsl
    go_wp2_with fail
    refine hc3.mono ?_
    rintro e w4 ⟨rfl, hB4⟩
    have hA4 := bel2 HFm.out hB4
    have hW4 := HW.out.below hA4
    obtain ⟨d0, d1, d2, d3, d4, d5⟩ := hW4.c6
    have k5 := M.tones_any bm w4 hW4.p.m (by omega)
    have HA4 := S.hid hA4
    clear hc3 hB4 hA4 hW4 f0 f1 f2 f3 f4 f5 f6 f7 g0 g1 g2 g3 g4 g5 g6 g7
    go_wp2_with fail
    refine k5.mono ?_
    rintro e w5 ⟨u5, rfl, hu5, hB5⟩
    obtain ⟨up, uc, rfl⟩ := M.own_form hu5
    have hA5 := bel2 HA4.out hB5
    have hW5 := HW.out.below hA5
    obtain ⟨e0, e1, e2, e3, e4, e5⟩ := hW5.c6
    obtain ⟨hw2, u0, gr0, gc0, gs0, tv, hR⟩ := hW5.z
    obtain ⟨tp, tq, etv⟩ := M.own_form hR.tones
    subst etv
    have z9 := M.cell_of w5 bz 9 _ 54 _ hR.blk rfl
    have k6 := M.sameTones_any _ _ m.tones (by unfold M.room; omega) w5 hu5 hR.tones
    have HA5 := S.hid hA5
    clear k5 hu5 hB5 hA5 hW5 hw2 hR d0 d1 d2 d3 d4 d5
    go_wp2_with fail
    refine k6.mono ?_
    rintro e w6 ⟨rfl, q6, hw6⟩
    have hB6 : Below w5.heap.size w5 w6 := by rw [hw6]; exact ⟨rfl, rfl, rfl, Nat.le_refl _, fun _ _ => rfl⟩
    have HA6 := S.hid (bel2 ((Below.refl _ W).drew) (bel2 HA5.out hB6))
    clear k6 hB6 hw6 z9 e0 e1 e2 e3 e4 e5
    go_wp2
    go_ret
    exact ⟨rfl, HA6.out⟩
end Go.Proofs.YtgponcjjnjpfkabGreat.L
