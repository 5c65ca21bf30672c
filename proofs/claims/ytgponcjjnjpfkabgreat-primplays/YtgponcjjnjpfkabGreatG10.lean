import Derived.Test.YtgponcjjnjpfkabGreatG9
import Derived.Deep.RegionHeld
/-! The reference's memory. -/
namespace Go.Proofs.YtgponcjjnjpfkabGreat.L
open Go.RowKit
open Go.Proofs
open P
set_option linter.unusedVariables false
set_option linter.unusedSimpArgs false
set_option maxHeartbeats 4000000
set_option maxRecDepth 100000
theorem b8_cv (v : Int) : IntKind.u8.wrap v = M.bt (M.b8 v) := by rw [M.bt_b8]; simp [IntKind.wrap, IntKind.bits, IntKind.signed]
theorem u16_id (v : Int) (h : 0 ≤ v ∧ v < 256) : IntKind.u16.wrap v = v := by simp [IntKind.wrap, IntKind.bits, IntKind.signed]; omega
theorem cl_C (m : M.MS) (h : M.Wf m) (z : Int) : 0 ≤ M.cl m z ∧ M.cl m z < 65536 := by
  have h1 := M.ld_bound m h z
  have h2 := M.ld_bound m h ((z + 1) % 65536)
  unfold M.cl; omega
theorem pad_cell {w : World} {G : Nat → Prop} {b : Nat} {m : M.MS} (h : M.IsR w G b m) : w.cell? ⟨b, 4, none⟩ = some (.int .u8 m.pad) ∧ 0 ≤ m.pad ∧ m.pad < 256 := by
  obtain ⟨wf, u, gr, gc, gs, tv, hm⟩ := h
  exact ⟨S.cell_of w b 4 _ _ _ hm.blk rfl, wf.pad0, wf.pad1⟩
theorem RDa {w w1 : World} {G : Nat → Prop} {b : Nat} {m : M.MS} (h : M.RD w w1 G b m) (o : Obj) : M.RD w (w1.alloc o) G b m := h.next (M.RD.same h.1 ((Below.refl _ w1).alloc (Nat.le_refl _) o))
theorem me_50 (g c : Nat) (hc : 1 ≤ c) (x : Int) (cx : C.C x) (bz : Nat) {G : Nat → Prop} {m : M.MS} (hg : ¬ G g) (w : World) (h0 : w.cell? ⟨g, 0, none⟩ = some (.int .u16 x)) (hm : M.IsR w G bz m) (ht : m.tones.length ≤ 999000) :
    Calls Tryz.prog 58 #[.int .i64 50, .slice (some ⟨g, 0, none⟩) 1 c, .pointer (some ⟨bz, 0, none⟩)] w fun e w' => ∃ v, e = .returned v ∧ S.Ls S.eU 1 w' v [M.cl m x] ∧ M.RD w w' G bz (m) := by
  have wf := hm.1
  have kc := M.rcell_any bz x cx.1 cx.2 w hm
  have HM := S.hid hm
  clear hm wf
  go_enter Tryz.func58, Tryz.ntmps58
  go_wp2_with fail
  refine kc.mono ?_
  rintro e w1 ⟨rfl, hb⟩
  have HF := S.hid (RDa (M.RD.same HM.out hb) (.cells #[.int .u16 (M.cl m x)] 31))
  clear kc hb HM
  go_wp2
  go_ret
  exact ⟨_, rfl, one_ls w1 (M.cl m x), HF.out⟩
theorem me_52 (g c : Nat) (hc : 1 ≤ c) (x : Int) (cx : C.C x) (bz : Nat) {G : Nat → Prop} {m : M.MS} (hg : ¬ G g) (w : World) (h0 : w.cell? ⟨g, 0, none⟩ = some (.int .u16 x)) (hm : M.IsR w G bz m) (ht : m.tones.length ≤ 999000) :
    Calls Tryz.prog 58 #[.int .i64 52, .slice (some ⟨g, 0, none⟩) 1 c, .pointer (some ⟨bz, 0, none⟩)] w fun e w' => ∃ v, e = .returned v ∧ S.Ls S.eU 1 w' v [M.ld m x] ∧ M.RD w w' G bz (m) := by
  have wf := hm.1
  have hv := u16_id _ (M.ld_bound m wf x)
  have kc := M.rload_any bz x cx.1 cx.2 w hm
  have HM := S.hid hm
  clear hm wf
  go_enter Tryz.func58, Tryz.ntmps58
  go_wp2_with fail
  refine kc.mono ?_
  rintro e w1 ⟨rfl, hb⟩
  have HF := S.hid (RDa (M.RD.same HM.out hb) (.cells #[.int .u16 (M.ld m x)] 31))
  clear kc hb HM
  go_wp2
  go_ret
  exact ⟨_, rfl, one_ls w1 (M.ld m x), HF.out⟩
theorem me_61 (xv : Value)  (bz : Nat) {G : Nat → Prop} {m : M.MS} (w : World)  (hm : M.IsR w G bz m) (ht : m.tones.length ≤ 999000) :
    Calls Tryz.prog 58 #[.int .i64 61, xv, .pointer (some ⟨bz, 0, none⟩)] w fun e w' => ∃ v, e = .returned v ∧ S.Ls S.eU 1 w' v [m.pad] ∧ M.RD w w' G bz (m) := by
  obtain ⟨pc, pb⟩ := pad_cell hm
  have hv := u16_id _ pb
  have HM := S.hid hm
  clear hm pb
  go_enter Tryz.func58, Tryz.ntmps58
  go_wp2
  go_ret
  exact ⟨_, rfl, one_ls w m.pad, M.RD.same HM.out ((Below.refl _ w).alloc (Nat.le_refl _) _)⟩
theorem me_63 (g c : Nat) (hc : 1 ≤ c) (x : Int) (cx : C.C x) (bz : Nat) {G : Nat → Prop} {m : M.MS} (hg : ¬ G g) (w : World) (h0 : w.cell? ⟨g, 0, none⟩ = some (.int .u16 x)) (hm : M.IsR w G bz m) (ht : m.tones.length ≤ 999000) :
    Calls Tryz.prog 58 #[.int .i64 63, .slice (some ⟨g, 0, none⟩) 1 c, .pointer (some ⟨bz, 0, none⟩)] w fun e w' => ∃ v, e = .returned v ∧ S.Ls S.eU 1 w' v [] ∧ M.RD w w' G bz (M.st m 65280 (M.b8 x)) := by
  have kc := M.rchoose_any bz x w hm (by omega)
  clear hm
  go_enter Tryz.func58, Tryz.ntmps58
  go_wp2_with fail
  refine kc.mono ?_
  rintro e w1 ⟨rfl, hb⟩
  have HF := S.hid hb
  clear kc hb
  go_wp2
  go_ret
  exact ⟨_, rfl, nil_ls _, HF.out⟩
theorem RDm {w w1 : World} {G : Nat → Prop} {b : Nat} {m' : M.MS} (h : M.RD w.drew w1 G b m') : M.RD w.drew w1 (M.gr G w w.drew) b m' :=
  ⟨h.1.mono (fun i _ f => by
      rcases f with f | f
      · exact .inl (.inl f)
      · exact .inr f), ⟨h.2.os, h.2.tape, h.2.output, h.2.size, fun k hk hn => h.2.block k hk fun f => hn (.inl f)⟩⟩
theorem me_51 (g c : Nat) (hc : 2 ≤ c) (x y : Int) (cx : C.C x) (cy : C.C y) (bz : Nat) {G : Nat → Prop} {m : M.MS} (hg : ¬ G g) (w : World) (h0 : w.cell? ⟨g, 0, none⟩ = some (.int .u16 x)) (h1 : w.cell? ⟨g, 1, none⟩ = some (.int .u16 y)) (hm : M.IsR w G bz m) (ht : m.tones.length ≤ 999000) :
    Calls Tryz.prog 58 #[.int .i64 51, .slice (some ⟨g, 0, none⟩) 2 c, .pointer (some ⟨bz, 0, none⟩)] w fun e w' => ∃ v, e = .returned v ∧ S.Ls S.eU 1 w' v [] ∧ M.RD w w' G bz (M.sc m y x) := by
  have hgl : g < w.heap.size := World.block_lt_of_cell? w _ h0
  have sA : ∀ W', (∀ k, k = g → W'.heap[k]? = w.heap[k]?) → (fun w' : World => w'.cell? ⟨g, 0, none⟩ = some (.int .u16 x) ∧ w'.cell? ⟨g, 1, none⟩ = some (.int .u16 y)) W' := fun W' k => ⟨(World.cell?_of_block (w := w) (k g rfl)).trans h0, (World.cell?_of_block (w := w) (k g rfl)).trans h1⟩
  have s0 := sA w.drew (fun k _ => rfl)
  have hmd : M.IsR w.drew G bz m := hm.below ((Below.refl _ w).drew)
  have kc := M.rsetCell_any bz y cy.1 cy.2 x cx.1 cx.2 w.drew hmd (by omega)
  have HSA := S.hid sA
  have HM := S.hid hm
  have HG := S.hid hgl
  clear hm hmd sA hgl h0 h1
  go_enter Tryz.func58, Tryz.ntmps58
  go_upto_region 5 with fail
  try simp only [Act.put, List.getElem_toArray, List.getElem_cons_zero, List.getElem_cons_succ, List.setIfInBounds_toArray, List.set_cons_zero, List.set_cons_succ]
  refine wp_region_held_drew (S := (fun w' : World => w'.cell? ⟨g, 0, none⟩ = some (.int .u16 x) ∧ w'.cell? ⟨g, 1, none⟩ = some (.int .u16 y))) (by kernel_rfl) s0 (fun hHeld => ?_)
  clear s0
  refine wpAnyH_take (i := 0) (v := ?_) rfl (by kernel_rfl) (by kernel_rfl) (by kernel_rfl) (fun c a w h => h) (Or.inl ⟨by rfl, ?_⟩) hHeld ?_
  rotate_left
  · (intro w hSw; (try dsimp only at hSw); go_simp; try with_reducible rfl)
  simp only [Act.put, List.getElem_toArray, List.getElem_cons_zero, List.getElem_cons_succ, List.setIfInBounds_toArray, List.set_cons_zero, List.set_cons_succ]
  refine wpAnyH_take (i := 1) (v := ?_) rfl (by kernel_rfl) (by kernel_rfl) (by kernel_rfl) (fun c a w h => h) (Or.inl ⟨by rfl, ?_⟩) hHeld ?_
  rotate_left
  · (intro w hSw; (try dsimp only at hSw); go_simp; try with_reducible rfl)
  simp only [Act.put, List.getElem_toArray, List.getElem_cons_zero, List.getElem_cons_succ, List.setIfInBounds_toArray, List.set_cons_zero, List.set_cons_succ]
  refine wpAnyH_take (i := 2) (v := ?_) rfl (by kernel_rfl) (by kernel_rfl) (by kernel_rfl) (fun c a w h => h) (Or.inl ⟨by rfl, ?_⟩) hHeld ?_
  rotate_left
  · (intro w hSw; (try dsimp only at hSw); go_simp; try with_reducible rfl)
  simp only [Act.put, List.getElem_toArray, List.getElem_cons_zero, List.getElem_cons_succ, List.setIfInBounds_toArray, List.set_cons_zero, List.set_cons_succ]
  refine wpAnyH_take (i := 3) (v := ?_) rfl (by kernel_rfl) (by kernel_rfl) (by kernel_rfl) (fun c a w h => h) (Or.inl ⟨by rfl, ?_⟩) hHeld ?_
  rotate_left
  · (intro w hSw; (try dsimp only at hSw); go_simp; try with_reducible rfl)
  simp only [Act.put, List.getElem_toArray, List.getElem_cons_zero, List.getElem_cons_succ, List.setIfInBounds_toArray, List.set_cons_zero, List.set_cons_succ]
  refine wpAnyH_take (i := 4) (v := ?_) rfl (by kernel_rfl) (by kernel_rfl) (by kernel_rfl) (fun c a w h => h) (Or.inl ⟨by rfl, ?_⟩) hHeld ?_
  rotate_left
  · (intro w hSw; (try dsimp only at hSw); go_simp; try with_reducible rfl)
  simp only [Act.put, List.getElem_toArray, List.getElem_cons_zero, List.getElem_cons_succ, List.setIfInBounds_toArray, List.set_cons_zero, List.set_cons_succ]
  refine wpAnyH_take (i := 5) (v := ?_) rfl (by kernel_rfl) (by kernel_rfl) (by kernel_rfl) (fun c a w h => h) (Or.inl ⟨by rfl, ?_⟩) hHeld ?_
  rotate_left
  · (intro w hSw; (try dsimp only at hSw); go_simp; try with_reducible rfl)
  simp only [Act.put, List.getElem_toArray, List.getElem_cons_zero, List.getElem_cons_succ, List.setIfInBounds_toArray, List.set_cons_zero, List.set_cons_succ]
  refine wpAnyH_take (i := 6) (v := ?_) rfl (by kernel_rfl) (by kernel_rfl) (by kernel_rfl) (fun c a w h => h) (Or.inl ⟨by rfl, ?_⟩) hHeld ?_
  rotate_left
  · (intro w hSw; (try dsimp only at hSw); go_simp; try with_reducible rfl)
  simp only [Act.put, List.getElem_toArray, List.getElem_cons_zero, List.getElem_cons_succ, List.setIfInBounds_toArray, List.set_cons_zero, List.set_cons_succ]
  refine wpAnyH_ready (rs := [7]) (by kernel_rfl) (by simp) ?_
  refine AllReadyH.cons rfl (fun K hK => ?_) AllReadyH.nil
  go_simp
  refine kc.mono ?_
  rintro e w1 ⟨rfl, hb⟩
  have s2 := HSA.out w1 (fun k e => by subst e; exact hb.2.block k HG.out hg)
  have HF := S.hid ((M.RD.same HM.out ((Below.refl _ w).drew)).next (show M.RD w.drew w1 (M.gr G w w.drew) bz _ from RDm hb))
  clear kc hb
  refine hK.out _ _ s2 (fun hHeld => ?_)
  clear hK K
  refine wpAnyH_done (by kernel_rfl) ?_ _
  clear hHeld s2 HSA
  try simp only [Act.put, List.getElem_toArray, List.getElem_cons_zero, List.getElem_cons_succ, List.setIfInBounds_toArray, List.set_cons_zero, List.set_cons_succ]
  go_wp2
  go_ret
  exact ⟨_, rfl, nil_ls _, HF.out⟩
theorem me_53 (g c : Nat) (hc : 2 ≤ c) (x y : Int) (cx : C.C x) (cy : C.C y) (bz : Nat) {G : Nat → Prop} {m : M.MS} (hg : ¬ G g) (w : World) (h0 : w.cell? ⟨g, 0, none⟩ = some (.int .u16 x)) (h1 : w.cell? ⟨g, 1, none⟩ = some (.int .u16 y)) (hm : M.IsR w G bz m) (ht : m.tones.length ≤ 999000) :
    Calls Tryz.prog 58 #[.int .i64 53, .slice (some ⟨g, 0, none⟩) 2 c, .pointer (some ⟨bz, 0, none⟩)] w fun e w' => ∃ v, e = .returned v ∧ S.Ls S.eU 1 w' v [] ∧ M.RD w w' G bz (M.st m y (M.b8 x)) := by
  have hgl : g < w.heap.size := World.block_lt_of_cell? w _ h0
  have sA : ∀ W', (∀ k, k = g → W'.heap[k]? = w.heap[k]?) → (fun w' : World => w'.cell? ⟨g, 0, none⟩ = some (.int .u16 x) ∧ w'.cell? ⟨g, 1, none⟩ = some (.int .u16 y)) W' := fun W' k => ⟨(World.cell?_of_block (w := w) (k g rfl)).trans h0, (World.cell?_of_block (w := w) (k g rfl)).trans h1⟩
  have s0 := sA w.drew (fun k _ => rfl)
  have hmd : M.IsR w.drew G bz m := hm.below ((Below.refl _ w).drew)
  have hv := b8_cv x
  have kc := M.rstore_any bz y cy.1 cy.2 (M.b8 x) w.drew hmd (by omega)
  have HSA := S.hid sA
  have HM := S.hid hm
  have HG := S.hid hgl
  clear hm hmd sA hgl h0 h1
  go_enter Tryz.func58, Tryz.ntmps58
  go_upto_region 9 with fail
  try simp only [Act.put, List.getElem_toArray, List.getElem_cons_zero, List.getElem_cons_succ, List.setIfInBounds_toArray, List.set_cons_zero, List.set_cons_succ]
  refine wp_region_held_drew (S := (fun w' : World => w'.cell? ⟨g, 0, none⟩ = some (.int .u16 x) ∧ w'.cell? ⟨g, 1, none⟩ = some (.int .u16 y))) (by kernel_rfl) s0 (fun hHeld => ?_)
  clear s0
  refine wpAnyH_take (i := 0) (v := ?_) rfl (by kernel_rfl) (by kernel_rfl) (by kernel_rfl) (fun c a w h => h) (Or.inl ⟨by rfl, ?_⟩) hHeld ?_
  rotate_left
  · (intro w hSw; (try dsimp only at hSw); go_simp; try with_reducible rfl)
  simp only [Act.put, List.getElem_toArray, List.getElem_cons_zero, List.getElem_cons_succ, List.setIfInBounds_toArray, List.set_cons_zero, List.set_cons_succ]
  refine wpAnyH_take (i := 1) (v := ?_) rfl (by kernel_rfl) (by kernel_rfl) (by kernel_rfl) (fun c a w h => h) (Or.inl ⟨by rfl, ?_⟩) hHeld ?_
  rotate_left
  · (intro w hSw; (try dsimp only at hSw); go_simp; try with_reducible rfl)
  simp only [Act.put, List.getElem_toArray, List.getElem_cons_zero, List.getElem_cons_succ, List.setIfInBounds_toArray, List.set_cons_zero, List.set_cons_succ]
  refine wpAnyH_take (i := 2) (v := ?_) rfl (by kernel_rfl) (by kernel_rfl) (by kernel_rfl) (fun c a w h => h) (Or.inl ⟨by rfl, ?_⟩) hHeld ?_
  rotate_left
  · (intro w hSw; (try dsimp only at hSw); go_simp; try with_reducible rfl)
  simp only [Act.put, List.getElem_toArray, List.getElem_cons_zero, List.getElem_cons_succ, List.setIfInBounds_toArray, List.set_cons_zero, List.set_cons_succ]
  refine wpAnyH_take (i := 3) (v := ?_) rfl (by kernel_rfl) (by kernel_rfl) (by kernel_rfl) (fun c a w h => h) (Or.inl ⟨by rfl, ?_⟩) hHeld ?_
  rotate_left
  · (intro w hSw; (try dsimp only at hSw); go_simp; try with_reducible rfl)
  simp only [Act.put, List.getElem_toArray, List.getElem_cons_zero, List.getElem_cons_succ, List.setIfInBounds_toArray, List.set_cons_zero, List.set_cons_succ]
  refine wpAnyH_take (i := 4) (v := ?_) rfl (by kernel_rfl) (by kernel_rfl) (by kernel_rfl) (fun c a w h => h) (Or.inl ⟨by rfl, ?_⟩) hHeld ?_
  rotate_left
  · (intro w hSw; (try dsimp only at hSw); go_simp; try with_reducible rfl)
  simp only [Act.put, List.getElem_toArray, List.getElem_cons_zero, List.getElem_cons_succ, List.setIfInBounds_toArray, List.set_cons_zero, List.set_cons_succ]
  refine wpAnyH_take (i := 5) (v := ?_) rfl (by kernel_rfl) (by kernel_rfl) (by kernel_rfl) (fun c a w h => h) (Or.inl ⟨by rfl, ?_⟩) hHeld ?_
  rotate_left
  · (intro w hSw; (try dsimp only at hSw); go_simp; try with_reducible rfl)
  simp only [Act.put, List.getElem_toArray, List.getElem_cons_zero, List.getElem_cons_succ, List.setIfInBounds_toArray, List.set_cons_zero, List.set_cons_succ]
  refine wpAnyH_take (i := 6) (v := ?_) rfl (by kernel_rfl) (by kernel_rfl) (by kernel_rfl) (fun c a w h => h) (Or.inl ⟨by rfl, ?_⟩) hHeld ?_
  rotate_left
  · (intro w hSw; (try dsimp only at hSw); go_simp; try with_reducible rfl)
  simp only [Act.put, List.getElem_toArray, List.getElem_cons_zero, List.getElem_cons_succ, List.setIfInBounds_toArray, List.set_cons_zero, List.set_cons_succ]
  refine wpAnyH_take (i := 7) (v := ?_) rfl (by kernel_rfl) (by kernel_rfl) (by kernel_rfl) (fun c a w h => h) (Or.inl ⟨by rfl, ?_⟩) hHeld ?_
  rotate_left
  · (intro w hSw; (try dsimp only at hSw); go_simp; try with_reducible rfl)
  simp only [Act.put, List.getElem_toArray, List.getElem_cons_zero, List.getElem_cons_succ, List.setIfInBounds_toArray, List.set_cons_zero, List.set_cons_succ]
  refine wpAnyH_ready (rs := [8]) (by kernel_rfl) (by simp) ?_
  refine AllReadyH.cons rfl (fun K hK => ?_) AllReadyH.nil
  go_simp
  refine kc.mono ?_
  rintro e w1 ⟨rfl, hb⟩
  have s2 := HSA.out w1 (fun k e => by subst e; exact hb.2.block k HG.out hg)
  have HF := S.hid ((M.RD.same HM.out ((Below.refl _ w).drew)).next (show M.RD w.drew w1 (M.gr G w w.drew) bz _ from RDm hb))
  clear kc hb
  refine hK.out _ _ s2 (fun hHeld => ?_)
  clear hK K
  refine wpAnyH_done (by kernel_rfl) ?_ _
  clear hHeld s2 HSA
  try simp only [Act.put, List.getElem_toArray, List.getElem_cons_zero, List.getElem_cons_succ, List.setIfInBounds_toArray, List.set_cons_zero, List.set_cons_succ]
  go_wp2
  go_ret
  exact ⟨_, rfl, nil_ls _, HF.out⟩
theorem me_60 (g c : Nat) (hc : 3 ≤ c) (x y z : Int) (cx : C.C x) (cy : C.C y) (cz : C.C z) (bz : Nat) {G : Nat → Prop} {m : M.MS} (hg : ¬ G g) (w : World) (h0 : w.cell? ⟨g, 0, none⟩ = some (.int .u16 x)) (h1 : w.cell? ⟨g, 1, none⟩ = some (.int .u16 y)) (h2 : w.cell? ⟨g, 2, none⟩ = some (.int .u16 z)) (hm : M.IsR w G bz m) (ht : m.tones.length ≤ 999000) :
    Calls Tryz.prog 58 #[.int .i64 60, .slice (some ⟨g, 0, none⟩) 3 c, .pointer (some ⟨bz, 0, none⟩)] w fun e w' => ∃ v, e = .returned v ∧ S.Ls S.eU 1 w' v [] ∧ M.RD w w' G bz (M.plt m x y z) := by
  have hgl : g < w.heap.size := World.block_lt_of_cell? w _ h0
  have sA : ∀ W', (∀ k, k = g → W'.heap[k]? = w.heap[k]?) → (fun w' : World => w'.cell? ⟨g, 0, none⟩ = some (.int .u16 x) ∧ w'.cell? ⟨g, 1, none⟩ = some (.int .u16 y) ∧ w'.cell? ⟨g, 2, none⟩ = some (.int .u16 z)) W' := fun W' k => ⟨(World.cell?_of_block (w := w) (k g rfl)).trans h0, (World.cell?_of_block (w := w) (k g rfl)).trans h1, (World.cell?_of_block (w := w) (k g rfl)).trans h2⟩
  have s0 := sA w.drew (fun k _ => rfl)
  have hmd : M.IsR w.drew G bz m := hm.below ((Below.refl _ w).drew)
  have kc := M.rplot_any bz x y z cx.1 cx.2 cy.1 cy.2 w.drew hmd (by omega)
  have HSA := S.hid sA
  have HM := S.hid hm
  have HG := S.hid hgl
  clear hm hmd sA hgl h0 h1 h2
  go_enter Tryz.func58, Tryz.ntmps58
  go_upto_region 13 with fail
  try simp only [Act.put, List.getElem_toArray, List.getElem_cons_zero, List.getElem_cons_succ, List.setIfInBounds_toArray, List.set_cons_zero, List.set_cons_succ]
  refine wp_region_held_drew (S := (fun w' : World => w'.cell? ⟨g, 0, none⟩ = some (.int .u16 x) ∧ w'.cell? ⟨g, 1, none⟩ = some (.int .u16 y) ∧ w'.cell? ⟨g, 2, none⟩ = some (.int .u16 z))) (by kernel_rfl) s0 (fun hHeld => ?_)
  clear s0
  refine wpAnyH_take (i := 0) (v := ?_) rfl (by kernel_rfl) (by kernel_rfl) (by kernel_rfl) (fun c a w h => h) (Or.inl ⟨by rfl, ?_⟩) hHeld ?_
  rotate_left
  · (intro w hSw; (try dsimp only at hSw); go_simp; try with_reducible rfl)
  simp only [Act.put, List.getElem_toArray, List.getElem_cons_zero, List.getElem_cons_succ, List.setIfInBounds_toArray, List.set_cons_zero, List.set_cons_succ]
  refine wpAnyH_take (i := 1) (v := ?_) rfl (by kernel_rfl) (by kernel_rfl) (by kernel_rfl) (fun c a w h => h) (Or.inl ⟨by rfl, ?_⟩) hHeld ?_
  rotate_left
  · (intro w hSw; (try dsimp only at hSw); go_simp; try with_reducible rfl)
  simp only [Act.put, List.getElem_toArray, List.getElem_cons_zero, List.getElem_cons_succ, List.setIfInBounds_toArray, List.set_cons_zero, List.set_cons_succ]
  refine wpAnyH_take (i := 2) (v := ?_) rfl (by kernel_rfl) (by kernel_rfl) (by kernel_rfl) (fun c a w h => h) (Or.inl ⟨by rfl, ?_⟩) hHeld ?_
  rotate_left
  · (intro w hSw; (try dsimp only at hSw); go_simp; try with_reducible rfl)
  simp only [Act.put, List.getElem_toArray, List.getElem_cons_zero, List.getElem_cons_succ, List.setIfInBounds_toArray, List.set_cons_zero, List.set_cons_succ]
  refine wpAnyH_take (i := 3) (v := ?_) rfl (by kernel_rfl) (by kernel_rfl) (by kernel_rfl) (fun c a w h => h) (Or.inl ⟨by rfl, ?_⟩) hHeld ?_
  rotate_left
  · (intro w hSw; (try dsimp only at hSw); go_simp; try with_reducible rfl)
  simp only [Act.put, List.getElem_toArray, List.getElem_cons_zero, List.getElem_cons_succ, List.setIfInBounds_toArray, List.set_cons_zero, List.set_cons_succ]
  refine wpAnyH_take (i := 4) (v := ?_) rfl (by kernel_rfl) (by kernel_rfl) (by kernel_rfl) (fun c a w h => h) (Or.inl ⟨by rfl, ?_⟩) hHeld ?_
  rotate_left
  · (intro w hSw; (try dsimp only at hSw); go_simp; try with_reducible rfl)
  simp only [Act.put, List.getElem_toArray, List.getElem_cons_zero, List.getElem_cons_succ, List.setIfInBounds_toArray, List.set_cons_zero, List.set_cons_succ]
  refine wpAnyH_take (i := 5) (v := ?_) rfl (by kernel_rfl) (by kernel_rfl) (by kernel_rfl) (fun c a w h => h) (Or.inl ⟨by rfl, ?_⟩) hHeld ?_
  rotate_left
  · (intro w hSw; (try dsimp only at hSw); go_simp; try with_reducible rfl)
  simp only [Act.put, List.getElem_toArray, List.getElem_cons_zero, List.getElem_cons_succ, List.setIfInBounds_toArray, List.set_cons_zero, List.set_cons_succ]
  refine wpAnyH_take (i := 6) (v := ?_) rfl (by kernel_rfl) (by kernel_rfl) (by kernel_rfl) (fun c a w h => h) (Or.inl ⟨by rfl, ?_⟩) hHeld ?_
  rotate_left
  · (intro w hSw; (try dsimp only at hSw); go_simp; try with_reducible rfl)
  simp only [Act.put, List.getElem_toArray, List.getElem_cons_zero, List.getElem_cons_succ, List.setIfInBounds_toArray, List.set_cons_zero, List.set_cons_succ]
  refine wpAnyH_take (i := 7) (v := ?_) rfl (by kernel_rfl) (by kernel_rfl) (by kernel_rfl) (fun c a w h => h) (Or.inl ⟨by rfl, ?_⟩) hHeld ?_
  rotate_left
  · (intro w hSw; (try dsimp only at hSw); go_simp; try with_reducible rfl)
  simp only [Act.put, List.getElem_toArray, List.getElem_cons_zero, List.getElem_cons_succ, List.setIfInBounds_toArray, List.set_cons_zero, List.set_cons_succ]
  refine wpAnyH_take (i := 8) (v := ?_) rfl (by kernel_rfl) (by kernel_rfl) (by kernel_rfl) (fun c a w h => h) (Or.inl ⟨by rfl, ?_⟩) hHeld ?_
  rotate_left
  · (intro w hSw; (try dsimp only at hSw); go_simp; try with_reducible rfl)
  simp only [Act.put, List.getElem_toArray, List.getElem_cons_zero, List.getElem_cons_succ, List.setIfInBounds_toArray, List.set_cons_zero, List.set_cons_succ]
  refine wpAnyH_take (i := 9) (v := ?_) rfl (by kernel_rfl) (by kernel_rfl) (by kernel_rfl) (fun c a w h => h) (Or.inl ⟨by rfl, ?_⟩) hHeld ?_
  rotate_left
  · (intro w hSw; (try dsimp only at hSw); go_simp; try with_reducible rfl)
  simp only [Act.put, List.getElem_toArray, List.getElem_cons_zero, List.getElem_cons_succ, List.setIfInBounds_toArray, List.set_cons_zero, List.set_cons_succ]
  refine wpAnyH_ready (rs := [10]) (by kernel_rfl) (by simp) ?_
  refine AllReadyH.cons rfl (fun K hK => ?_) AllReadyH.nil
  go_simp
  refine kc.mono ?_
  rintro e w1 ⟨rfl, hb⟩
  have s2 := HSA.out w1 (fun k e => by subst e; exact hb.2.block k HG.out hg)
  have HF := S.hid ((M.RD.same HM.out ((Below.refl _ w).drew)).next (show M.RD w.drew w1 (M.gr G w w.drew) bz _ from RDm hb))
  clear kc hb
  refine hK.out _ _ s2 (fun hHeld => ?_)
  clear hK K
  refine wpAnyH_done (by kernel_rfl) ?_ _
  clear hHeld s2 HSA
  try simp only [Act.put, List.getElem_toArray, List.getElem_cons_zero, List.getElem_cons_succ, List.setIfInBounds_toArray, List.set_cons_zero, List.set_cons_succ]
  go_wp2
  go_ret
  exact ⟨_, rfl, nil_ls _, HF.out⟩
theorem me_62 (g c : Nat) (hc : 2 ≤ c) (x y : Int) (cx : C.C x) (cy : C.C y) (bz : Nat) {G : Nat → Prop} {m : M.MS} (hg : ¬ G g) (w : World) (h0 : w.cell? ⟨g, 0, none⟩ = some (.int .u16 x)) (h1 : w.cell? ⟨g, 1, none⟩ = some (.int .u16 y)) (hm : M.IsR w G bz m) (ht : m.tones.length ≤ 999000) :
    Calls Tryz.prog 58 #[.int .i64 62, .slice (some ⟨g, 0, none⟩) 2 c, .pointer (some ⟨bz, 0, none⟩)] w fun e w' => ∃ v, e = .returned v ∧ S.Ls S.eU 1 w' v [] ∧ M.RD w w' G bz (M.st (M.sc m 65284 x) 65286 (M.b8 y)) := by
  have hgl : g < w.heap.size := World.block_lt_of_cell? w _ h0
  have sA : ∀ W', (∀ k, k = g → W'.heap[k]? = w.heap[k]?) → (fun w' : World => w'.cell? ⟨g, 0, none⟩ = some (.int .u16 x) ∧ w'.cell? ⟨g, 1, none⟩ = some (.int .u16 y)) W' := fun W' k => ⟨(World.cell?_of_block (w := w) (k g rfl)).trans h0, (World.cell?_of_block (w := w) (k g rfl)).trans h1⟩
  have s0 := sA w.drew (fun k _ => rfl)
  have hmd : M.IsR w.drew G bz m := hm.below ((Below.refl _ w).drew)
  have hv := b8_cv y
  have kc := M.rplay_any bz x cx.1 cx.2 (M.b8 y) w.drew hmd (by omega)
  have HSA := S.hid sA
  have HM := S.hid hm
  have HG := S.hid hgl
  clear hm hmd sA hgl h0 h1
  go_enter Tryz.func58, Tryz.ntmps58
  go_upto_region 17 with fail
  try simp only [Act.put, List.getElem_toArray, List.getElem_cons_zero, List.getElem_cons_succ, List.setIfInBounds_toArray, List.set_cons_zero, List.set_cons_succ]
  refine wp_region_held_drew (S := (fun w' : World => w'.cell? ⟨g, 0, none⟩ = some (.int .u16 x) ∧ w'.cell? ⟨g, 1, none⟩ = some (.int .u16 y))) (by kernel_rfl) s0 (fun hHeld => ?_)
  clear s0
  refine wpAnyH_take (i := 0) (v := ?_) rfl (by kernel_rfl) (by kernel_rfl) (by kernel_rfl) (fun c a w h => h) (Or.inl ⟨by rfl, ?_⟩) hHeld ?_
  rotate_left
  · (intro w hSw; (try dsimp only at hSw); go_simp; try with_reducible rfl)
  simp only [Act.put, List.getElem_toArray, List.getElem_cons_zero, List.getElem_cons_succ, List.setIfInBounds_toArray, List.set_cons_zero, List.set_cons_succ]
  refine wpAnyH_take (i := 1) (v := ?_) rfl (by kernel_rfl) (by kernel_rfl) (by kernel_rfl) (fun c a w h => h) (Or.inl ⟨by rfl, ?_⟩) hHeld ?_
  rotate_left
  · (intro w hSw; (try dsimp only at hSw); go_simp; try with_reducible rfl)
  simp only [Act.put, List.getElem_toArray, List.getElem_cons_zero, List.getElem_cons_succ, List.setIfInBounds_toArray, List.set_cons_zero, List.set_cons_succ]
  refine wpAnyH_take (i := 2) (v := ?_) rfl (by kernel_rfl) (by kernel_rfl) (by kernel_rfl) (fun c a w h => h) (Or.inl ⟨by rfl, ?_⟩) hHeld ?_
  rotate_left
  · (intro w hSw; (try dsimp only at hSw); go_simp; try with_reducible rfl)
  simp only [Act.put, List.getElem_toArray, List.getElem_cons_zero, List.getElem_cons_succ, List.setIfInBounds_toArray, List.set_cons_zero, List.set_cons_succ]
  refine wpAnyH_take (i := 3) (v := ?_) rfl (by kernel_rfl) (by kernel_rfl) (by kernel_rfl) (fun c a w h => h) (Or.inl ⟨by rfl, ?_⟩) hHeld ?_
  rotate_left
  · (intro w hSw; (try dsimp only at hSw); go_simp; try with_reducible rfl)
  simp only [Act.put, List.getElem_toArray, List.getElem_cons_zero, List.getElem_cons_succ, List.setIfInBounds_toArray, List.set_cons_zero, List.set_cons_succ]
  refine wpAnyH_take (i := 4) (v := ?_) rfl (by kernel_rfl) (by kernel_rfl) (by kernel_rfl) (fun c a w h => h) (Or.inl ⟨by rfl, ?_⟩) hHeld ?_
  rotate_left
  · (intro w hSw; (try dsimp only at hSw); go_simp; try with_reducible rfl)
  simp only [Act.put, List.getElem_toArray, List.getElem_cons_zero, List.getElem_cons_succ, List.setIfInBounds_toArray, List.set_cons_zero, List.set_cons_succ]
  refine wpAnyH_take (i := 5) (v := ?_) rfl (by kernel_rfl) (by kernel_rfl) (by kernel_rfl) (fun c a w h => h) (Or.inl ⟨by rfl, ?_⟩) hHeld ?_
  rotate_left
  · (intro w hSw; (try dsimp only at hSw); go_simp; try with_reducible rfl)
  simp only [Act.put, List.getElem_toArray, List.getElem_cons_zero, List.getElem_cons_succ, List.setIfInBounds_toArray, List.set_cons_zero, List.set_cons_succ]
  refine wpAnyH_take (i := 6) (v := ?_) rfl (by kernel_rfl) (by kernel_rfl) (by kernel_rfl) (fun c a w h => h) (Or.inl ⟨by rfl, ?_⟩) hHeld ?_
  rotate_left
  · (intro w hSw; (try dsimp only at hSw); go_simp; try with_reducible rfl)
  simp only [Act.put, List.getElem_toArray, List.getElem_cons_zero, List.getElem_cons_succ, List.setIfInBounds_toArray, List.set_cons_zero, List.set_cons_succ]
  refine wpAnyH_take (i := 7) (v := ?_) rfl (by kernel_rfl) (by kernel_rfl) (by kernel_rfl) (fun c a w h => h) (Or.inl ⟨by rfl, ?_⟩) hHeld ?_
  rotate_left
  · (intro w hSw; (try dsimp only at hSw); go_simp; try with_reducible rfl)
  simp only [Act.put, List.getElem_toArray, List.getElem_cons_zero, List.getElem_cons_succ, List.setIfInBounds_toArray, List.set_cons_zero, List.set_cons_succ]
  refine wpAnyH_ready (rs := [8]) (by kernel_rfl) (by simp) ?_
  refine AllReadyH.cons rfl (fun K hK => ?_) AllReadyH.nil
  go_simp
  refine kc.mono ?_
  rintro e w1 ⟨rfl, hb⟩
  have s2 := HSA.out w1 (fun k e => by subst e; exact hb.2.block k HG.out hg)
  have HF := S.hid ((M.RD.same HM.out ((Below.refl _ w).drew)).next (show M.RD w.drew w1 (M.gr G w w.drew) bz _ from RDm hb))
  clear kc hb
  refine hK.out _ _ s2 (fun hHeld => ?_)
  clear hK K
  refine wpAnyH_done (by kernel_rfl) ?_ _
  clear hHeld s2 HSA
  try simp only [Act.put, List.getElem_toArray, List.getElem_cons_zero, List.getElem_cons_succ, List.setIfInBounds_toArray, List.set_cons_zero, List.set_cons_succ]
  go_wp2
  go_ret
  exact ⟨_, rfl, nil_ls _, HF.out⟩
theorem RDn {w wc w1 : World} {G : Nat → Prop} {b : Nat} {m' : M.MS} (h : M.RD wc w1 G b m') : M.RD wc w1 (M.gr G w wc) b m' :=
  ⟨h.1.mono (fun i _ f => by
      rcases f with f | f
      · exact .inl (.inl f)
      · exact .inr f), ⟨h.2.os, h.2.tape, h.2.output, h.2.size, fun k hk hn => h.2.block k hk fun f => hn (.inl f)⟩⟩
theorem me_54 (g c : Nat) (hc : 2 ≤ c) (x y : Int) (cx : C.C x) (cy : C.C y) (bz : Nat) {G : Nat → Prop} {m : M.MS} (hg : ¬ G g) (w : World) (h0 : w.cell? ⟨g, 0, none⟩ = some (.int .u16 x)) (h1 : w.cell? ⟨g, 1, none⟩ = some (.int .u16 y)) (hm : M.IsR w G bz m) (ht : m.tones.length ≤ 999000) :
    Calls Tryz.prog 58 #[.int .i64 54, .slice (some ⟨g, 0, none⟩) 2 c, .pointer (some ⟨bz, 0, none⟩)] w fun e w' => ∃ v, e = .returned v ∧ S.Ls S.eU 1 w' v [] ∧ M.RD w w' G bz (M.sc m y ((M.cl m y + x) % 65536)) := by
  have hgl : g < w.heap.size := World.block_lt_of_cell? w _ h0
  have sA : ∀ W', (∀ k, k = g → W'.heap[k]? = w.heap[k]?) → (fun w' : World => w'.cell? ⟨g, 0, none⟩ = some (.int .u16 x) ∧ w'.cell? ⟨g, 1, none⟩ = some (.int .u16 y)) W' := fun W' k => ⟨(World.cell?_of_block (w := w) (k g rfl)).trans h0, (World.cell?_of_block (w := w) (k g rfl)).trans h1⟩
  have s0 := sA w.drew (fun k _ => rfl)
  have hmd : M.IsR w.drew G bz m := hm.below ((Below.refl _ w).drew)
  have hv : IntKind.u16.wrap (M.cl m y + x) = (M.cl m y + x) % 65536 := by simp [IntKind.wrap, IntKind.bits, IntKind.signed]
  have kd := M.rcell_any bz y cy.1 cy.2 w.drew hmd
  have HSA := S.hid sA
  have HM := S.hid hm
  have HG := S.hid hgl
  clear hm hmd sA hgl h0 h1
  go_enter Tryz.func58, Tryz.ntmps58
  go_upto_region 11 with fail
  try simp only [Act.put, List.getElem_toArray, List.getElem_cons_zero, List.getElem_cons_succ, List.setIfInBounds_toArray, List.set_cons_zero, List.set_cons_succ]
  refine wp_region_held_drew (S := (fun w' : World => w'.cell? ⟨g, 0, none⟩ = some (.int .u16 x) ∧ w'.cell? ⟨g, 1, none⟩ = some (.int .u16 y))) (by kernel_rfl) s0 (fun hHeld => ?_)
  clear s0
  refine wpAnyH_take (i := 0) (v := ?_) rfl (by kernel_rfl) (by kernel_rfl) (by kernel_rfl) (fun c a w h => h) (Or.inl ⟨by rfl, ?_⟩) hHeld ?_
  rotate_left
  · (intro w hSw; (try dsimp only at hSw); go_simp; try with_reducible rfl)
  simp only [Act.put, List.getElem_toArray, List.getElem_cons_zero, List.getElem_cons_succ, List.setIfInBounds_toArray, List.set_cons_zero, List.set_cons_succ]
  refine wpAnyH_take (i := 1) (v := ?_) rfl (by kernel_rfl) (by kernel_rfl) (by kernel_rfl) (fun c a w h => h) (Or.inl ⟨by rfl, ?_⟩) hHeld ?_
  rotate_left
  · (intro w hSw; (try dsimp only at hSw); go_simp; try with_reducible rfl)
  simp only [Act.put, List.getElem_toArray, List.getElem_cons_zero, List.getElem_cons_succ, List.setIfInBounds_toArray, List.set_cons_zero, List.set_cons_succ]
  refine wpAnyH_take (i := 2) (v := ?_) rfl (by kernel_rfl) (by kernel_rfl) (by kernel_rfl) (fun c a w h => h) (Or.inl ⟨by rfl, ?_⟩) hHeld ?_
  rotate_left
  · (intro w hSw; (try dsimp only at hSw); go_simp; try with_reducible rfl)
  simp only [Act.put, List.getElem_toArray, List.getElem_cons_zero, List.getElem_cons_succ, List.setIfInBounds_toArray, List.set_cons_zero, List.set_cons_succ]
  refine wpAnyH_take (i := 3) (v := ?_) rfl (by kernel_rfl) (by kernel_rfl) (by kernel_rfl) (fun c a w h => h) (Or.inl ⟨by rfl, ?_⟩) hHeld ?_
  rotate_left
  · (intro w hSw; (try dsimp only at hSw); go_simp; try with_reducible rfl)
  simp only [Act.put, List.getElem_toArray, List.getElem_cons_zero, List.getElem_cons_succ, List.setIfInBounds_toArray, List.set_cons_zero, List.set_cons_succ]
  refine wpAnyH_take (i := 4) (v := ?_) rfl (by kernel_rfl) (by kernel_rfl) (by kernel_rfl) (fun c a w h => h) (Or.inl ⟨by rfl, ?_⟩) hHeld ?_
  rotate_left
  · (intro w hSw; (try dsimp only at hSw); go_simp; try with_reducible rfl)
  simp only [Act.put, List.getElem_toArray, List.getElem_cons_zero, List.getElem_cons_succ, List.setIfInBounds_toArray, List.set_cons_zero, List.set_cons_succ]
  refine wpAnyH_take (i := 5) (v := ?_) rfl (by kernel_rfl) (by kernel_rfl) (by kernel_rfl) (fun c a w h => h) (Or.inl ⟨by rfl, ?_⟩) hHeld ?_
  rotate_left
  · (intro w hSw; (try dsimp only at hSw); go_simp; try with_reducible rfl)
  simp only [Act.put, List.getElem_toArray, List.getElem_cons_zero, List.getElem_cons_succ, List.setIfInBounds_toArray, List.set_cons_zero, List.set_cons_succ]
  refine wpAnyH_take (i := 6) (v := ?_) rfl (by kernel_rfl) (by kernel_rfl) (by kernel_rfl) (fun c a w h => h) (Or.inl ⟨by rfl, ?_⟩) hHeld ?_
  rotate_left
  · (intro w hSw; (try dsimp only at hSw); go_simp; try with_reducible rfl)
  simp only [Act.put, List.getElem_toArray, List.getElem_cons_zero, List.getElem_cons_succ, List.setIfInBounds_toArray, List.set_cons_zero, List.set_cons_succ]
  refine wpAnyH_take (i := 7) (v := ?_) rfl (by kernel_rfl) (by kernel_rfl) (by kernel_rfl) (fun c a w h => h) (Or.inl ⟨by rfl, ?_⟩) hHeld ?_
  rotate_left
  · (intro w hSw; (try dsimp only at hSw); go_simp; try with_reducible rfl)
  simp only [Act.put, List.getElem_toArray, List.getElem_cons_zero, List.getElem_cons_succ, List.setIfInBounds_toArray, List.set_cons_zero, List.set_cons_succ]
  refine wpAnyH_take (i := 9) (v := ?_) rfl (by kernel_rfl) (by kernel_rfl) (by kernel_rfl) (fun c a w h => h) (Or.inl ⟨by rfl, ?_⟩) hHeld ?_
  rotate_left
  · (intro w hSw; (try dsimp only at hSw); go_simp; try with_reducible rfl)
  simp only [Act.put, List.getElem_toArray, List.getElem_cons_zero, List.getElem_cons_succ, List.setIfInBounds_toArray, List.set_cons_zero, List.set_cons_succ]
  refine wpAnyH_take (i := 10) (v := ?_) rfl (by kernel_rfl) (by kernel_rfl) (by kernel_rfl) (fun c a w h => h) (Or.inl ⟨by rfl, ?_⟩) hHeld ?_
  rotate_left
  · (intro w hSw; (try dsimp only at hSw); go_simp; try with_reducible rfl)
  simp only [Act.put, List.getElem_toArray, List.getElem_cons_zero, List.getElem_cons_succ, List.setIfInBounds_toArray, List.set_cons_zero, List.set_cons_succ]
  refine wpAnyH_take (i := 11) (v := ?_) rfl (by kernel_rfl) (by kernel_rfl) (by kernel_rfl) (fun c a w h => h) (Or.inl ⟨by rfl, ?_⟩) hHeld ?_
  rotate_left
  · (intro w hSw; (try dsimp only at hSw); go_simp; try with_reducible rfl)
  simp only [Act.put, List.getElem_toArray, List.getElem_cons_zero, List.getElem_cons_succ, List.setIfInBounds_toArray, List.set_cons_zero, List.set_cons_succ]
  refine wpAnyH_ready (rs := [8]) (by kernel_rfl) (by simp) ?_
  refine AllReadyH.cons rfl (fun K hK => ?_) AllReadyH.nil
  go_simp
  refine kd.mono ?_
  rintro e wc ⟨rfl, hbc⟩
  have hbw : Below w.heap.size w wc := ((Below.refl _ w).drew).trans hbc
  have sc_ := HSA.out wc (fun k e => by subst e; exact hbw.block k HG.out)
  have kc := M.rsetCell_any bz y cy.1 cy.2 ((M.cl m y + x) % 65536) (by omega) (by omega) wc (HM.out.below hbw) (by omega)
  have HBW := S.hid hbw
  clear kd hbc hbw
  refine hK.out _ _ sc_ (fun hHeld => ?_)
  clear hK K
  try simp only [Act.put, List.getElem_toArray, List.getElem_cons_zero, List.getElem_cons_succ, List.setIfInBounds_toArray, List.set_cons_zero, List.set_cons_succ]
  refine wpAnyH_take (i := 12) (v := ?_) rfl (by kernel_rfl) (by kernel_rfl) (by kernel_rfl) (fun c a w h => h) (Or.inl ⟨by rfl, ?_⟩) hHeld ?_
  rotate_left
  · (intro w hSw; (try dsimp only at hSw); go_simp; try with_reducible rfl)
  simp only [Act.put, List.getElem_toArray, List.getElem_cons_zero, List.getElem_cons_succ, List.setIfInBounds_toArray, List.set_cons_zero, List.set_cons_succ]
  refine wpAnyH_ready (rs := [13]) (by kernel_rfl) (by simp) ?_
  refine AllReadyH.cons rfl (fun K hK => ?_) AllReadyH.nil
  go_simp
  refine kc.mono ?_
  rintro e w1 ⟨rfl, hb⟩
  have s2 := HSA.out w1 (fun k e => by subst e; exact (hb.2.block k (Nat.lt_of_lt_of_le HG.out HBW.out.size) hg).trans (HBW.out.block k HG.out))
  have HF := S.hid ((M.RD.same HM.out HBW.out).next (RDn hb))
  clear kc hb sc_
  refine hK.out _ _ s2 (fun hHeld => ?_)
  clear hK K
  refine wpAnyH_done (by kernel_rfl) ?_ _
  clear hHeld s2 HSA
  try simp only [Act.put, List.getElem_toArray, List.getElem_cons_zero, List.getElem_cons_succ, List.setIfInBounds_toArray, List.set_cons_zero, List.set_cons_succ]
  go_wp2
  go_ret
  exact ⟨_, rfl, nil_ls _, HF.out⟩
end Go.Proofs.YtgponcjjnjpfkabGreat.L
namespace Go.Proofs.YtgponcjjnjpfkabGreat.C

theorem tmod_neg (n : Int) (h : n < 0) : n.tmod 65536 = -((-n) % 65536) := by
  have e : n = -(-n) := by omega
  rw [e, Int.neg_tmod, Int.tmod_eq_emod_of_nonneg (by omega)]; omega
theorem cell_n1 (n : Int) (h : n < 0) (h2 : n.tmod 65536 < 0) : (n.tmod 65536 + 65536) = cl n := by
  rw [tmod_neg n h] at h2 ⊢; unfold cl; omega
theorem cell_n2 (n : Int) (h : n < 0) (h2 : ¬ n.tmod 65536 < 0) : n.tmod 65536 = cl n := by
  rw [tmod_neg n h] at h2 ⊢; unfold cl; omega
theorem tmod_neg_range (n : Int) (h : n < 0) : -65535 ≤ n.tmod 65536 ∧ n.tmod 65536 ≤ 0 := by
  rw [tmod_neg n h]; omega
theorem half_neg (n : Int) (h : n < 0) : n.tdiv 2 = -((-n) / 2) := by
  have e : n = -(-n) := by omega
  rw [e, Int.neg_tdiv, Int.tdiv_eq_ediv_of_nonneg (by omega)]; omega

def aw (n : Int) : Int := if n < 0 then -n else n
theorem rq_pp (x y : Int) (hx : 0 ≤ x) : x / y = x.tdiv y := (Int.tdiv_eq_ediv_of_nonneg hx).symm
theorem rq_np (x y : Int) (hx : x < 0) : -(-x / y) = x.tdiv y := by
  have e : x = -(-x) := by omega
  rw [e, Int.neg_tdiv, Int.tdiv_eq_ediv_of_nonneg (by omega)]; simp
theorem rq_pn (x y : Int) (hx : 0 ≤ x) : -(x / -y) = x.tdiv y := by
  have e : y = -(-y) := by omega
  rw [e, Int.tdiv_neg, Int.tdiv_eq_ediv_of_nonneg hx]; simp
theorem rq_nn (x y : Int) (hx : x < 0) : -x / -y = x.tdiv y := by
  have e : x.tdiv y = (-x).tdiv (-y) := by rw [Int.neg_tdiv_neg]
  rw [e, Int.tdiv_eq_ediv_of_nonneg (by omega)]
theorem ediv_range (x y : Int) (hx : 0 ≤ x) (h : x ≤ 65536) (hy : 0 < y) : 0 ≤ x / y ∧ x / y ≤ 65536 :=
  ⟨Int.ediv_nonneg hx (Int.le_of_lt hy), Int.le_trans (Int.ediv_le_self _ hx) h⟩

def zz (how : Int) (X Y : Nat) : Nat := if how = 36 then X &&& Y else if how = 37 then X ||| Y else X ^^^ Y
theorem zz_step (how : Int) (X Y k : Nat) : ((zz how X Y % 2 ^ (k + 1) : Nat) : Int) = ((zz how X Y % 2 ^ k : Nat) : Int) + 2 ^ k * ((zz how X Y / 2 ^ k % 2 : Nat) : Int) := by
  rw [Nat.pow_succ, Nat.mod_mul]; simp
theorem zz_and (X Y k : Nat) : zz 36 X Y / 2 ^ k % 2 = 1 ↔ X / 2 ^ k % 2 = 1 ∧ Y / 2 ^ k % 2 = 1 := by
  simp only [zz, ite_true, Nat.and_div_two_pow, Nat.and_mod_two_eq_one]
theorem zz_or (X Y k : Nat) : zz 37 X Y / 2 ^ k % 2 = 1 ↔ X / 2 ^ k % 2 = 1 ∨ Y / 2 ^ k % 2 = 1 := by
  simp only [zz, Int.reduceEq, ite_true, ite_false, Nat.or_div_two_pow, Nat.or_mod_two_eq_one]
theorem zz_xor (X Y k : Nat) : zz 38 X Y / 2 ^ k % 2 = 1 ↔ ¬ (X / 2 ^ k % 2 = 1 ↔ Y / 2 ^ k % 2 = 1) := by
  simp only [zz, Int.reduceEq, ite_false, Nat.xor_div_two_pow, Nat.xor_mod_two_eq_one]
theorem zz_lt (how : Int) (X Y : Nat) (hX : X < 65536) (hY : Y < 65536) : zz how X Y < 65536 := by
  unfold zz
  split
  · exact Nat.lt_of_le_of_lt Nat.and_le_left hX
  · split
    · exact Nat.or_lt_two_pow (n := 16) hX hY
    · exact Nat.xor_lt_two_pow (n := 16) hX hY
theorem zz_bi (how : Int) (h : how = 36 ∨ how = 37 ∨ how = 38) (x y : Int) (hx : C x) (hy : C y) : cl ((zz how x.toNat y.toNat % 2 ^ 16 : Nat) : Int) = bi how x y := by
  have hl : zz how x.toNat y.toNat < 65536 := zz_lt how _ _ (by unfold C at hx; omega) (by unfold C at hy; omega)
  rw [show zz how x.toNat y.toNat % 2 ^ 16 = zz how x.toNat y.toNat from by omega]
  rcases h with h | h | h <;> subst h <;> simp only [zz, bi, biRaw, Int.reduceEq, ite_true, ite_false]
/-- a round of the loop over bits: what is added to the sum -/
def zb (how : Int) (A B : Int) : Bool := if how = 36 then A + B == 2 else if how = 37 then decide (0 < A + B) else A + B == 1
theorem zz_round (how : Int) (h : how = 36 ∨ how = 37 ∨ how = 38) (x y V : Int) (k : Nat) (hx : C x) (hy : C y) (hV : V = 2 ^ k) :
    ((zz how x.toNat y.toNat % 2 ^ (k + 1) : Nat) : Int) = ((zz how x.toNat y.toNat % 2 ^ k : Nat) : Int) + (if zb how (x / V % 2) (y / V % 2) = true then V else 0) := by
  unfold C at hx hy
  obtain ⟨X, rfl⟩ := Int.eq_ofNat_of_zero_le hx.1
  obtain ⟨Y, rfl⟩ := Int.eq_ofNat_of_zero_le hy.1
  rw [zz_step, hV]
  have eA : ((X : Int) / 2 ^ k % 2) = ((X / 2 ^ k % 2 : Nat) : Int) := by simp
  have eB : ((Y : Int) / 2 ^ k % 2) = ((Y / 2 ^ k % 2 : Nat) : Int) := by simp
  rw [eA, eB, Int.toNat_natCast, Int.toNat_natCast]
  have ha : X / 2 ^ k % 2 < 2 := Nat.mod_lt _ (by decide)
  have hb : Y / 2 ^ k % 2 < 2 := Nat.mod_lt _ (by decide)
  have hz : zz how X Y / 2 ^ k % 2 < 2 := Nat.mod_lt _ (by decide)
  have key : ((zz how X Y / 2 ^ k % 2 : Nat) : Int) = if zb how ((X / 2 ^ k % 2 : Nat) : Int) ((Y / 2 ^ k % 2 : Nat) : Int) = true then 1 else 0 := by
    have l1 := zz_and X Y k
    have l2 := zz_or X Y k
    have l3 := zz_xor X Y k
    generalize X / 2 ^ k % 2 = a at *
    generalize Y / 2 ^ k % 2 = b at *
    rcases h with h | h | h <;> subst h
    · generalize zz 36 X Y / 2 ^ k % 2 = z at *
      simp only [zb, ite_true, beq_iff_eq]; split <;> omega
    · generalize zz 37 X Y / 2 ^ k % 2 = z at *
      simp only [zb, Int.reduceEq, ite_true, ite_false, decide_eq_true_eq]; split <;> omega
    · generalize zz 38 X Y / 2 ^ k % 2 = z at *
      simp only [zb, Int.reduceEq, ite_false, beq_iff_eq]; split <;> omega
  rw [key]
  split <;> simp
end Go.Proofs.YtgponcjjnjpfkabGreat.C
namespace Go.Proofs.YtgponcjjnjpfkabGreat.C
open Go.RowKit

set_option maxHeartbeats 400000 in
theorem rsigned_any (x : Int) (hx : C x) (w : World) :
    Calls Tryz.prog 93 #[.int .u16 x] w fun e w' => e = .returned (.int .i64 (sg x)) ∧ w' = w := by
  obtain ⟨h1, h2⟩ := hx
  by_cases h : x < 32768
  · go_enter Tryz.func93, Tryz.ntmps93
    go_wp2
    go_ret
    exact ⟨ret_int (by unfold sg; rw [if_pos h]), rfl⟩
  · go_enter Tryz.func93, Tryz.ntmps93
    go_wp2
    go_ret
    exact ⟨ret_int (by unfold sg; rw [if_neg (by omega)]), rfl⟩
theorem wrap_cell {a n : Int} (h : a = cl n) : IntKind.u16.wrap a = cl n := by
  rw [h, IntKind.wrap_u16]; exact cl_id (C_cl n)
set_option maxHeartbeats 400000 in
theorem rcell_any (n : Int) (w : World) :
    Calls Tryz.prog 94 #[.int .i64 n] w fun e w' => e = .returned (.int .u16 (cl n)) ∧ w' = w := by
  by_cases h : n < 0
  · have hr := tmod_neg_range n h
    by_cases h2 : n.tmod 65536 < 0
    · have hc : Hid (n.tmod 65536 + 65536 = cl n) := cell_n1 n h h2
      go_enter Tryz.func94, Tryz.ntmps94
      go_wp2
      go_ret
      exact ⟨ret_int (by first | exact hc.out | exact wrap_cell hc.out), rfl⟩
    · have hc : Hid (n.tmod 65536 = cl n) := cell_n2 n h h2
      go_enter Tryz.func94, Tryz.ntmps94
      go_wp2
      go_ret
      exact ⟨ret_int (by first | exact hc.out | exact wrap_cell hc.out), rfl⟩
  · go_enter Tryz.func94, Tryz.ntmps94
    go_wp2
    go_ret
    exact ⟨ret_int (by first | rfl | exact wrap_cell rfl), rfl⟩
set_option maxHeartbeats 400000 in
theorem rflag_any (b : Bool) (w : World) :
    Calls Tryz.prog 96 #[.bool b] w fun e w' => e = .returned (.int .u16 (fl b)) ∧ w' = w := by
  cases b
  · go_enter Tryz.func96, Tryz.ntmps96
    go_wp2
    go_ret
    exact ⟨rfl, rfl⟩
  · go_enter Tryz.func96, Tryz.ntmps96
    go_wp2
    go_ret
    exact ⟨rfl, rfl⟩
set_option maxHeartbeats 400000 in
theorem half_any (n : Int) (hn : -65536 ≤ n ∧ n ≤ 65536) (w : World) :
    Calls Tryz.prog 95 #[.int .i64 n] w fun e w' => e = .returned (.int .i64 (n / 2)) ∧ w' = w := by
  by_cases h : n < 0
  · have hq := half_neg n h
    have b1 : n ≤ 2 * n.tdiv 2 := by omega
    have b2 : 2 * n.tdiv 2 ≤ n + 1 := by omega
    by_cases h2 : n < 2 * n.tdiv 2
    · have hc : Hid (n.tdiv 2 - 1 = n / 2) := by show _ = _; omega
      clear hq
      go_enter Tryz.func95, Tryz.ntmps95
      go_wp2
      go_ret
      exact ⟨ret_int hc.out, rfl⟩
    · have hc : Hid (n.tdiv 2 = n / 2) := by show _ = _; omega
      clear hq
      go_enter Tryz.func95, Tryz.ntmps95
      go_wp2
      go_ret
      exact ⟨ret_int hc.out, rfl⟩
  · go_enter Tryz.func95, Tryz.ntmps95
    go_wp2
    go_ret
    exact ⟨rfl, rfl⟩
set_option maxHeartbeats 400000 in
theorem away_any (n : Int) (hn : -65536 ≤ n ∧ n ≤ 65536) (w : World) :
    Calls Tryz.prog 149 #[.int .i64 n] w fun e w' => e = .returned (.int .i64 (aw n)) ∧ w' = w := by
  by_cases h : n < 0
  · have hc : Hid (-n = aw n) := by show _ = _; unfold aw; rw [if_pos h]
    go_enter Tryz.func149, Tryz.ntmps149
    go_wp2
    go_ret
    exact ⟨ret_int hc.out, rfl⟩
  · have hc : Hid (n = aw n) := by show _ = _; unfold aw; rw [if_neg h]
    go_enter Tryz.func149, Tryz.ntmps149
    go_wp2
    go_ret
    exact ⟨ret_int hc.out, rfl⟩
set_option maxHeartbeats 400000 in
theorem rquot_any (x y : Int) (hx : -65536 ≤ x ∧ x ≤ 65536) (hy : -65536 ≤ y ∧ y ≤ 65536) (h0 : y ≠ 0) (w : World) :
    Calls Tryz.prog 140 #[.int .i64 x, .int .i64 y] w fun e w' => e = .returned (.int .i64 (x.tdiv y)) ∧ w' = w := by
  have a1 : 0 ≤ aw x ∧ aw x ≤ 65536 := by unfold aw; split <;> omega
  have a2 : 1 ≤ aw y ∧ aw y ≤ 65536 := by unfold aw; split <;> omega
  have hr := ediv_range (aw x) (aw y) a1.1 a1.2 (by omega)
  by_cases h1 : x < 0
  · by_cases h2 : y < 0
    · have hc : Hid (aw x / aw y = x.tdiv y) := by show _ = _; unfold aw; rw [if_pos h1, if_pos h2]; exact rq_nn x y h1
      go_enter Tryz.func140, Tryz.ntmps140
      go_wp2_with (first | (go_at_call 149; refine (away_any _ (by omega) _).mono ?_; rintro e w' ⟨rfl, rfl⟩))
      go_ret
      exact ⟨ret_int hc.out, rfl⟩
    · have hc : Hid (-(aw x / aw y) = x.tdiv y) := by show _ = _; unfold aw; rw [if_pos h1, if_neg h2]; exact rq_np x y h1
      have d2 : decide (y < 0) = false := decide_eq_false h2
      go_enter Tryz.func140, Tryz.ntmps140
      go_wp2_with (first | (go_at_call 149; refine (away_any _ (by omega) _).mono ?_; rintro e w' ⟨rfl, rfl⟩))
      go_ret
      exact ⟨ret_int hc.out, rfl⟩
  · by_cases h2 : y < 0
    · have hc : Hid (-(aw x / aw y) = x.tdiv y) := by show _ = _; unfold aw; rw [if_neg h1, if_pos h2]; exact rq_pn x y (by omega)
      have d1 : decide (x < 0) = false := decide_eq_false h1
      go_enter Tryz.func140, Tryz.ntmps140
      go_wp2_with (first | (go_at_call 149; refine (away_any _ (by omega) _).mono ?_; rintro e w' ⟨rfl, rfl⟩))
      go_ret
      exact ⟨ret_int hc.out, rfl⟩
    · have hc : Hid (aw x / aw y = x.tdiv y) := by show _ = _; unfold aw; rw [if_neg h1, if_neg h2]; exact rq_pp x y (by omega)
      have d1 : decide (x < 0) = false := decide_eq_false h1
      have d2 : decide (y < 0) = false := decide_eq_false h2
      go_enter Tryz.func140, Tryz.ntmps140
      go_wp2_with (first | (go_at_call 149; refine (away_any _ (by omega) _).mono ?_; rintro e w' ⟨rfl, rfl⟩))
      go_ret
      exact ⟨ret_int hc.out, rfl⟩
theorem pow_le (k : Nat) (h : k ≤ 15) : (1 : Int) ≤ 2 ^ k ∧ (2 : Int) ^ k ≤ 32768 := by
  have h1 : (2 : Nat) ^ k ≤ 2 ^ 15 := Nat.pow_le_pow_right (by decide) h
  have h2 : 1 ≤ (2 : Nat) ^ k := Nat.one_le_two_pow
  have e : (2 : Int) ^ k = ((2 ^ k : Nat) : Int) := by simp
  rw [e]; omega
set_option maxHeartbeats 400000 in
theorem power_any (n : Int) (h0 : 0 ≤ n) (h : n ≤ 15) (w : World) :
    Calls Tryz.prog 99 #[.int .i64 n] w fun e w' => e = .returned (.int .i64 (2 ^ n.toNat)) ∧ w' = w := by
  obtain ⟨N, rfl⟩ := Int.eq_ofNat_of_zero_le h0
  rw [Int.toNat_natCast]
  go_enter Tryz.func99, Tryz.ntmps99
  go_wp2
  go_loop [3, 4] (fun p i => ∃ (k : Nat) (P : Int), k ≤ N ∧ i = .int .i64 k ∧ p = .int .i64 P ∧ Hid (P = 2 ^ k)) (fun _ i => N - (intOf i).toNat)
  case atStart => exact ⟨0, 1, Nat.zero_le _, rfl, rfl, rfl⟩
  case round =>
    obtain ⟨k, P, hk, rfl, rfl, hP⟩ := hrel
    by_cases hlt : k < N
    · have hb : 1 ≤ P ∧ P ≤ 32768 := by rw [hP.out]; exact pow_le k (by omega)
      go_wp2
      go_round
      case rel => exact ⟨k + 1, 2 * P, by omega, by go_num, rfl, by show _ = _; rw [hP.out, Int.pow_succ, Int.mul_comm]⟩
      case measure => simp [intOf]; omega
    · have e : k = N := by omega
      subst e
      go_wp2
      go_ret
      exact ⟨ret_int hP.out, rfl⟩
end Go.Proofs.YtgponcjjnjpfkabGreat.C
namespace Go.Proofs.YtgponcjjnjpfkabGreat.C
open Go.RowKit

theorem zb_36t (a b : Int) (h : a + b = 2) : zb 36 a b = true := by simp [zb, h]
theorem zb_36f (a b : Int) (h : a + b ≠ 2) : zb 36 a b = false := by simp [zb, h]
theorem zb_37t (a b : Int) (h : 0 < a + b) : zb 37 a b = true := by simp [zb, h]
theorem zb_37f (a b : Int) (h : ¬ 0 < a + b) : zb 37 a b = false := by simp [zb, h]
theorem zb_38t (a b : Int) (h : a + b = 1) : zb 38 a b = true := by simp [zb, h]
theorem zb_38f (a b : Int) (h : a + b ≠ 1) : zb 38 a b = false := by simp [zb, h]
set_option maxHeartbeats 1000000 in
theorem bits_36 (x y : Int) (hx : C x) (hy : C y) (w : World) :
    Calls Tryz.prog 98 #[.int .i64 36, .int .u16 x, .int .u16 y] w fun e w' => e = .returned (.int .u16 (bi 36 x y)) ∧ w' = w := by
  have HX : Hid (C x) := hx
  have HY : Hid (C y) := hy
  have HF : Hid (cl ((zz 36 x.toNat y.toNat % 2 ^ 16 : Nat) : Int) = bi 36 x y) := zz_bi 36 (by decide) x y hx hy
  have HR : Hid (∀ (V : Int) (k : Nat), V = 2 ^ k → ((zz 36 x.toNat y.toNat % 2 ^ (k + 1) : Nat) : Int) = ((zz 36 x.toNat y.toNat % 2 ^ k : Nat) : Int) + (if zb 36 (x / V % 2) (y / V % 2) = true then V else 0)) := fun V k h => zz_round 36 (by decide) x y V k hx hy h
  generalize zz 36 x.toNat y.toNat = Z at *
  unfold C at hx hy
  go_enter Tryz.func98, Tryz.ntmps98
  go_wp2
  go_loop [7, 8, 9] (fun o i v => ∃ (k : Nat) (V O : Int), k ≤ 16 ∧ i = .int .i64 k ∧ v = .int .i64 V ∧ o = .int .i64 O ∧ Hid (V = 2 ^ k) ∧ Hid (O = ((Z % 2 ^ k : Nat) : Int))) (fun _ i _ => 16 - (intOf i).toNat)
  case atStart => exact ⟨0, 1, 0, by omega, rfl, rfl, rfl, rfl, by show _ = _; simp [Nat.mod_one]⟩
  case round =>
    obtain ⟨k, V, O, hk, rfl, rfl, rfl, hV, hO⟩ := hrel
    by_cases hlt : k < 16
    · have hb : 1 ≤ V ∧ V ≤ 32768 := by rw [hV.out]; exact pow_le k (by omega)
      have hO2 : 0 ≤ O ∧ O ≤ 65536 := by
        rw [hO.out]
        have h1 : Z % 2 ^ k < 2 ^ k := Nat.mod_lt _ (Nat.two_pow_pos k)
        have h2 : (2 : Nat) ^ k ≤ 2 ^ 15 := Nat.pow_le_pow_right (by decide) (by omega)
        omega
      have hV2 : Hid (V * 2 = 2 ^ (k + 1)) := by show _ = _; rw [hV.out, Int.pow_succ]
      have hA := ediv_range x V (by omega) (by omega) (by omega)
      have hB := ediv_range y V (by omega) (by omega) (by omega)
      have hS := HR.out V k hV.out
      rw [← hO.out] at hS
      have HS : Hid (((Z % 2 ^ (k + 1) : Nat) : Int) = O + (if zb 36 (x / V % 2) (y / V % 2) = true then V else 0)) := hS
      clear hS
      by_cases hp : x / V % 2 < 1
      all_goals by_cases hq : y / V % 2 < 1
      · have hz : Hid (zb 36 (x / V % 2) (y / V % 2) = false) := by show _ = _; exact zb_36f _ _ (by omega)
        go_wp2
        go_round
        case rel => exact ⟨k + 1, V * 2, _, by omega, by go_num, rfl, rfl, hV2, by show _ = _; rw [HS.out, hz.out]; simp⟩
        case measure => simp [intOf]; omega
      · have hz : Hid (zb 36 (x / V % 2) (y / V % 2) = false) := by show _ = _; exact zb_36f _ _ (by omega)
        go_wp2
        go_round
        case rel => exact ⟨k + 1, V * 2, _, by omega, by go_num, rfl, rfl, hV2, by show _ = _; rw [HS.out, hz.out]; simp⟩
        case measure => simp [intOf]; omega
      · have hz : Hid (zb 36 (x / V % 2) (y / V % 2) = false) := by show _ = _; exact zb_36f _ _ (by omega)
        go_wp2
        go_round
        case rel => exact ⟨k + 1, V * 2, _, by omega, by go_num, rfl, rfl, hV2, by show _ = _; rw [HS.out, hz.out]; simp⟩
        case measure => simp [intOf]; omega
      · have hz : Hid (zb 36 (x / V % 2) (y / V % 2) = true) := by show _ = _; exact zb_36t _ _ (by omega)
        go_wp2
        go_round
        case rel => exact ⟨k + 1, V * 2, _, by omega, by go_num, rfl, rfl, hV2, by show _ = _; rw [HS.out, hz.out]; simp⟩
        case measure => simp [intOf]; omega
    · have e : k = 16 := by omega
      subst e
      go_wp2_with (first | (go_at_call 94; refine (rcell_any _ _).mono ?_; rintro e w' ⟨rfl, rfl⟩))
      go_ret
      exact ⟨ret_int (by rw [hO.out]; exact HF.out), rfl⟩
set_option maxHeartbeats 1000000 in
theorem bits_37 (x y : Int) (hx : C x) (hy : C y) (w : World) :
    Calls Tryz.prog 98 #[.int .i64 37, .int .u16 x, .int .u16 y] w fun e w' => e = .returned (.int .u16 (bi 37 x y)) ∧ w' = w := by
  have HX : Hid (C x) := hx
  have HY : Hid (C y) := hy
  have HF : Hid (cl ((zz 37 x.toNat y.toNat % 2 ^ 16 : Nat) : Int) = bi 37 x y) := zz_bi 37 (by decide) x y hx hy
  have HR : Hid (∀ (V : Int) (k : Nat), V = 2 ^ k → ((zz 37 x.toNat y.toNat % 2 ^ (k + 1) : Nat) : Int) = ((zz 37 x.toNat y.toNat % 2 ^ k : Nat) : Int) + (if zb 37 (x / V % 2) (y / V % 2) = true then V else 0)) := fun V k h => zz_round 37 (by decide) x y V k hx hy h
  generalize zz 37 x.toNat y.toNat = Z at *
  unfold C at hx hy
  go_enter Tryz.func98, Tryz.ntmps98
  go_wp2
  go_loop [7, 8, 9] (fun o i v => ∃ (k : Nat) (V O : Int), k ≤ 16 ∧ i = .int .i64 k ∧ v = .int .i64 V ∧ o = .int .i64 O ∧ Hid (V = 2 ^ k) ∧ Hid (O = ((Z % 2 ^ k : Nat) : Int))) (fun _ i _ => 16 - (intOf i).toNat)
  case atStart => exact ⟨0, 1, 0, by omega, rfl, rfl, rfl, rfl, by show _ = _; simp [Nat.mod_one]⟩
  case round =>
    obtain ⟨k, V, O, hk, rfl, rfl, rfl, hV, hO⟩ := hrel
    by_cases hlt : k < 16
    · have hb : 1 ≤ V ∧ V ≤ 32768 := by rw [hV.out]; exact pow_le k (by omega)
      have hO2 : 0 ≤ O ∧ O ≤ 65536 := by
        rw [hO.out]
        have h1 : Z % 2 ^ k < 2 ^ k := Nat.mod_lt _ (Nat.two_pow_pos k)
        have h2 : (2 : Nat) ^ k ≤ 2 ^ 15 := Nat.pow_le_pow_right (by decide) (by omega)
        omega
      have hV2 : Hid (V * 2 = 2 ^ (k + 1)) := by show _ = _; rw [hV.out, Int.pow_succ]
      have hA := ediv_range x V (by omega) (by omega) (by omega)
      have hB := ediv_range y V (by omega) (by omega) (by omega)
      have hS := HR.out V k hV.out
      rw [← hO.out] at hS
      have HS : Hid (((Z % 2 ^ (k + 1) : Nat) : Int) = O + (if zb 37 (x / V % 2) (y / V % 2) = true then V else 0)) := hS
      clear hS
      by_cases hp : x / V % 2 < 1
      all_goals by_cases hq : y / V % 2 < 1
      · have hz : Hid (zb 37 (x / V % 2) (y / V % 2) = false) := by show _ = _; exact zb_37f _ _ (by omega)
        go_wp2
        go_round
        case rel => exact ⟨k + 1, V * 2, _, by omega, by go_num, rfl, rfl, hV2, by show _ = _; rw [HS.out, hz.out]; simp⟩
        case measure => simp [intOf]; omega
      · have hz : Hid (zb 37 (x / V % 2) (y / V % 2) = true) := by show _ = _; exact zb_37t _ _ (by omega)
        go_wp2
        go_round
        case rel => exact ⟨k + 1, V * 2, _, by omega, by go_num, rfl, rfl, hV2, by show _ = _; rw [HS.out, hz.out]; simp⟩
        case measure => simp [intOf]; omega
      · have hz : Hid (zb 37 (x / V % 2) (y / V % 2) = true) := by show _ = _; exact zb_37t _ _ (by omega)
        go_wp2
        go_round
        case rel => exact ⟨k + 1, V * 2, _, by omega, by go_num, rfl, rfl, hV2, by show _ = _; rw [HS.out, hz.out]; simp⟩
        case measure => simp [intOf]; omega
      · have hz : Hid (zb 37 (x / V % 2) (y / V % 2) = true) := by show _ = _; exact zb_37t _ _ (by omega)
        go_wp2
        go_round
        case rel => exact ⟨k + 1, V * 2, _, by omega, by go_num, rfl, rfl, hV2, by show _ = _; rw [HS.out, hz.out]; simp⟩
        case measure => simp [intOf]; omega
    · have e : k = 16 := by omega
      subst e
      go_wp2_with (first | (go_at_call 94; refine (rcell_any _ _).mono ?_; rintro e w' ⟨rfl, rfl⟩))
      go_ret
      exact ⟨ret_int (by rw [hO.out]; exact HF.out), rfl⟩
set_option maxHeartbeats 1000000 in
theorem bits_38 (x y : Int) (hx : C x) (hy : C y) (w : World) :
    Calls Tryz.prog 98 #[.int .i64 38, .int .u16 x, .int .u16 y] w fun e w' => e = .returned (.int .u16 (bi 38 x y)) ∧ w' = w := by
  have HX : Hid (C x) := hx
  have HY : Hid (C y) := hy
  have HF : Hid (cl ((zz 38 x.toNat y.toNat % 2 ^ 16 : Nat) : Int) = bi 38 x y) := zz_bi 38 (by decide) x y hx hy
  have HR : Hid (∀ (V : Int) (k : Nat), V = 2 ^ k → ((zz 38 x.toNat y.toNat % 2 ^ (k + 1) : Nat) : Int) = ((zz 38 x.toNat y.toNat % 2 ^ k : Nat) : Int) + (if zb 38 (x / V % 2) (y / V % 2) = true then V else 0)) := fun V k h => zz_round 38 (by decide) x y V k hx hy h
  generalize zz 38 x.toNat y.toNat = Z at *
  unfold C at hx hy
  go_enter Tryz.func98, Tryz.ntmps98
  go_wp2
  go_loop [7, 8, 9] (fun o i v => ∃ (k : Nat) (V O : Int), k ≤ 16 ∧ i = .int .i64 k ∧ v = .int .i64 V ∧ o = .int .i64 O ∧ Hid (V = 2 ^ k) ∧ Hid (O = ((Z % 2 ^ k : Nat) : Int))) (fun _ i _ => 16 - (intOf i).toNat)
  case atStart => exact ⟨0, 1, 0, by omega, rfl, rfl, rfl, rfl, by show _ = _; simp [Nat.mod_one]⟩
  case round =>
    obtain ⟨k, V, O, hk, rfl, rfl, rfl, hV, hO⟩ := hrel
    by_cases hlt : k < 16
    · have hb : 1 ≤ V ∧ V ≤ 32768 := by rw [hV.out]; exact pow_le k (by omega)
      have hO2 : 0 ≤ O ∧ O ≤ 65536 := by
        rw [hO.out]
        have h1 : Z % 2 ^ k < 2 ^ k := Nat.mod_lt _ (Nat.two_pow_pos k)
        have h2 : (2 : Nat) ^ k ≤ 2 ^ 15 := Nat.pow_le_pow_right (by decide) (by omega)
        omega
      have hV2 : Hid (V * 2 = 2 ^ (k + 1)) := by show _ = _; rw [hV.out, Int.pow_succ]
      have hA := ediv_range x V (by omega) (by omega) (by omega)
      have hB := ediv_range y V (by omega) (by omega) (by omega)
      have hS := HR.out V k hV.out
      rw [← hO.out] at hS
      have HS : Hid (((Z % 2 ^ (k + 1) : Nat) : Int) = O + (if zb 38 (x / V % 2) (y / V % 2) = true then V else 0)) := hS
      clear hS
      by_cases hp : x / V % 2 < 1
      all_goals by_cases hq : y / V % 2 < 1
      · have hz : Hid (zb 38 (x / V % 2) (y / V % 2) = false) := by show _ = _; exact zb_38f _ _ (by omega)
        go_wp2
        go_round
        case rel => exact ⟨k + 1, V * 2, _, by omega, by go_num, rfl, rfl, hV2, by show _ = _; rw [HS.out, hz.out]; simp⟩
        case measure => simp [intOf]; omega
      · have hz : Hid (zb 38 (x / V % 2) (y / V % 2) = true) := by show _ = _; exact zb_38t _ _ (by omega)
        go_wp2
        go_round
        case rel => exact ⟨k + 1, V * 2, _, by omega, by go_num, rfl, rfl, hV2, by show _ = _; rw [HS.out, hz.out]; simp⟩
        case measure => simp [intOf]; omega
      · have hz : Hid (zb 38 (x / V % 2) (y / V % 2) = true) := by show _ = _; exact zb_38t _ _ (by omega)
        go_wp2
        go_round
        case rel => exact ⟨k + 1, V * 2, _, by omega, by go_num, rfl, rfl, hV2, by show _ = _; rw [HS.out, hz.out]; simp⟩
        case measure => simp [intOf]; omega
      · have hz : Hid (zb 38 (x / V % 2) (y / V % 2) = false) := by show _ = _; exact zb_38f _ _ (by omega)
        go_wp2
        go_round
        case rel => exact ⟨k + 1, V * 2, _, by omega, by go_num, rfl, rfl, hV2, by show _ = _; rw [HS.out, hz.out]; simp⟩
        case measure => simp [intOf]; omega
    · have e : k = 16 := by omega
      subst e
      go_wp2_with (first | (go_at_call 94; refine (rcell_any _ _).mono ?_; rintro e w' ⟨rfl, rfl⟩))
      go_ret
      exact ⟨ret_int (by rw [hO.out]; exact HF.out), rfl⟩
end Go.Proofs.YtgponcjjnjpfkabGreat.C
namespace Go.Proofs.YtgponcjjnjpfkabGreat.C
open Go.RowKit

theorem ru_28 (x : Int) : cl (-x) = un 28 x := by simp [un, unRaw]
theorem ru_29n (x : Int) (h : 32768 ≤ x) : cl (-sg x) = un 29 x := un_29n x h
theorem ru_32 (x : Int) : cl (x + 1) = un 32 x := by simp [un, unRaw]
theorem ru_33 (x : Int) : cl (x - 1) = un 33 x := by simp [un, unRaw]
theorem ru_34 (x : Int) : cl (2 * x) = un 34 x := by simp [un, unRaw, cl]; omega
theorem ru_39 (x : Int) : cl (65535 - x) = un 39 x := by simp [un, unRaw]
theorem rb_21 (x y : Int) : cl (x + y) = bi 21 x y := by simp [bi, biRaw]
theorem rb_22 (x y : Int) : cl (x - y) = bi 22 x y := by simp [bi, biRaw]
theorem rb_23 (x y : Int) : cl (x * y) = bi 23 x y := by simp [bi, biRaw]
theorem rb_24 (x y : Int) (h : y ≠ 0) : cl ((sg x).tdiv (sg y)) = bi 24 x y := by simp [bi, biRaw, h]
theorem rb_25 (x y : Int) (h : y ≠ 0) : cl (sg x - (sg x).tdiv (sg y) * sg y) = bi 25 x y := by
  have e := Int.tmod_add_tdiv_mul (sg x) (sg y)
  have e2 : sg x - (sg x).tdiv (sg y) * sg y = (sg x).tmod (sg y) := by
    generalize (sg x).tdiv (sg y) * sg y = q at *
    omega
  rw [e2]; simp [bi, biRaw, h]
theorem rb_26 (x y : Int) (h : y ≠ 0) : cl (x / y) = bi 26 x y := by simp [bi, biRaw, h]
theorem rb_27 (x y : Int) (h : y ≠ 0) : cl (x - x / y * y) = bi 27 x y := by
  have e := Int.emod_add_ediv_mul x y
  have e2 : x - x / y * y = x % y := by
    generalize x / y * y = q at *
    omega
  rw [e2]; simp [bi, biRaw, h]
theorem rb_dz (op x : Int) (h : op = 24 ∨ op = 25 ∨ op = 26 ∨ op = 27) : (0 : Int) = bi op x 0 := by
  rcases h with h | h | h | h <;> subst h <;> simp [bi, biRaw, cl]
theorem rb_41 (x y : Int) (h : ¬ 15 < y) : cl (x / 2 ^ y.toNat) = bi 41 x y := by simp [bi, biRaw, h]
theorem rshl_range (x y : Int) (hx : C x) (h0 : 0 ≤ y) (h : y ≤ 15) : 0 ≤ x * 2 ^ y.toNat ∧ x * 2 ^ y.toNat ≤ 4294967296 ∧ 1 ≤ (2 : Int) ^ y.toNat ∧ (2 : Int) ^ y.toNat ≤ 32768 := by
  have hp := pow_le y.toNat (by omega)
  unfold C at hx
  have hm := mul_range x (2 ^ y.toNat) (by omega) (by omega)
  exact ⟨Int.mul_nonneg hx.1 (by omega), hm.2, hp.1, hp.2⟩
set_option maxHeartbeats 400000 in
theorem runary_28 (x : Int) (hx : C x) (w : World) :
    Calls Tryz.prog 59 #[.int .i64 28, .int .u16 x] w fun e w' => e = .returned (.tuple #[.int .u16 (un 28 x), .bool true]) ∧ w' = w := by
  have hs := sg_range hx
  have kx := hx
  unfold C at kx
  go_enter Tryz.func59, Tryz.ntmps59
  go_wp2_with (first | (go_at_call 93; refine (rsigned_any _ ?_ _).mono ?_; rotate_left 1; rintro e w' ⟨rfl, rfl⟩; rotate_left 1; (first | exact hx | exact hy)) | (go_at_call 94; refine (rcell_any _ _).mono ?_; rintro e w' ⟨rfl, rfl⟩) | (go_at_call 96; refine (rflag_any _ _).mono ?_; rintro e w' ⟨rfl, rfl⟩) | (go_at_call 95; refine (half_any _ (by omega) _).mono ?_; rintro e w' ⟨rfl, rfl⟩) | (go_at_call 140; refine (rquot_any _ _ (by omega) (by omega) (by assumption) _).mono ?_; rintro e w' ⟨rfl, rfl⟩) | (go_at_call 99; refine (power_any _ (by omega) (by omega) _).mono ?_; rintro e w' ⟨rfl, rfl⟩))
  go_ret2
  exact ⟨ret_ib (ru_28 x) rfl, rfl⟩
set_option maxHeartbeats 400000 in
theorem runary_32 (x : Int) (hx : C x) (w : World) :
    Calls Tryz.prog 59 #[.int .i64 32, .int .u16 x] w fun e w' => e = .returned (.tuple #[.int .u16 (un 32 x), .bool true]) ∧ w' = w := by
  have hs := sg_range hx
  have kx := hx
  unfold C at kx
  go_enter Tryz.func59, Tryz.ntmps59
  go_wp2_with (first | (go_at_call 93; refine (rsigned_any _ ?_ _).mono ?_; rotate_left 1; rintro e w' ⟨rfl, rfl⟩; rotate_left 1; (first | exact hx | exact hy)) | (go_at_call 94; refine (rcell_any _ _).mono ?_; rintro e w' ⟨rfl, rfl⟩) | (go_at_call 96; refine (rflag_any _ _).mono ?_; rintro e w' ⟨rfl, rfl⟩) | (go_at_call 95; refine (half_any _ (by omega) _).mono ?_; rintro e w' ⟨rfl, rfl⟩) | (go_at_call 140; refine (rquot_any _ _ (by omega) (by omega) (by assumption) _).mono ?_; rintro e w' ⟨rfl, rfl⟩) | (go_at_call 99; refine (power_any _ (by omega) (by omega) _).mono ?_; rintro e w' ⟨rfl, rfl⟩))
  go_ret2
  exact ⟨ret_ib (ru_32 x) rfl, rfl⟩
set_option maxHeartbeats 400000 in
theorem runary_33 (x : Int) (hx : C x) (w : World) :
    Calls Tryz.prog 59 #[.int .i64 33, .int .u16 x] w fun e w' => e = .returned (.tuple #[.int .u16 (un 33 x), .bool true]) ∧ w' = w := by
  have hs := sg_range hx
  have kx := hx
  unfold C at kx
  go_enter Tryz.func59, Tryz.ntmps59
  go_wp2_with (first | (go_at_call 93; refine (rsigned_any _ ?_ _).mono ?_; rotate_left 1; rintro e w' ⟨rfl, rfl⟩; rotate_left 1; (first | exact hx | exact hy)) | (go_at_call 94; refine (rcell_any _ _).mono ?_; rintro e w' ⟨rfl, rfl⟩) | (go_at_call 96; refine (rflag_any _ _).mono ?_; rintro e w' ⟨rfl, rfl⟩) | (go_at_call 95; refine (half_any _ (by omega) _).mono ?_; rintro e w' ⟨rfl, rfl⟩) | (go_at_call 140; refine (rquot_any _ _ (by omega) (by omega) (by assumption) _).mono ?_; rintro e w' ⟨rfl, rfl⟩) | (go_at_call 99; refine (power_any _ (by omega) (by omega) _).mono ?_; rintro e w' ⟨rfl, rfl⟩))
  go_ret2
  exact ⟨ret_ib (ru_33 x) rfl, rfl⟩
set_option maxHeartbeats 400000 in
theorem runary_34 (x : Int) (hx : C x) (w : World) :
    Calls Tryz.prog 59 #[.int .i64 34, .int .u16 x] w fun e w' => e = .returned (.tuple #[.int .u16 (un 34 x), .bool true]) ∧ w' = w := by
  have hs := sg_range hx
  have kx := hx
  unfold C at kx
  go_enter Tryz.func59, Tryz.ntmps59
  go_wp2_with (first | (go_at_call 93; refine (rsigned_any _ ?_ _).mono ?_; rotate_left 1; rintro e w' ⟨rfl, rfl⟩; rotate_left 1; (first | exact hx | exact hy)) | (go_at_call 94; refine (rcell_any _ _).mono ?_; rintro e w' ⟨rfl, rfl⟩) | (go_at_call 96; refine (rflag_any _ _).mono ?_; rintro e w' ⟨rfl, rfl⟩) | (go_at_call 95; refine (half_any _ (by omega) _).mono ?_; rintro e w' ⟨rfl, rfl⟩) | (go_at_call 140; refine (rquot_any _ _ (by omega) (by omega) (by assumption) _).mono ?_; rintro e w' ⟨rfl, rfl⟩) | (go_at_call 99; refine (power_any _ (by omega) (by omega) _).mono ?_; rintro e w' ⟨rfl, rfl⟩))
  go_ret2
  exact ⟨ret_ib (ru_34 x) rfl, rfl⟩
set_option maxHeartbeats 400000 in
theorem runary_39 (x : Int) (hx : C x) (w : World) :
    Calls Tryz.prog 59 #[.int .i64 39, .int .u16 x] w fun e w' => e = .returned (.tuple #[.int .u16 (un 39 x), .bool true]) ∧ w' = w := by
  have hs := sg_range hx
  have kx := hx
  unfold C at kx
  go_enter Tryz.func59, Tryz.ntmps59
  go_wp2_with (first | (go_at_call 93; refine (rsigned_any _ ?_ _).mono ?_; rotate_left 1; rintro e w' ⟨rfl, rfl⟩; rotate_left 1; (first | exact hx | exact hy)) | (go_at_call 94; refine (rcell_any _ _).mono ?_; rintro e w' ⟨rfl, rfl⟩) | (go_at_call 96; refine (rflag_any _ _).mono ?_; rintro e w' ⟨rfl, rfl⟩) | (go_at_call 95; refine (half_any _ (by omega) _).mono ?_; rintro e w' ⟨rfl, rfl⟩) | (go_at_call 140; refine (rquot_any _ _ (by omega) (by omega) (by assumption) _).mono ?_; rintro e w' ⟨rfl, rfl⟩) | (go_at_call 99; refine (power_any _ (by omega) (by omega) _).mono ?_; rintro e w' ⟨rfl, rfl⟩))
  go_ret2
  exact ⟨ret_ib (ru_39 x) rfl, rfl⟩
set_option maxHeartbeats 400000 in
theorem runary_35 (x : Int) (hx : C x) (w : World) :
    Calls Tryz.prog 59 #[.int .i64 35, .int .u16 x] w fun e w' => e = .returned (.tuple #[.int .u16 (un 35 x), .bool true]) ∧ w' = w := by
  have hs := sg_range hx
  have kx := hx
  unfold C at kx
  go_enter Tryz.func59, Tryz.ntmps59
  go_wp2_with (first | (go_at_call 93; refine (rsigned_any _ ?_ _).mono ?_; rotate_left 1; rintro e w' ⟨rfl, rfl⟩; rotate_left 1; (first | exact hx | exact hy)) | (go_at_call 94; refine (rcell_any _ _).mono ?_; rintro e w' ⟨rfl, rfl⟩) | (go_at_call 96; refine (rflag_any _ _).mono ?_; rintro e w' ⟨rfl, rfl⟩) | (go_at_call 95; refine (half_any _ (by omega) _).mono ?_; rintro e w' ⟨rfl, rfl⟩) | (go_at_call 140; refine (rquot_any _ _ (by omega) (by omega) (by assumption) _).mono ?_; rintro e w' ⟨rfl, rfl⟩) | (go_at_call 99; refine (power_any _ (by omega) (by omega) _).mono ?_; rintro e w' ⟨rfl, rfl⟩))
  go_ret2
  exact ⟨ret_ib (un_35 x) rfl, rfl⟩
set_option maxHeartbeats 400000 in
theorem runary_48 (x : Int) (hx : C x) (w : World) :
    Calls Tryz.prog 59 #[.int .i64 48, .int .u16 x] w fun e w' => e = .returned (.tuple #[.int .u16 (un 48 x), .bool true]) ∧ w' = w := by
  have hs := sg_range hx
  have kx := hx
  unfold C at kx
  go_enter Tryz.func59, Tryz.ntmps59
  go_wp2_with (first | (go_at_call 93; refine (rsigned_any _ ?_ _).mono ?_; rotate_left 1; rintro e w' ⟨rfl, rfl⟩; rotate_left 1; (first | exact hx | exact hy)) | (go_at_call 94; refine (rcell_any _ _).mono ?_; rintro e w' ⟨rfl, rfl⟩) | (go_at_call 96; refine (rflag_any _ _).mono ?_; rintro e w' ⟨rfl, rfl⟩) | (go_at_call 95; refine (half_any _ (by omega) _).mono ?_; rintro e w' ⟨rfl, rfl⟩) | (go_at_call 140; refine (rquot_any _ _ (by omega) (by omega) (by assumption) _).mono ?_; rintro e w' ⟨rfl, rfl⟩) | (go_at_call 99; refine (power_any _ (by omega) (by omega) _).mono ?_; rintro e w' ⟨rfl, rfl⟩))
  go_ret2
  exact ⟨ret_ib (un_48 x) rfl, rfl⟩
set_option maxHeartbeats 400000 in
theorem runary_49 (x : Int) (hx : C x) (w : World) :
    Calls Tryz.prog 59 #[.int .i64 49, .int .u16 x] w fun e w' => e = .returned (.tuple #[.int .u16 (un 49 x), .bool true]) ∧ w' = w := by
  have hs := sg_range hx
  have kx := hx
  unfold C at kx
  go_enter Tryz.func59, Tryz.ntmps59
  go_wp2_with (first | (go_at_call 93; refine (rsigned_any _ ?_ _).mono ?_; rotate_left 1; rintro e w' ⟨rfl, rfl⟩; rotate_left 1; (first | exact hx | exact hy)) | (go_at_call 94; refine (rcell_any _ _).mono ?_; rintro e w' ⟨rfl, rfl⟩) | (go_at_call 96; refine (rflag_any _ _).mono ?_; rintro e w' ⟨rfl, rfl⟩) | (go_at_call 95; refine (half_any _ (by omega) _).mono ?_; rintro e w' ⟨rfl, rfl⟩) | (go_at_call 140; refine (rquot_any _ _ (by omega) (by omega) (by assumption) _).mono ?_; rintro e w' ⟨rfl, rfl⟩) | (go_at_call 99; refine (power_any _ (by omega) (by omega) _).mono ?_; rintro e w' ⟨rfl, rfl⟩))
  go_ret2
  exact ⟨ret_ib (un_49 x) rfl, rfl⟩
set_option maxHeartbeats 400000 in
theorem runary_29p (x : Int) (hx : C x) (h : x < 32768) (w : World) :
    Calls Tryz.prog 59 #[.int .i64 29, .int .u16 x] w fun e w' => e = .returned (.tuple #[.int .u16 (un 29 x), .bool true]) ∧ w' = w := by
  have hs := sg_range hx
  have kx := hx
  unfold C at kx
  have h0 : 0 ≤ sg x := by unfold sg; rw [if_pos h]; omega
  go_enter Tryz.func59, Tryz.ntmps59
  go_wp2_with (first | (go_at_call 93; refine (rsigned_any _ ?_ _).mono ?_; rotate_left 1; rintro e w' ⟨rfl, rfl⟩; rotate_left 1; (first | exact hx | exact hy)) | (go_at_call 94; refine (rcell_any _ _).mono ?_; rintro e w' ⟨rfl, rfl⟩) | (go_at_call 96; refine (rflag_any _ _).mono ?_; rintro e w' ⟨rfl, rfl⟩) | (go_at_call 95; refine (half_any _ (by omega) _).mono ?_; rintro e w' ⟨rfl, rfl⟩) | (go_at_call 140; refine (rquot_any _ _ (by omega) (by omega) (by assumption) _).mono ?_; rintro e w' ⟨rfl, rfl⟩) | (go_at_call 99; refine (power_any _ (by omega) (by omega) _).mono ?_; rintro e w' ⟨rfl, rfl⟩))
  go_ret2
  exact ⟨ret_ib (un_29p x hx h) rfl, rfl⟩
set_option maxHeartbeats 400000 in
theorem runary_29n (x : Int) (hx : C x) (h : 32768 ≤ x) (w : World) :
    Calls Tryz.prog 59 #[.int .i64 29, .int .u16 x] w fun e w' => e = .returned (.tuple #[.int .u16 (un 29 x), .bool true]) ∧ w' = w := by
  have hs := sg_range hx
  have kx := hx
  unfold C at kx
  have h0 : sg x < 0 := by unfold sg; rw [if_neg (by omega)]; omega
  go_enter Tryz.func59, Tryz.ntmps59
  go_wp2_with (first | (go_at_call 93; refine (rsigned_any _ ?_ _).mono ?_; rotate_left 1; rintro e w' ⟨rfl, rfl⟩; rotate_left 1; (first | exact hx | exact hy)) | (go_at_call 94; refine (rcell_any _ _).mono ?_; rintro e w' ⟨rfl, rfl⟩) | (go_at_call 96; refine (rflag_any _ _).mono ?_; rintro e w' ⟨rfl, rfl⟩) | (go_at_call 95; refine (half_any _ (by omega) _).mono ?_; rintro e w' ⟨rfl, rfl⟩) | (go_at_call 140; refine (rquot_any _ _ (by omega) (by omega) (by assumption) _).mono ?_; rintro e w' ⟨rfl, rfl⟩) | (go_at_call 99; refine (power_any _ (by omega) (by omega) _).mono ?_; rintro e w' ⟨rfl, rfl⟩))
  go_ret2
  exact ⟨ret_ib (un_29n x h) rfl, rfl⟩
set_option maxHeartbeats 400000 in
theorem runary_no (op x : Int) (hx : C x) (h : isUn op = false) (w : World) :
    Calls Tryz.prog 59 #[.int .i64 op, .int .u16 x] w fun e w' => e = .returned (.tuple #[.int .u16 (un op x), .bool (isUn op)]) ∧ w' = w := by
  have hz : Hid ((0 : Int) = un op x) := un_no op x h
  have hf : Hid (isUn op = false) := h
  have hh := h
  simp only [isUn, Bool.or_eq_false_iff] at hh
  obtain ⟨⟨⟨⟨⟨⟨⟨⟨e28, e29⟩, e32⟩, e33⟩, e34⟩, e35⟩, e39⟩, e48⟩, e49⟩ := hh
  clear h
  go_enter Tryz.func59, Tryz.ntmps59
  go_wp2_with (first | (go_at_call 93; refine (rsigned_any _ ?_ _).mono ?_; rotate_left 1; rintro e w' ⟨rfl, rfl⟩; rotate_left 1; (first | exact hx | exact hy)) | (go_at_call 94; refine (rcell_any _ _).mono ?_; rintro e w' ⟨rfl, rfl⟩) | (go_at_call 96; refine (rflag_any _ _).mono ?_; rintro e w' ⟨rfl, rfl⟩) | (go_at_call 95; refine (half_any _ (by omega) _).mono ?_; rintro e w' ⟨rfl, rfl⟩) | (go_at_call 140; refine (rquot_any _ _ (by omega) (by omega) (by assumption) _).mono ?_; rintro e w' ⟨rfl, rfl⟩) | (go_at_call 99; refine (power_any _ (by omega) (by omega) _).mono ?_; rintro e w' ⟨rfl, rfl⟩))
  go_ret2
  exact ⟨ret_ib hz.out hf.out.symm, rfl⟩
theorem runary_any (op x : Int) (hx : C x) (w : World) :
    Calls Tryz.prog 59 #[.int .i64 op, .int .u16 x] w fun e w' => e = .returned (.tuple #[.int .u16 (un op x), .bool (isUn op)]) ∧ w' = w := by
  cases h : isUn op
  · rw [← h]; exact runary_no op x hx h w
  · simp only [isUn, Bool.or_eq_true, beq_iff_eq] at h
    rcases h with (((((((h | h) | h) | h) | h) | h) | h) | h) | h <;> subst h
    · exact runary_28 x hx w
    · by_cases k : x < 32768
      · exact runary_29p x hx k w
      · exact runary_29n x hx (by omega) w
    · exact runary_32 x hx w
    · exact runary_33 x hx w
    · exact runary_34 x hx w
    · exact runary_35 x hx w
    · exact runary_39 x hx w
    · exact runary_48 x hx w
    · exact runary_49 x hx w
set_option maxHeartbeats 400000 in
theorem div_24 (x y : Int) (hx : C x) (hy : C y) (h0 : y ≠ 0) (w : World) :
    Calls Tryz.prog 97 #[.int .i64 24, .int .u16 x, .int .u16 y] w fun e w' => e = .returned (.int .u16 (bi 24 x y)) ∧ w' = w := by
  have hs := sg_range hx
  have ht := sg_range hy
  have kx := hx
  have ky := hy
  unfold C at kx ky
  have ht0 : sg y ≠ 0 := fun e => h0 ((sg_zero hy).1 e)
  have hq := tdiv_range (sg x) (sg y) (by omega)
  have hm := mul_range ((sg x).tdiv (sg y)) (sg y) hq (by omega)
  have hq2 := ediv_range x y (by omega) (by omega) (by omega)
  have hm2 := mul_range (x / y) y (by omega) (by omega)
  have h1 : 1 ≤ y := by omega
  have H0 : Hid (y ≠ 0) := h0
  have b0 : (y == 0) = false := by simpa using h0
  clear h0
  go_enter Tryz.func97, Tryz.ntmps97
  go_wp2_with (first | (go_at_call 93; refine (rsigned_any _ ?_ _).mono ?_; rotate_left 1; rintro e w' ⟨rfl, rfl⟩; rotate_left 1; (first | exact hx | exact hy)) | (go_at_call 94; refine (rcell_any _ _).mono ?_; rintro e w' ⟨rfl, rfl⟩) | (go_at_call 96; refine (rflag_any _ _).mono ?_; rintro e w' ⟨rfl, rfl⟩) | (go_at_call 95; refine (half_any _ (by omega) _).mono ?_; rintro e w' ⟨rfl, rfl⟩) | (go_at_call 140; refine (rquot_any _ _ (by omega) (by omega) (by assumption) _).mono ?_; rintro e w' ⟨rfl, rfl⟩) | (go_at_call 99; refine (power_any _ (by omega) (by omega) _).mono ?_; rintro e w' ⟨rfl, rfl⟩))
  go_ret
  exact ⟨ret_int (rb_24 x y H0.out), rfl⟩
set_option maxHeartbeats 400000 in
theorem div_25 (x y : Int) (hx : C x) (hy : C y) (h0 : y ≠ 0) (w : World) :
    Calls Tryz.prog 97 #[.int .i64 25, .int .u16 x, .int .u16 y] w fun e w' => e = .returned (.int .u16 (bi 25 x y)) ∧ w' = w := by
  have hs := sg_range hx
  have ht := sg_range hy
  have kx := hx
  have ky := hy
  unfold C at kx ky
  have ht0 : sg y ≠ 0 := fun e => h0 ((sg_zero hy).1 e)
  have hq := tdiv_range (sg x) (sg y) (by omega)
  have hm := mul_range ((sg x).tdiv (sg y)) (sg y) hq (by omega)
  have hq2 := ediv_range x y (by omega) (by omega) (by omega)
  have hm2 := mul_range (x / y) y (by omega) (by omega)
  have h1 : 1 ≤ y := by omega
  have H0 : Hid (y ≠ 0) := h0
  have b0 : (y == 0) = false := by simpa using h0
  clear h0
  go_enter Tryz.func97, Tryz.ntmps97
  go_wp2_with (first | (go_at_call 93; refine (rsigned_any _ ?_ _).mono ?_; rotate_left 1; rintro e w' ⟨rfl, rfl⟩; rotate_left 1; (first | exact hx | exact hy)) | (go_at_call 94; refine (rcell_any _ _).mono ?_; rintro e w' ⟨rfl, rfl⟩) | (go_at_call 96; refine (rflag_any _ _).mono ?_; rintro e w' ⟨rfl, rfl⟩) | (go_at_call 95; refine (half_any _ (by omega) _).mono ?_; rintro e w' ⟨rfl, rfl⟩) | (go_at_call 140; refine (rquot_any _ _ (by omega) (by omega) (by assumption) _).mono ?_; rintro e w' ⟨rfl, rfl⟩) | (go_at_call 99; refine (power_any _ (by omega) (by omega) _).mono ?_; rintro e w' ⟨rfl, rfl⟩))
  go_ret
  exact ⟨ret_int (rb_25 x y H0.out), rfl⟩
set_option maxHeartbeats 400000 in
theorem div_26 (x y : Int) (hx : C x) (hy : C y) (h0 : y ≠ 0) (w : World) :
    Calls Tryz.prog 97 #[.int .i64 26, .int .u16 x, .int .u16 y] w fun e w' => e = .returned (.int .u16 (bi 26 x y)) ∧ w' = w := by
  have hs := sg_range hx
  have ht := sg_range hy
  have kx := hx
  have ky := hy
  unfold C at kx ky
  have ht0 : sg y ≠ 0 := fun e => h0 ((sg_zero hy).1 e)
  have hq := tdiv_range (sg x) (sg y) (by omega)
  have hm := mul_range ((sg x).tdiv (sg y)) (sg y) hq (by omega)
  have hq2 := ediv_range x y (by omega) (by omega) (by omega)
  have hm2 := mul_range (x / y) y (by omega) (by omega)
  have h1 : 1 ≤ y := by omega
  have H0 : Hid (y ≠ 0) := h0
  have b0 : (y == 0) = false := by simpa using h0
  clear h0
  go_enter Tryz.func97, Tryz.ntmps97
  go_wp2_with (first | (go_at_call 93; refine (rsigned_any _ ?_ _).mono ?_; rotate_left 1; rintro e w' ⟨rfl, rfl⟩; rotate_left 1; (first | exact hx | exact hy)) | (go_at_call 94; refine (rcell_any _ _).mono ?_; rintro e w' ⟨rfl, rfl⟩) | (go_at_call 96; refine (rflag_any _ _).mono ?_; rintro e w' ⟨rfl, rfl⟩) | (go_at_call 95; refine (half_any _ (by omega) _).mono ?_; rintro e w' ⟨rfl, rfl⟩) | (go_at_call 140; refine (rquot_any _ _ (by omega) (by omega) (by assumption) _).mono ?_; rintro e w' ⟨rfl, rfl⟩) | (go_at_call 99; refine (power_any _ (by omega) (by omega) _).mono ?_; rintro e w' ⟨rfl, rfl⟩))
  go_ret
  exact ⟨ret_int (rb_26 x y H0.out), rfl⟩
set_option maxHeartbeats 400000 in
theorem div_27 (x y : Int) (hx : C x) (hy : C y) (h0 : y ≠ 0) (w : World) :
    Calls Tryz.prog 97 #[.int .i64 27, .int .u16 x, .int .u16 y] w fun e w' => e = .returned (.int .u16 (bi 27 x y)) ∧ w' = w := by
  have hs := sg_range hx
  have ht := sg_range hy
  have kx := hx
  have ky := hy
  unfold C at kx ky
  have ht0 : sg y ≠ 0 := fun e => h0 ((sg_zero hy).1 e)
  have hq := tdiv_range (sg x) (sg y) (by omega)
  have hm := mul_range ((sg x).tdiv (sg y)) (sg y) hq (by omega)
  have hq2 := ediv_range x y (by omega) (by omega) (by omega)
  have hm2 := mul_range (x / y) y (by omega) (by omega)
  have h1 : 1 ≤ y := by omega
  have H0 : Hid (y ≠ 0) := h0
  have b0 : (y == 0) = false := by simpa using h0
  clear h0
  go_enter Tryz.func97, Tryz.ntmps97
  go_wp2_with (first | (go_at_call 93; refine (rsigned_any _ ?_ _).mono ?_; rotate_left 1; rintro e w' ⟨rfl, rfl⟩; rotate_left 1; (first | exact hx | exact hy)) | (go_at_call 94; refine (rcell_any _ _).mono ?_; rintro e w' ⟨rfl, rfl⟩) | (go_at_call 96; refine (rflag_any _ _).mono ?_; rintro e w' ⟨rfl, rfl⟩) | (go_at_call 95; refine (half_any _ (by omega) _).mono ?_; rintro e w' ⟨rfl, rfl⟩) | (go_at_call 140; refine (rquot_any _ _ (by omega) (by omega) (by assumption) _).mono ?_; rintro e w' ⟨rfl, rfl⟩) | (go_at_call 99; refine (power_any _ (by omega) (by omega) _).mono ?_; rintro e w' ⟨rfl, rfl⟩))
  go_ret
  exact ⟨ret_int (rb_27 x y H0.out), rfl⟩
end Go.Proofs.YtgponcjjnjpfkabGreat.C
