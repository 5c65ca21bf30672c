import Derived.Test.YteldjmecomngeaaGreatMRCopy
import Derived.Test.YteldjmecomngeaaGreatVTks
import Derived.Deep.RegionHeldLaw
import Derived.Laws.Rows
namespace Go.Proofs.YteldjmecomngeaaGreat.M
open Go.RowKit
open Go.Proofs
set_option linter.unusedVariables false
set_option linter.unusedSimpArgs false
set_option maxHeartbeats 4000000
set_option maxRecDepth 100000
theorem sizeIm : (Tryz.prog.info? 104).map (·.size) = some 8 := by kernel_rfl
theorem step_store_row {ops : Array Oper} {o : Oper} {a : Act} {w : World} {K : Act -> World -> Prop} {Q : Exit -> Act -> World -> Prop} {E : Prop} (hgd : o.guard = none) (ty : TypeId) (x y : Operand) (ho : o.op = .store ty x y)
  (g : Nat) (cells : Array Value) (hx : a.eval x = .pointer (some ⟨g, 0, none⟩)) (hy : a.eval y = .agg cells)
  (t : TypeId) (old : Array Value) (hg : w.heap[g]? = some (.cells old t (0, 0))) (hi : (Tryz.prog.info? ty).map (·.size) = some cells.size)
  (hold : old.size = cells.size) (h1 : cells.all (·.oneCell') = true) (h : K (a.put o.dst undef) (w.setRow g cells)) :
  if Region.wanted o (yielded ops a.tmps) = true then Oper.wp Tryz.prog o a w K Q else E := by
 have hw : Region.wanted o (yielded ops a.tmps) = true := by simp [Region.wanted, hgd]
 rw [if_pos hw]
 exact wp_store_row ty x y ho g cells hx hy t old hg hi hold h1 h
def z8 : Array Value := #[.slice none 0 0, .slice none 0 0, .slice none 0 0, .int .u8 0, .int .u8 0, .int .u16 0, .int .u8 0, .int .u16 0]
theorem rimage_any (b : Nat) (w : World) {F : Nat -> Prop} {m : MS} (hm : IsR w F b m) (ht : m.tones.length <= 1000000) :
  Calls Tryz.prog 35 #[.pointer (some ⟨b, 0, none⟩)] w fun e w' => ∃ pb cb gr gc, e = .returned (.agg (imgC (.slice pb (inO m 16).length cb) (.slice (some ⟨gr, 0, none⟩) 16384 16384) (.slice (some ⟨gc, 0, none⟩) 3072 3072) m).toArray) /\ RIm w' pb gr gc m /\ Below w.heap.size w w' := by
 obtain ⟨w1, hw1⟩ : ∃ w1, w.alloc (.cells #[.slice none 0 0, .slice none 0 0, .slice none 0 0, .int .u8 0, .int .u8 0, .int .u16 0, .int .u8 0, .int .u16 0] 104) = w1 := ⟨_, rfl⟩
 have hb1 : Below w.heap.size w w1 := by rw [<- hw1]; exact (Below.refl _ w).alloc (Nat.le_refl _) _
 have hz1 : w1.heap.size = w.heap.size + 1 := by rw [<- hw1]; simp
 have hr1 : w1.heap[w.heap.size]? = some (.cells z8 104 (0, 0)) := by rw [<- hw1]; exact heap_alloc_new w _
 have hc := rcopy_is b w1 (hm.below hb1) ht
 clear hm
 go_enter Tryz.func35, Tryz.ntmps35
 go_wp2_with fail
 refine hc.mono ?_
 rintro e w2 ⟨b', rfl, hR, hB⟩
 obtain ⟨hw, u, gr, gc, gs, tv, h⟩ := hR
 obtain ⟨pb, cb, rfl, -⟩ := h.banks.ex
 have hbz := hB.size
 have hne : b' ≠ w.heap.size := by have : w1.heap.size <= b' := h.fb; omega
 have hr2 : w2.drew.heap[w.heap.size]? = some (.cells z8 104 (0, 0)) := (hB.block w.heap.size (by omega)).trans hr1
 have h9 := h.kept (W' := w2.drew.setRow w.heap.size #[.slice pb (inO m 16).length cb, .slice (some ⟨gr, 0, none⟩) 16384 16384, .slice (some ⟨gc, 0, none⟩) 3072 3072, .int .u8 m.ch, .int .u8 m.pad, .int .u16 m.pitch, .int .u8 m.vol, .int .u16 m.time]) fun i _ hi => setRow_other w2.drew w.heap.size i _ (by have : w1.heap.size <= i := hi; omega)
 have hfin := setRow_heap w2.drew w.heap.size _ #[.slice pb (inO m 16).length cb, .slice (some ⟨gr, 0, none⟩) 16384 16384, .slice (some ⟨gc, 0, none⟩) 3072 3072, .int .u8 m.ch, .int .u8 m.pad, .int .u16 m.pitch, .int .u8 m.vol, .int .u16 m.time] _ _ hr2
 obtain ⟨p2, c2, e2, hb9⟩ := h9.banks.ex
 cases e2
 have hRI : RIm (w2.drew.setRow w.heap.size #[.slice pb (inO m 16).length cb, .slice (some ⟨gr, 0, none⟩) 16384 16384, .slice (some ⟨gc, 0, none⟩) 3072 3072, .int .u8 m.ch, .int .u8 m.pad, .int .u16 m.pitch, .int .u8 m.vol, .int .u16 m.time]) pb gr gc m := ⟨hb9, B5.sl h9.ram h9.rl, B5.sl h9.scr h9.sl⟩
 have hB2 : Below w.heap.size w w2 := hb1.trans (hB.mono (by omega))
 have hBF : Below w.heap.size w (w2.drew.setRow w.heap.size #[.slice pb (inO m 16).length cb, .slice (some ⟨gr, 0, none⟩) 16384 16384, .slice (some ⟨gc, 0, none⟩) 3072 3072, .int .u8 m.ch, .int .u8 m.pad, .int .u16 m.pitch, .int .u8 m.vol, .int .u16 m.time]) := ⟨hB2.os, hB2.tape, hB2.output, Nat.le_trans hB2.size (by simp [World.setRow]), fun i hi => (setRow_other w2.drew w.heap.size i _ (by omega)).trans (hB2.block i hi)⟩
 have s0 : (fun w' => w'.cell? ⟨b', 0, none⟩ = some (.slice pb (inO m 16).length cb) /\ w'.cell? ⟨b', 1, none⟩ = some (.slice (some ⟨gr, 0, none⟩) 16384 16384) /\ w'.cell? ⟨b', 2, none⟩ = some (.slice (some ⟨gc, 0, none⟩) 3072 3072) /\ w'.cell? ⟨b', 3, none⟩ = some (.int .u8 m.ch) /\ w'.cell? ⟨b', 4, none⟩ = some (.int .u8 m.pad) /\ w'.cell? ⟨b', 5, none⟩ = some (.int .u16 m.pitch) /\ w'.cell? ⟨b', 6, none⟩ = some (.int .u8 m.vol) /\ w'.cell? ⟨b', 7, none⟩ = some (.int .u16 m.time)) w2.drew := ⟨cell_of w2.drew b' 0 _ 95 _ h.blk rfl, cell_of w2.drew b' 1 _ 95 _ h.blk rfl, cell_of w2.drew b' 2 _ 95 _ h.blk rfl, cell_of w2.drew b' 3 _ 95 _ h.blk rfl, cell_of w2.drew b' 4 _ 95 _ h.blk rfl, cell_of w2.drew b' 5 _ 95 _ h.blk rfl, cell_of w2.drew b' 6 _ 95 _ h.blk rfl, cell_of w2.drew b' 7 _ 95 _ h.blk rfl⟩
 have s1 : (fun w' => w'.cell? ⟨b', 0, none⟩ = some (.slice pb (inO m 16).length cb) /\ w'.cell? ⟨b', 1, none⟩ = some (.slice (some ⟨gr, 0, none⟩) 16384 16384) /\ w'.cell? ⟨b', 2, none⟩ = some (.slice (some ⟨gc, 0, none⟩) 3072 3072) /\ w'.cell? ⟨b', 3, none⟩ = some (.int .u8 m.ch) /\ w'.cell? ⟨b', 4, none⟩ = some (.int .u8 m.pad) /\ w'.cell? ⟨b', 5, none⟩ = some (.int .u16 m.pitch) /\ w'.cell? ⟨b', 6, none⟩ = some (.int .u8 m.vol) /\ w'.cell? ⟨b', 7, none⟩ = some (.int .u16 m.time)) (w2.drew.setRow w.heap.size #[.slice pb (inO m 16).length cb, .slice (some ⟨gr, 0, none⟩) 16384 16384, .slice (some ⟨gc, 0, none⟩) 3072 3072, .int .u8 m.ch, .int .u8 m.pad, .int .u16 m.pitch, .int .u8 m.vol, .int .u16 m.time]) := ⟨cell_of _ b' 0 _ 95 _ h9.blk rfl, cell_of _ b' 1 _ 95 _ h9.blk rfl, cell_of _ b' 2 _ 95 _ h9.blk rfl, cell_of _ b' 3 _ 95 _ h9.blk rfl, cell_of _ b' 4 _ 95 _ h9.blk rfl, cell_of _ b' 5 _ 95 _ h9.blk rfl, cell_of _ b' 6 _ 95 _ h9.blk rfl, cell_of _ b' 7 _ 95 _ h9.blk rfl⟩
 have HF : Hid _ := And.intro hfin (And.intro hRI hBF)
 have HR2 : Hid _ := hr2
 have HS1 : Hid _ := s1
 clear h h9 hfin hRI hBF hB2 hB hr1 hb1 hz1 hc hw1 hr2 hb9 s1 hw hbz
 go_wp2_with fail
 refine wp_region_held_drew (S := (fun w' => w'.cell? ⟨b', 0, none⟩ = some (.slice pb (inO m 16).length cb) /\ w'.cell? ⟨b', 1, none⟩ = some (.slice (some ⟨gr, 0, none⟩) 16384 16384) /\ w'.cell? ⟨b', 2, none⟩ = some (.slice (some ⟨gc, 0, none⟩) 3072 3072) /\ w'.cell? ⟨b', 3, none⟩ = some (.int .u8 m.ch) /\ w'.cell? ⟨b', 4, none⟩ = some (.int .u8 m.pad) /\ w'.cell? ⟨b', 5, none⟩ = some (.int .u16 m.pitch) /\ w'.cell? ⟨b', 6, none⟩ = some (.int .u8 m.vol) /\ w'.cell? ⟨b', 7, none⟩ = some (.int .u16 m.time))) (by kernel_rfl) s0 (fun hHeld => ?_)
 generalize hWd : w2.drew = Wd at *
 refine V.wtk0 (is := [0, 1, 2, 3, 4, 5, 6, 7, 8, 9, 10, 11, 12, 13, 14, 15, 16, 17, 18, 19, 20, 21, 22, 23, 24, 25, 26, 27, 28, 29, 30, 31]) ?_
 iterate 32
  refine V.wt (v := ?_) rfl (by kernel_rfl) (fun c a w h => h) (by rfl) ?_ hHeld ?_
  rotate_left
  ·(intro w hSw; (try dsimp only at hSw); go_simp; try with_reducible rfl)
  simp only [V.pts]
 refine V.wtkE ?_
 refine V.wrd 32 (by kernel_rfl) rfl fun K hK => ?_
 go_simp
 refine hK.out _ _ s0 (fun hHeld => ?_)
 clear hK K
 refine V.wrd 33 (by kernel_rfl) rfl fun K hK => ?_
 refine step_store_row rfl 104 (.tmp 2) (.tmp 38) rfl w.heap.size #[.slice pb (inO m 16).length cb, .slice (some ⟨gr, 0, none⟩) 16384 16384, .slice (some ⟨gc, 0, none⟩) 3072 3072, .int .u8 m.ch, .int .u8 m.pad, .int .u16 m.pitch, .int .u8 m.vol, .int .u16 m.time] (by simp [Act.eval]) (by simp [Act.eval]) 104 z8 HR2.out (by exact sizeIm) (by rfl) (by simp [Value.oneCell']) ?_
 refine hK.out _ _ HS1.out (fun hHeld => ?_)
 clear hK K
 refine wpAnyH_done (by kernel_rfl) ?_ _
 clear hHeld s0 HS1 HR2
 simp only [Act.put, List.setIfInBounds_toArray, List.set_cons_zero, List.set_cons_succ]
 go_wp2
 exact bodyPost_ret (results_cell_row rfl _ _ w.heap.size 104 _ (0, 0) _ rfl HF.out.1 Tryz.underlying104 rfl sizeIm) rfl ⟨pb, cb, gr, gc, rfl, HF.out.2.1, HF.out.2.2⟩
end Go.Proofs.YteldjmecomngeaaGreat.M
