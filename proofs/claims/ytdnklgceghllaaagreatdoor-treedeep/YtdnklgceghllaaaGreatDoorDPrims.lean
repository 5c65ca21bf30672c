import Derived.Test.YtdnklgceghllaaaGreatDoorRMap
import Derived.Test.YtdnklgceghllaaaGreatDoorPAll
import Derived.Laws.EntriesVeiled
namespace Go.Proofs.YtdnklgceghllaaaGreatDoor.D
open Go.RowKit Go.Shelf
open Go.Proofs
open Go.Proofs.YtdnklgceghllaaaGreatDoor.R (MP En ents lk)
open Go.Proofs.YtdnklgceghllaaaGreatDoor.P (all_any all_stops blk_kept rowV allN)
open Go.ChangeMaps (setBlock)
set_option linter.unusedVariables false
set_option linter.unusedSimpArgs false
set_option maxHeartbeats 2000000
set_option maxRecDepth 100000
attribute [local go_sem] Oper.semAt_some
def pmL (l : List Nat) : En := l.foldl (fun L x => upd L (P.nm x) (x : Int)) []
def PM : En := pmL allN
theorem pmL_app (l : List Nat) (x : Nat) : pmL (l ++ [x]) = upd (pmL l) (P.nm x) (x : Int) := by
 unfold pmL
 rw [List.foldl_append]
 rfl
def PB (W : World) (B : Nat) (pre : List Nat) : Prop := MP W B (pmL pre) /\ W.heap[B + 1]? = some (.cells #[.map (some B)] 94 (0, 0))
theorem PB.from {W W' : World} {B N : Nat} {row : Option Nat} {pre : List Nat} (h : PB W B pre) (hN : B + 1 < N) (hg : W.grownBy W' row) (hr : ∀ r, row = some r -> N <= r /\ ∃ o : Obj, W.heap[r]? = some o /\ o.isCells = false) : PB W' B pre :=
 ⟨h.1.kept (hg.block B h.1.lt (fun e => by have := (hr B e.symm).1; omega)), blk_kept h.2 hg (fun r e => (hr r e).2)⟩
theorem prims_any (w : World) :
  Calls Tryz.prog 43 #[] w fun e w' => e = .returned (.map (some w.heap.size)) /\ MP w' w.heap.size PM /\ Below w.heap.size w w' := by
 refine (callsIn_wide (n := 9)).1 ?_
 refine callsIn_of_wp_marks Tryz.func43 rfl trivial ?_ rfl
 simp only [Tryz.ntmps43, List.size_toArray, List.length_cons, List.length_nil, Nat.reduceAdd, Nat.reduceSub, Array.replicate_succ, Array.replicate_zero, List.push_toArray, List.append_toArray, List.nil_append, List.cons_append]
 have hmm := @run_makeMap Tryz.prog
 gi_wp2_with (refine ⟨trivial, ?_⟩; gi_at_call 74; refine (callsIn_wide.2 (all_any _)).mono ?_; rintro e w' ⟨rfl, rfl⟩)
 obtain ⟨w0, hw0⟩ : ∃ w0, (w.alloc (.map #[] 0)).alloc (.cells #[.map (some w.heap.size)] 94) = w0 := ⟨_, rfl⟩
 have hB0 : Below w.heap.size w w0 := by rw [<- hw0]; exact ((Below.refl _ w).alloc (Nat.le_refl _) _).alloc (by simp) _
 have hsz : w0.heap.size = w.heap.size + 2 := by rw [<- hw0]; simp
 have hN0 : PB w0 w.heap.size [] := by
  rw [<- hw0]
  refine ⟨?_, ?_⟩
  ·exact (Below.heap_alloc _ _ _ (by simp)).trans (heap_alloc_new w _)
  ·have := heap_alloc_new (w.alloc (.map #[] 0)) (.cells #[.map (some w.heap.size)] 94)
   rwa [show (w.alloc (.map #[] 0)).heap.size = w.heap.size + 1 by simp] at this
 rw [hw0]
 refine wpIn_rangeFunc_ownH rfl (by omega) (gf := 104) (lb := #[]) rfl trivial Tryz.call104 (all_stops 8 w.heap.size (by omega) w0) belowK_t (belowK_b (by omega)) (Below.refl _ _) (fun _ => rfl)
  (fun pre W => PB W w.heap.size pre /\ Below w.heap.size w W)
  (fun c pre W => False /\ Below w.heap.size w W)
  (OwnFrom.and (fun s A B row hs hg hr => hs.from (N := w0.heap.size) (by omega) hg hr) (ownFrom_below (Nat.le_refl _) (by omega)))
  (fun c => fun s A B row hs hg hr => hs.1.elim)
  ⟨hN0, hB0⟩
  (fun x a' W => ∃ Bx, w0.heap.size <= Bx /\ W.heap[Bx]? = some (.cells #[.int .i64 (x : Int), .string (P.nm x), .int .i64 (P.ri x), .int .i64 (P.ro x), .int .i64 (P.rc x), .bool (P.rb x)] 129 (0, 0)) /\ a' = { tmps := #[.map none, .pointer (some ⟨w.heap.size + 1, 0, none⟩), .pointer (some ⟨Bx, 0, none⟩), .map (some w.heap.size), .func (.func 104) #[] #[], .agg #[.int .i64 (x : Int), .string (P.nm x), .int .i64 (P.ri x), .int .i64 (P.ro x), .int .i64 (P.rc x), .bool (P.rb x)], undef, undef, undef, undef, undef, undef], defers := [] })
  (fun x a' s A B row hs hg hr => by obtain ⟨Bx, h1, h2, h3⟩ := hs; exact ⟨Bx, h1, blk_kept h2 hg (fun r e => (hr r e).2), h3⟩) ?assign ?body ?done ?stop
 case assign =>
  rintro l pre x W K ⟨hN, hB⟩ hK
  have hs : w0.heap.size <= W.heap.size := by have := S.lt_of hN.2; omega
  unfold rowV
  gi_wp2
  exact hK _ _ ((KeepsOthers.alloc _ _).from _) ((Below.refl _ W).alloc (by omega) _) ⟨⟨hN.1.kept (Below.heap_alloc _ _ _ hN.1.lt), (Below.heap_alloc _ _ _ (S.lt_of hN.2)).trans hN.2⟩, hB.alloc hB.size _⟩ ⟨W.heap.size, hs, heap_alloc_new W _, rfl⟩
 case body =>
  rintro l pre x a' W hl ⟨r, hr⟩ ⟨hN, hB⟩ ⟨Bx, hBx, hX, rfl⟩ hlt
  have cN := S.cell_of W (w.heap.size + 1) 0 [.map (some w.heap.size)] 94 _ hN.2 rfl
  have c0 := S.cell_of W Bx 0 [.int .i64 (x : Int), .string (P.nm x), .int .i64 (P.ri x), .int .i64 (P.ro x), .int .i64 (P.rc x), .bool (P.rb x)] 129 _ hX rfl
  have c1 := S.cell_of W Bx 1 [.int .i64 (x : Int), .string (P.nm x), .int .i64 (P.ri x), .int .i64 (P.ro x), .int .i64 (P.rc x), .bool (P.rb x)] 129 _ hX rfl
  have hput := run_upd W w.heap.size (P.nm x) (x : Int) (pmL pre) hN.1
  have HU := Y.hid (And.intro (MP.upd hN.1 (P.nm x) (x : Int)) (And.intro hN (And.intro hB hBx)))
  rw [<- pmL_app] at hput HU
  clear hN hB hX hr
  gi_wp2
  obtain ⟨hM, hN, hB, hBx⟩ := HU.out
  refine ⟨KeepsFrom.of_grownBy (row := some w.heap.size) ⟨rfl, rfl, rfl, by rw [R.setBlock_size]; exact Nat.le_refl _, fun k hk hne => R.setBlock_other W w.heap.size k _ (by rintro rfl; exact hne rfl)⟩ (fun j e => by cases e; omega), R.below_setBlock (Below.refl _ _) _ (Nat.le_refl _) _, ⟨hM, (R.setBlock_other W w.heap.size _ _ (by omega)).trans hN.2⟩, R.below_setBlock hB _ (Nat.le_refl _) _⟩
 case done =>
  rintro D ys W hD rfl ⟨hN, hB⟩ hK
  have cN := S.cell_of W (w.heap.size + 1) 0 [.map (some w.heap.size)] 94 _ hN.2 rfl
  gi_wp2
  have hN5 := hN.from (N := w0.heap.size) (by omega) (grownBy_putObj' W D (.deferred none)) (fun r e => by cases e; exact ⟨hD, _, hK, rfl⟩)
  refine ⟨by simp, .inl ⟨_, _, rfl, run_takeDeferred hK, ?_⟩⟩
  refine ⟨.map (some w.heap.size), ?_, rfl, hN5.1, hB.trans (belowK_b (w := w) (Nat.le_refl _) _ D _ _ (by omega) hK rfl rfl)⟩
  simp [results, Tryz.results43, go_sem]
 case stop =>
  rintro D c pre W hD hpre ⟨hf, _⟩ hK
  exact hf.elim
end Go.Proofs.YtdnklgceghllaaaGreatDoor.D
