import Derived.Test.YtdnklgceghllaaaGreatDoorDDrop
import Derived.Test.YtdnklgceghllaaaGreatDoorDWord
import Derived.Defers
import Derived.Recover
namespace Go.Proofs.YtdnklgceghllaaaGreatDoor.D
open Go.RowKit
open Go.Proofs
open Go.Proofs.YtdnklgceghllaaaGreatDoor.K (Tk)
open Go.Proofs.YtdnklgceghllaaaGreatDoor.Y (Nd Df Ps ndc dfc NV NA N1 ZV hid)
open Go.Proofs.YtdnklgceghllaaaGreatDoor.R (MP En numb)
set_option linter.unusedVariables false
set_option linter.unusedSimpArgs false
set_option maxHeartbeats 4000000
set_option maxRecDepth 100000
theorem sizePG : (Tryz.prog.info? 26).map (·.size) = some 2 := by kernel_rfl
theorem sizePO : (Tryz.prog.info? 28).map (·.size) = some 2 := by kernel_rfl
theorem run_assert (W : World) (v : Value) : (Instr.typeAssert (.iface 92 v) 20 92 false).run Tryz.prog W = .ok v W := by
 simp [Instr.typeAssert, run_underlying Tryz.underlying92]
theorem row_below {n : Nat} {A B : World} (h : Below n A B) (b : Nat) (hb : n <= b) (c : Array Value) : Below n A (B.setRow b c) :=
 ⟨h.os, h.tape, h.output, by rw [size_setRow]; exact h.size, fun k hk => (setRow_other B b k c (by omega)).trans (h.block k hk)⟩
theorem catch_idle (b : Nat) (w : World) :
  CallsD Tryz.prog 42 #[.pointer (some ⟨b, 0, none⟩), .pointer (some ⟨b + 1, 0, none⟩), .pointer (some ⟨b + 1 + 1, 0, none⟩)] .returning w fun e u' w' => e = .returned (.tuple #[]) /\ u' = .returning /\ w' = w := by
 refine callsD_of_wpS Tryz.func42 rfl fun c₀ cs hu => ?_
 apply wpS_seq
 apply wpS_region
 simp [wpOpsS, go_sem, recoverD, hu, Tryz.ntmps42, Exit.thenS]
 have ht : (#[.pointer (some ⟨b, 0, none⟩), .pointer (some ⟨b + 1, 0, none⟩), .pointer (some ⟨b + 1 + 1, 0, none⟩)] ++ ((Array.replicate 12 undef).setIfInBounds 2 Value.nilIface).setIfInBounds 0 Value.nilIface) = #[.pointer (some ⟨b, 0, none⟩), .pointer (some ⟨b + 1, 0, none⟩), .pointer (some ⟨b + 1 + 1, 0, none⟩), Value.nilIface, undef, Value.nilIface, undef, undef, undef, undef, undef, undef, undef, undef, undef] := rfl
 rw [ht]
 refine wpS_of_wp ?_
 go_wp2
 clear ht
 cases c₀
 simp_all [bodyPostS, results, Tryz.results42]
structure Rz (W : World) (b : Nat) (dv xv : Value) (p : Ps) (c : Int) : Prop where
 p0 : W.heap[b]? = some (.cells #[dv, xv] 26 (0, 0))
 p1 : W.heap[b + 1]? = some (.cells #[.int .i64 p.1, .int .i64 p.2] 28 (0, 0))
 p2 : W.heap[b + 1 + 1]? = some (.cells #[.int .i64 c] 29 (0, 0))
theorem catch_flt (dv xv : Value) (p : Ps) (c : Int) (er : Er) (b : Nat) (w : World) (h : Rz w b dv xv p c) :
  CallsD Tryz.prog 42 #[.pointer (some ⟨b, 0, none⟩), .pointer (some ⟨b + 1, 0, none⟩), .pointer (some ⟨b + 1 + 1, 0, none⟩)] (.panicking (flt er)) w fun e u' w' =>
   e = .returned (.tuple #[]) /\ u' = .panicking [{ v := .iface 92 (.agg #[.int .i64 er.1.1, .int .i64 er.1.2, .int .i64 er.2]), recovered := true }] /\ Rz w' b (.slice none 0 0) (.slice none 0 0) er.1 er.2 /\ ∀ n, n <= b -> Below n w w' := by
 unfold flt
 refine callsD_of_wpS Tryz.func42 rfl fun c₀ cs hu => ?_
 apply wpS_seq
 apply wpS_region
 simp [wpOpsS, go_sem, recoverD, hu, Tryz.ntmps42, Exit.thenS]
 generalize hv : Value.agg #[.int .i64 er.1.1, .int .i64 er.1.2, .int .i64 er.2] = v
 have ht : (#[.pointer (some ⟨b, 0, none⟩), .pointer (some ⟨b + 1, 0, none⟩), .pointer (some ⟨b + 1 + 1, 0, none⟩)] ++ ((Array.replicate 12 undef).setIfInBounds 2 (Value.iface 92 v)).setIfInBounds 0 (Value.iface 92 v)) = #[.pointer (some ⟨b, 0, none⟩), .pointer (some ⟨b + 1, 0, none⟩), .pointer (some ⟨b + 1 + 1, 0, none⟩), Value.iface 92 v, undef, Value.iface 92 v, undef, undef, undef, undef, undef, undef, undef, undef, undef] := rfl
 rw [ht, <- hv]
 clear hv ht v
 refine wpS_of_wp ?_
 have ta := fun W => run_assert W (.agg #[.int .i64 er.1.1, .int .i64 er.1.2, .int .i64 er.2])
 obtain ⟨W1, hW1⟩ : ∃ W1, w.alloc (.cells #[.int .i64 er.1.1, .int .i64 er.1.2, .int .i64 er.2] 92) = W1 := ⟨_, rfl⟩
 have hB : Below w.heap.size w W1 := by rw [<- hW1]; exact (Below.refl _ _).alloc (Nat.le_refl _) _
 have hf : W1.heap[w.heap.size]? = some (.cells [.int .i64 er.1.1, .int .i64 er.1.2, .int .i64 er.2].toArray 92 (0, 0)) := by rw [<- hW1]; exact heap_alloc_new w _
 have l2 := (Array.getElem?_eq_some_iff.1 h.p2).1
 have hr : Rz W1 b dv xv p c := ⟨(hB.block _ (by omega)).trans h.p0, (hB.block _ (by omega)).trans h.p1, (hB.block _ (by omega)).trans h.p2⟩
 have HS := hid (And.intro hB (And.intro hf (And.intro hr l2)))
 clear h hB hf l2 hr
 go_upto_region 3 with fail
 try rw [hW1]
 clear hW1 ta
 obtain ⟨hB, hf, hr, l2⟩ := HS.out
 have hfd : W1.drew.heap[w.heap.size]? = some (.cells [.int .i64 er.1.1, .int .i64 er.1.2, .int .i64 er.2].toArray 92 (0, 0)) := hf
 have hrd : Rz W1.drew b dv xv p c := ⟨hr.p0, hr.p1, hr.p2⟩
 have hBd : Below w.heap.size w W1.drew := hB.trans ⟨rfl, rfl, rfl, Nat.le_refl _, fun _ _ => rfl⟩
 refine wp_region_held_drew (S := fun wz : World => wz.heap[w.heap.size]? = some (.cells [.int .i64 er.1.1, .int .i64 er.1.2, .int .i64 er.2].toArray 92 (0, 0))) (by kernel_rfl) hfd (fun hHeld => ?_)
 clear hf hr hB HS
 generalize W1.drew = y0 at *
 refine D.zH (is := [0, 1, 3, 2, 4]) ?_
 iterate 5
  refine D.yH (v := ?_) rfl (by kernel_rfl) (fun c a w h => h) (by rfl) ?_ hHeld ?_
  rotate_left
  ·(intro w hSw; (try dsimp only at hSw); have q0 := S.cell_of w _ 0 _ 92 _ hSw rfl; have q1 := S.cell_of w _ 1 _ 92 _ hSw rfl; have q2 := S.cell_of w _ 2 _ 92 _ hSw rfl; go_simp; try with_reducible rfl)
  simp only [D.pts]
 refine D.eH ?_
 refine wpAnyH_ready (rs := [5]) (by kernel_rfl) (by simp) ?_
 refine AllReadyH.cons rfl (fun K hK => ?_) AllReadyH.nil
 rw [if_pos (by rfl)]
 refine wp_store_row 26 _ _ rfl (b) _ rfl rfl 26 _ hrd.p0 (by exact sizePG) (by rfl) (by simp [Value.oneCell']) ?_
 refine hK.out _ _ ((setRow_other y0 b w.heap.size _ (by omega)).trans hfd) (fun hHeld => ?_)
 clear hK K
 try simp only [D.pts]
 have m1 : (y0.setRow b #[.slice none 0 0, .slice none 0 0]).heap[b + 1]? = some (.cells #[.int .i64 p.1, .int .i64 p.2] 28 (0, 0)) := (setRow_other y0 b (b + 1) _ (by omega)).trans hrd.p1
 have m2 : (y0.setRow b #[.slice none 0 0, .slice none 0 0]).heap[b + 1 + 1]? = some (.cells #[.int .i64 c] 29 (0, 0)) := (setRow_other y0 b (b + 1 + 1) _ (by omega)).trans hrd.p2
 have m0 : (y0.setRow b #[.slice none 0 0, .slice none 0 0]).heap[b]? = some (.cells #[.slice none 0 0, .slice none 0 0] 26 (0, 0)) := setRow_heap y0 b _ _ _ _ hrd.p0
 have hB1 : ∀ n, n <= b -> Below n w (y0.setRow b #[.slice none 0 0, .slice none 0 0]) := fun n hn => row_below (hBd.mono (by omega)) _ hn _
 have mf : (y0.setRow b #[.slice none 0 0, .slice none 0 0]).heap[w.heap.size]? = some (.cells [.int .i64 er.1.1, .int .i64 er.1.2, .int .i64 er.2].toArray 92 (0, 0)) := (setRow_other y0 b w.heap.size _ (by omega)).trans hfd
 clear hrd hBd hfd
 generalize y0.setRow b #[.slice none 0 0, .slice none 0 0] = y1 at *
 refine wpAnyH_ready (rs := [6]) (by kernel_rfl) (by simp) ?_
 refine AllReadyH.cons rfl (fun K hK => ?_) AllReadyH.nil
 rw [if_pos (by rfl)]
 refine wp_store_row 28 _ _ rfl (b + 1) _ rfl rfl 28 _ m1 (by exact sizePO) (by rfl) (by simp [Value.oneCell']) ?_
 refine hK.out _ _ ((setRow_other y1 (b + 1) w.heap.size _ (by omega)).trans mf) (fun hHeld => ?_)
 clear hK K
 try simp only [D.pts]
 have n2 : (y1.setRow (b + 1) #[.int .i64 er.1.1, .int .i64 er.1.2]).heap[b + 1 + 1]? = some (.cells #[.int .i64 c] 29 (0, 0)) := (setRow_other y1 (b + 1) (b + 1 + 1) _ (by omega)).trans m2
 have n0 : (y1.setRow (b + 1) #[.int .i64 er.1.1, .int .i64 er.1.2]).heap[b]? = some (.cells #[.slice none 0 0, .slice none 0 0] 26 (0, 0)) := (setRow_other y1 (b + 1) b _ (by omega)).trans m0
 have n1 : (y1.setRow (b + 1) #[.int .i64 er.1.1, .int .i64 er.1.2]).heap[b + 1]? = some (.cells #[.int .i64 er.1.1, .int .i64 er.1.2] 28 (0, 0)) := setRow_heap y1 (b + 1) _ _ _ _ m1
 have hB2 : ∀ n, n <= b -> Below n w (y1.setRow (b + 1) #[.int .i64 er.1.1, .int .i64 er.1.2]) := fun n hn => row_below (hB1 n hn) _ (by omega) _
 have nf : (y1.setRow (b + 1) #[.int .i64 er.1.1, .int .i64 er.1.2]).heap[w.heap.size]? = some (.cells [.int .i64 er.1.1, .int .i64 er.1.2, .int .i64 er.2].toArray 92 (0, 0)) := (setRow_other y1 (b + 1) w.heap.size _ (by omega)).trans mf
 clear m0 m1 m2 mf hB1
 generalize y1.setRow (b + 1) #[.int .i64 er.1.1, .int .i64 er.1.2] = y2 at *
 have x7 := S.cell_of y2 (b + 1 + 1) 0 [.int .i64 c] 29 _ n2 rfl
 have f7 := S.frozen_of y2 (b + 1 + 1) 0 [.int .i64 c] 29 n2
 refine wpAnyH_ready (rs := [7]) (by kernel_rfl) (by simp) ?_
 refine AllReadyH.cons rfl (fun K hK => ?_) AllReadyH.nil
 rw [if_pos (by rfl)]
 go_simp
 refine hK.out _ _ ((heap_setCell_other y2 ⟨b + 1 + 1, 0, none⟩ w.heap.size _ (by show w.heap.size ≠ b + 1 + 1; omega)).trans nf) (fun hHeld => ?_)
 clear hK K
 try simp only [D.pts]
 refine wpAnyH_done (by kernel_rfl) ?_ _
 have o2 : (y2.setCell ⟨b + 1 + 1, 0, none⟩ (.int .i64 er.2)).heap[b + 1 + 1]? = some (.cells #[.int .i64 er.2] 29 (0, 0)) := heap_setCell_same y2 (b + 1 + 1) 0 _ _ _ n2
 have o1 : (y2.setCell ⟨b + 1 + 1, 0, none⟩ (.int .i64 er.2)).heap[b + 1]? = some (.cells #[.int .i64 er.1.1, .int .i64 er.1.2] 28 (0, 0)) := (heap_setCell_other y2 ⟨b + 1 + 1, 0, none⟩ (b + 1) _ (by show b + 1 ≠ b + 1 + 1; omega)).trans n1
 have o0 : (y2.setCell ⟨b + 1 + 1, 0, none⟩ (.int .i64 er.2)).heap[b]? = some (.cells #[.slice none 0 0, .slice none 0 0] 26 (0, 0)) := (heap_setCell_other y2 ⟨b + 1 + 1, 0, none⟩ b _ (by show b ≠ b + 1 + 1; omega)).trans n0
 have hB3 : ∀ n, n <= b -> Below n w (y2.setCell ⟨b + 1 + 1, 0, none⟩ (.int .i64 er.2)) := fun n hn => (hB2 n hn).setCell (p := ⟨b + 1 + 1, 0, none⟩) (by show n <= b + 1 + 1; omega) _
 have HZ := hid (And.intro (Rz.mk o0 o1 o2) hB3)
 clear n0 n1 n2 nf hB2 x7 f7 o0 o1 o2 hB3 hHeld
 go_wp2
 refine (?_ : bodyPostS Tryz.prog Tryz.f42 c₀ cs _ _ _ _ _)
 exact ⟨rfl, _, rfl, _, results_none rfl _ _ _, rfl, rfl, HZ.out.1, HZ.out.2⟩
end Go.Proofs.YtdnklgceghllaaaGreatDoor.D
