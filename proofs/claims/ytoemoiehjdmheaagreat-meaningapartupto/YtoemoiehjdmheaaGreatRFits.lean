import Derived.Test.YtoemoiehjdmheaaGreatRUses
import Derived.Test.YtoemoiehjdmheaaGreatRMap
namespace Go.Proofs.YtoemoiehjdmheaaGreat.R
open Go.RowKit
open Go.Proofs
open Go.Proofs.YtoemoiehjdmheaaGreat.Y (Nd Df Ps ndc dfc hid)
set_option linter.unusedVariables false
set_option linter.unusedSimpArgs false
set_option maxHeartbeats 2000000
set_option maxRecDepth 100000
theorem nm_all : (List.range' 9 55).all (fun y => !(P.nm y).data.toList.isEmpty) = true := by kernel_rfl
theorem nm_low : (List.range' 0 9).all (fun y => (P.nm y).data.toList.isEmpty) = true := by kernel_rfl
theorem nm_some (x : Nat) (h1 : 9 <= x) (h2 : x <= 63) : (P.nm x).toList.isEmpty = false := by
 have := List.all_eq_true.1 nm_all x (by rw [List.mem_range'_1]; omega)
 rw [ByteArray.toList_eq]
 simpa using this
theorem nm_none (x : Nat) (h1 : x < 9) : (P.nm x).toList.isEmpty = true := by
 have := List.all_eq_true.1 nm_low x (by rw [List.mem_range'_1]; omega)
 rw [ByteArray.toList_eq]
 exact this
theorem box_two (mb : Nat) (n : Nd) (tv ev : Value) (W : World) : ∃ W0 W1, W.alloc (.cells #[.map (some mb)] 166) = W0 /\ W0.alloc (.cells #[.int .i64 n.k, .int .i64 n.op, .int .u16 n.v, .string n.nm, tv, ev, .bool n.has, .int .i64 n.p.1, .int .i64 n.p.2] 90) = W1 /\ Below W.heap.size W W1 /\ W0.heap.size = W.heap.size + 1 /\ W1.heap.size = W.heap.size + 2 /\ W1.heap[W.heap.size]? = some (.cells [.map (some mb)].toArray 166 (0, 0)) /\ W1.heap[W.heap.size + 1]? = some (.cells (ndc n tv ev).toArray 90 (0, 0)) := by
 refine ⟨_, _, rfl, rfl, ((Below.refl _ _).alloc (Nat.le_refl _) _).alloc (by simp) _, by simp, by simp, ?_, ?_⟩
 ·exact (Below.heap_alloc _ _ _ (by simp)).trans (heap_alloc_new W _)
 ·exact heap_alloc2_new W _ _
theorem wf_1a (x : Nat) (hx1 : 9 <= x) (hx2 : x < 64) (v p1 p2 : Int) (nm : ByteArray) (has : Bool) (mb : Nat) (q1 q2 : Option Addr) (a1 d1 a2 d2 : Nat) (W : World) :
  Calls Tryz.prog 149 #[.agg #[.map (some mb)], .agg #[.int .i64 1, .int .i64 (x : Int), .int .u16 v, .string nm, .slice q1 a1 d1, .slice q2 a2 d2, .bool has, .int .i64 p1, .int .i64 p2]] W fun e w' => e = .returned (.bool true) /\ Below W.heap.size W w' := by
 obtain ⟨W0, W1, hW0, hW1, hB, hs0, hs1, v0, v1⟩ := box_two mb ⟨1, (x : Int), v, nm, [], [], has, (p1, p2)⟩ (.slice q1 a1 d1) (.slice q2 a2 d2) W
 have c0 := S.cell_of W1 _ 0 _ 166 _ v0 rfl
 have x0 := S.cell_of W1 _ 0 _ 90 _ v1 rfl
 have x1 := S.cell_of W1 _ 1 _ 90 _ v1 rfl
 have x3 := S.cell_of W1 _ 3 _ 90 _ v1 rfl
 simp only at x0 x1 x3 hW1
 have HB := hid hB
 rw [hs0.symm] at x0 x1 x3
 have hc : ∀ w, _ := fun w => P.of_at x (by omega) hx2 w
 have hne := nm_some x hx1 (by omega)
 clear v0 v1 hB hs0 hs1
 go_enter Tryz.func149, Tryz.ntmps149
 go_wp2_with fail
 refine (hc _).mono ?_
 first | unfold P.rowN P.rowV | unfold P.rowV | skip
 rintro e' w2 ⟨rfl, hb⟩
 have HB2 := hid (HB.out.trans (hb.mono HB.out.size))
 clear hb hc
 generalize P.nm x = nx at *
 go_wp2
 go_ret
 exact ⟨rfl, HB2.out.alloc HB2.out.size _⟩
theorem wf_1b (x : Nat) (hx1 : 1 <= x) (hx2 : x < 9) (v p1 p2 : Int) (nm : ByteArray) (has : Bool) (mb : Nat) (q1 q2 : Option Addr) (a1 d1 a2 d2 : Nat) (W : World) :
  Calls Tryz.prog 149 #[.agg #[.map (some mb)], .agg #[.int .i64 1, .int .i64 (x : Int), .int .u16 v, .string nm, .slice q1 a1 d1, .slice q2 a2 d2, .bool has, .int .i64 p1, .int .i64 p2]] W fun e w' => e = .returned (.bool false) /\ Below W.heap.size W w' := by
 obtain ⟨W0, W1, hW0, hW1, hB, hs0, hs1, v0, v1⟩ := box_two mb ⟨1, (x : Int), v, nm, [], [], has, (p1, p2)⟩ (.slice q1 a1 d1) (.slice q2 a2 d2) W
 have c0 := S.cell_of W1 _ 0 _ 166 _ v0 rfl
 have x0 := S.cell_of W1 _ 0 _ 90 _ v1 rfl
 have x1 := S.cell_of W1 _ 1 _ 90 _ v1 rfl
 have x3 := S.cell_of W1 _ 3 _ 90 _ v1 rfl
 simp only at x0 x1 x3 hW1
 have HB := hid hB
 rw [hs0.symm] at x0 x1 x3
 have hc : ∀ w, _ := fun w => P.of_at x hx1 (by omega) w
 have hne := nm_none x hx2
 clear v0 v1 hB hs0 hs1
 go_enter Tryz.func149, Tryz.ntmps149
 go_wp2_with fail
 refine (hc _).mono ?_
 first | unfold P.rowN P.rowV | unfold P.rowV | skip
 rintro e' w2 ⟨rfl, hb⟩
 have HB2 := hid (HB.out.trans (hb.mono HB.out.size))
 clear hb hc
 generalize P.nm x = nx at *
 go_wp2
 go_ret
 exact ⟨rfl, HB2.out.alloc HB2.out.size _⟩
theorem wf_1c (op : Int) (h : op < 1 \/ 64 <= op) (v p1 p2 : Int) (nm : ByteArray) (has : Bool) (mb : Nat) (q1 q2 : Option Addr) (a1 d1 a2 d2 : Nat) (W : World) :
  Calls Tryz.prog 149 #[.agg #[.map (some mb)], .agg #[.int .i64 1, .int .i64 op, .int .u16 v, .string nm, .slice q1 a1 d1, .slice q2 a2 d2, .bool has, .int .i64 p1, .int .i64 p2]] W fun e w' => e = .returned (.bool false) /\ Below W.heap.size W w' := by
 obtain ⟨W0, W1, hW0, hW1, hB, hs0, hs1, v0, v1⟩ := box_two mb ⟨1, op, v, nm, [], [], has, (p1, p2)⟩ (.slice q1 a1 d1) (.slice q2 a2 d2) W
 have c0 := S.cell_of W1 _ 0 _ 166 _ v0 rfl
 have x0 := S.cell_of W1 _ 0 _ 90 _ v1 rfl
 have x1 := S.cell_of W1 _ 1 _ 90 _ v1 rfl
 have x3 := S.cell_of W1 _ 3 _ 90 _ v1 rfl
 simp only at x0 x1 x3 hW1
 have HB := hid hB
 rw [hs0.symm] at x0 x1 x3
 have hc : ∀ w, _ := fun w => P.of_no op h w
 clear h
 clear v0 v1 hB hs0 hs1
 go_enter Tryz.func149, Tryz.ntmps149
 go_wp2_with fail
 refine (hc _).mono ?_
 first | unfold P.rowN P.rowV | unfold P.rowV | skip
 rintro e' w2 ⟨rfl, hb⟩
 have HB2 := hid (HB.out.trans (hb.mono HB.out.size))
 clear hb hc
 go_wp2
 go_ret
 exact ⟨rfl, HB2.out.alloc HB2.out.size _⟩
theorem wf_3n (op : Int) (v p1 p2 : Int) (nm : ByteArray) (has : Bool) (mb : Nat) (q1 q2 : Option Addr) (a1 d1 a2 d2 : Nat) (W : World) (L : En) (hM : MP W mb L) (hl : lk L nm = none) :
  Calls Tryz.prog 149 #[.agg #[.map (some mb)], .agg #[.int .i64 3, .int .i64 op, .int .u16 v, .string nm, .slice q1 a1 d1, .slice q2 a2 d2, .bool has, .int .i64 p1, .int .i64 p2]] W fun e w' => e = .returned (.bool false) /\ Below W.heap.size W w' := by
 obtain ⟨W0, W1, hW0, hW1, hB, hs0, hs1, v0, v1⟩ := box_two mb ⟨3, op, v, nm, [], [], has, (p1, p2)⟩ (.slice q1 a1 d1) (.slice q2 a2 d2) W
 have c0 := S.cell_of W1 _ 0 _ 166 _ v0 rfl
 have x0 := S.cell_of W1 _ 0 _ 90 _ v1 rfl
 have x1 := S.cell_of W1 _ 1 _ 90 _ v1 rfl
 have x3 := S.cell_of W1 _ 3 _ 90 _ v1 rfl
 simp only at x0 x1 x3 hW1
 have HB := hid hB
 rw [hs0.symm] at x0 x1 x3
 have hlook := look_no W1 mb nm L (hM.below hB hM.lt) hl
 clear v0 v1 hB hs0 hs1 hM hl
 go_enter Tryz.func149, Tryz.ntmps149
 go_wp2
 go_ret
 exact ⟨rfl, HB.out⟩
theorem wf_3s (op : Int) (v p1 p2 : Int) (nm : ByteArray) (has : Bool) (mb : Nat) (q1 q2 : Option Addr) (a1 d1 a2 d2 : Nat) (W : World) (L : En) (x : Int) (hM : MP W mb L) (hl : lk L nm = some x) :
  Calls Tryz.prog 149 #[.agg #[.map (some mb)], .agg #[.int .i64 3, .int .i64 op, .int .u16 v, .string nm, .slice q1 a1 d1, .slice q2 a2 d2, .bool has, .int .i64 p1, .int .i64 p2]] W fun e w' => e = .returned (.bool true) /\ Below W.heap.size W w' := by
 obtain ⟨W0, W1, hW0, hW1, hB, hs0, hs1, v0, v1⟩ := box_two mb ⟨3, op, v, nm, [], [], has, (p1, p2)⟩ (.slice q1 a1 d1) (.slice q2 a2 d2) W
 have c0 := S.cell_of W1 _ 0 _ 166 _ v0 rfl
 have x0 := S.cell_of W1 _ 0 _ 90 _ v1 rfl
 have x1 := S.cell_of W1 _ 1 _ 90 _ v1 rfl
 have x3 := S.cell_of W1 _ 3 _ 90 _ v1 rfl
 simp only at x0 x1 x3 hW1
 have HB := hid hB
 rw [hs0.symm] at x0 x1 x3
 have hlook := look_yes W1 mb nm x L (hM.below hB hM.lt) hl
 clear v0 v1 hB hs0 hs1 hM hl
 go_enter Tryz.func149, Tryz.ntmps149
 go_wp2
 go_ret
 exact ⟨rfl, HB.out⟩
theorem wf_r (k op : Int) (b1 : (k == 1) = false) (b3 : (k == 3) = false) (v p1 p2 : Int) (nm : ByteArray) (has : Bool) (mb : Nat) (q1 q2 : Option Addr) (a1 d1 a2 d2 : Nat) (W : World) :
  Calls Tryz.prog 149 #[.agg #[.map (some mb)], .agg #[.int .i64 k, .int .i64 op, .int .u16 v, .string nm, .slice q1 a1 d1, .slice q2 a2 d2, .bool has, .int .i64 p1, .int .i64 p2]] W fun e w' => e = .returned (.bool true) /\ Below W.heap.size W w' := by
 obtain ⟨W0, W1, hW0, hW1, hB, hs0, hs1, v0, v1⟩ := box_two mb ⟨k, op, v, nm, [], [], has, (p1, p2)⟩ (.slice q1 a1 d1) (.slice q2 a2 d2) W
 have c0 := S.cell_of W1 _ 0 _ 166 _ v0 rfl
 have x0 := S.cell_of W1 _ 0 _ 90 _ v1 rfl
 have x1 := S.cell_of W1 _ 1 _ 90 _ v1 rfl
 have x3 := S.cell_of W1 _ 3 _ 90 _ v1 rfl
 simp only at x0 x1 x3 hW1
 have HB := hid hB
 rw [hs0.symm] at x0 x1 x3
 clear v0 v1 hB hs0 hs1
 go_enter Tryz.func149, Tryz.ntmps149
 go_wp2
 go_ret
 exact ⟨rfl, HB.out⟩
theorem wordFits_any (names : List ByteArray) (n : Nd) (mb : Nat) (q1 q2 : Option Addr) (a1 d1 a2 d2 : Nat) (W : World) (hM : MP W mb (numb names 0)) :
  Calls Tryz.prog 149 #[.agg #[.map (some mb)], .agg (ndc n (.slice q1 a1 d1) (.slice q2 a2 d2)).toArray] W fun e w' => e = .returned (.bool (fits names n)) /\ Below W.heap.size W w' := by
 obtain ⟨k, op, v, nm, th, el, has, p⟩ := n
 unfold ndc fits
 simp only
 by_cases k1 : k = 1
 ·subst k1
  rw [if_pos rfl]
  by_cases hop : 1 <= op /\ op < 64
  ·obtain ⟨x, rfl⟩ : ∃ x : Nat, op = (x : Int) := ⟨op.toNat, by omega⟩
   by_cases h9 : 9 <= x
   ·rw [show (decide ((9 : Int) <= (x : Int)) && decide ((x : Int) <= 63)) = true by simp; omega]
    exact wf_1a x h9 (by omega) v p.1 p.2 nm has mb q1 q2 a1 d1 a2 d2 W
   ·rw [show (decide ((9 : Int) <= (x : Int)) && decide ((x : Int) <= 63)) = false by simp; omega]
    exact wf_1b x (by omega) (by omega) v p.1 p.2 nm has mb q1 q2 a1 d1 a2 d2 W
  ·rw [show (decide ((9 : Int) <= op) && decide (op <= 63)) = false by simp; omega]
   exact wf_1c op (by omega) v p.1 p.2 nm has mb q1 q2 a1 d1 a2 d2 W
 ·rw [if_neg k1]
  by_cases k3 : k = 3
  ·subst k3
   rw [if_pos rfl, <- lk_numb nm names 0]
   cases hl : lk (numb names 0) nm with
   | none => exact wf_3n op v p.1 p.2 nm has mb q1 q2 a1 d1 a2 d2 W _ hM hl
   | some x => exact wf_3s op v p.1 p.2 nm has mb q1 q2 a1 d1 a2 d2 W _ x hM hl
  ·rw [if_neg k3]
   exact wf_r k op (by simpa using k1) (by simpa using k3) v p.1 p.2 nm has mb q1 q2 a1 d1 a2 d2 W
open Go.Proofs.YtoemoiehjdmheaaGreat.Y (Nd Df Ps ndc dfc hid NV cells9)
set_option linter.unusedVariables false
set_option linter.unusedSimpArgs false
set_option maxHeartbeats 2000000
set_option maxRecDepth 100000
def B3 (w : World) (s t u mb : Nat) (cs : List Value) (dp : Int) (dO : Bool) : Prop := w.heap[s]? = some (.cells [.map (some mb)].toArray 166 (0, 0)) /\ w.heap[t]? = some (.cells cs.toArray 90 (0, 0)) /\ w.heap[u]? = some (.cells [.int .i64 dp, .bool dO].toArray 188 (0, 0))
theorem B3.below {w w' : World} {s t u mb : Nat} {cs : List Value} {dp : Int} {dO : Bool} (h : B3 w s t u mb cs dp dO) {B : Nat} (k : Below B w w') (hs : s < B) (ht : t < B) (hu : u < B) : B3 w' s t u mb cs dp dO :=
 ⟨(k.block _ hs).trans h.1, (k.block _ ht).trans h.2.1, (k.block _ hu).trans h.2.2⟩
theorem box_three (mb : Nat) (n : Nd) (q1 q2 : Option Addr) (d1 d2 : Nat) (dp : Int) (dO : Bool) (W : World) : ∃ W0 W1 W2, W.alloc (.cells #[.map (some mb)] 166) = W0 /\ W0.alloc (.cells #[.int .i64 n.k, .int .i64 n.op, .int .u16 n.v, .string n.nm, .slice q1 n.th.length d1, .slice q2 n.el.length d2, .bool n.has, .int .i64 n.p.1, .int .i64 n.p.2] 90) = W1 /\ W1.alloc (.cells #[.int .i64 dp, .bool dO] 188) = W2 /\ Below W.heap.size W W2 /\ W0.heap.size = W.heap.size + 1 /\ W1.heap.size = W.heap.size + 2 /\ W2.heap.size = W.heap.size + 3 /\ B3 W2 W.heap.size W0.heap.size W1.heap.size mb (ndc n (.slice q1 n.th.length d1) (.slice q2 n.el.length d2)) dp dO := by
 refine ⟨_, _, _, rfl, rfl, rfl, (((Below.refl _ _).alloc (Nat.le_refl _) _).alloc (by simp) _).alloc (by simp; omega) _, by simp, by simp, by simp, ?_, ?_, ?_⟩
 ·exact (Below.heap_alloc _ _ _ (by simp; omega)).trans ((Below.heap_alloc _ _ _ (by simp)).trans (heap_alloc_new W _))
 ·exact (Below.heap_alloc _ _ _ (by simp)).trans (heap_alloc_new _ _)
 ·exact heap_alloc_new _ _
def CN (names : List ByteArray) (n : Nd) : Prop := ∀ (tv ev : Value) (O : Nat -> Prop) (mb : Nat) (i : Nat × Bool) (W : World), (∀ j, O j -> j < W.heap.size) -> NV W O tv n.th -> NV W O ev n.el -> MP W mb (numb names 0) -> i.1 <= 32 ->
  Calls Tryz.prog 133 #[.agg #[.map (some mb)], .agg (ndc n tv ev).toArray, .agg #[.int .i64 (i.1 : Int), .bool i.2]] W fun e w' => e = .returned (.int .i64 (ck names n i)) /\ Below W.heap.size W w'
theorem nodes_of (names : List ByteArray) (l : List Nd) (hn : ∀ m ∈ l, CN names m) (v : Value) (O : Nat -> Prop) (mb : Nat) (i : Nat × Bool) (W : World) (hO : ∀ j, O j -> j < W.heap.size) (h : NV W O v l) (hM : MP W mb (numb names 0)) (hi : i.1 <= 32 \/ l = []) :
  Calls Tryz.prog 82 #[.agg #[.map (some mb)], v, .agg #[.int .i64 (i.1 : Int), .bool i.2]] W fun e w' => e = .returned (.int .i64 (cks names l i)) /\ Below W.heap.size W w' := by
 obtain ⟨p, c, rfl, hl, hp⟩ := h.ex
 clear h
 obtain ⟨dp, dO⟩ := i
 obtain ⟨W0, hW0⟩ : ∃ W0, W.alloc (.cells #[.map (some mb)] 166) = W0 := ⟨_, rfl⟩
 obtain ⟨W1, hW1⟩ : ∃ W1, W0.alloc (.cells #[.int .i64 (dp : Int), .bool dO] 188) = W1 := ⟨_, rfl⟩
 have hB : Below W.heap.size W W1 := by rw [<- hW1, <- hW0]; exact ((Below.refl _ _).alloc (Nat.le_refl _) _).alloc (by simp) _
 have hs0 : W0.heap.size = W.heap.size + 1 := by rw [<- hW0]; simp
 have hs1 : W1.heap.size = W.heap.size + 2 := by rw [<- hW1]; simp [hs0]
 have v0 : W1.heap[W.heap.size]? = some (.cells [.map (some mb)].toArray 166 (0, 0)) := by rw [<- hW1]; exact (Below.heap_alloc _ _ _ (by omega)).trans (by rw [<- hW0]; exact heap_alloc_new W _)
 have v1 : W1.heap[W0.heap.size]? = some (.cells [.int .i64 (dp : Int), .bool dO].toArray 188 (0, 0)) := by rw [<- hW1]; exact heap_alloc_new W0 _
 have HV := hid (And.intro v0 (And.intro v1 (And.intro hs0 hs1)))
 have HB := hid hB
 have HM := hid hM
 clear v0 v1 hs0 hs1 hB hM
 go_enter Tryz.func82, Tryz.ntmps82
 go_wp2
 clear hW0 hW1
 go_loopw [12] (fun ix wr => ∃ k : Nat, k <= l.length /\ ix = .int .i64 (k : Int) /\ Below W1.heap.size W1 wr /\ cks names (l.take k) (dp, dO) = 0) (fun ix _ => l.length - (intOf ix).toNat)
 case atStart => exact ⟨0, by omega, rfl, Below.refl _ _, rfl⟩
 case round =>
  obtain ⟨k, hk, rfl, hb, hz⟩ := hrel
  by_cases hlt : k < l.length
  ·have i1 : (k : Int) < l.length := by omega
   have ea := List.getElem?_eq_getElem hlt
   have hm := hn l[k] (List.getElem_mem _)
   generalize l[k] = n at *
   obtain ⟨b, o, rfl, hOb, hN⟩ := hp k n ea
   obtain ⟨tv, ev, hc, ht, he⟩ := hN.ex
   obtain ⟨q1, d1, rfl, _, _⟩ := ht.ex
   obtain ⟨q2, d2, rfl, _, _⟩ := he.ex
   have hbw : Below W.heap.size W wr := HB.out.trans (hb.mono HB.out.size)
   have k1 := hbw.block b (hO b hOb)
   obtain ⟨g0, g1, g2, g3, g4, g5, g6, g7, g8⟩ := cells9 fun j x hx => (World.cell?_of_block (w := W) (a := ⟨b, o + k * 9 + j, none⟩) k1).trans (hc j x hx)
   obtain ⟨W2, hW2⟩ : ∃ W2, wr.alloc (.cells #[.int .i64 n.k, .int .i64 n.op, .int .u16 n.v, .string n.nm, .slice q1 n.th.length d1, .slice q2 n.el.length d2, .bool n.has, .int .i64 n.p.1, .int .i64 n.p.2] 90) = W2 := ⟨_, rfl⟩
   have z2 : Below wr.heap.size wr W2 := by rw [<- hW2]; exact (Below.refl _ _).alloc (Nat.le_refl _) _
   have v2 : W2.heap[wr.heap.size]? = some (.cells (ndc n (.slice q1 n.th.length d1) (.slice q2 n.el.length d2)).toArray 90 (0, 0)) := by rw [<- hW2]; exact heap_alloc_new wr _
   have hB2 : Below W1.heap.size W1 W2 := hb.trans (z2.mono hb.size)
   obtain ⟨x0, x1, x2, x3, x4, x5, x6, x7, x8⟩ := cells9 (b := wr.heap.size) (o := 0) fun j x hx => by rw [Nat.zero_add]; exact S.cell_of W2 _ j _ 90 x v2 hx
   simp only [Nat.zero_add] at x1 x2 x3 x4 x5 x6 x7 x8
   have u0 := (hB2.block _ (by have := HV.out.2.2.2; omega)).trans HV.out.1
   have u1 := (hB2.block _ (by have := HV.out.2.2.2; have := HV.out.2.2.1; omega)).trans HV.out.2.1
   have c0 := S.cell_of W2 _ 0 _ 166 _ u0 rfl
   have e0 := S.cell_of W2 _ 0 _ 188 _ u1 rfl
   have e1 := S.cell_of W2 _ 1 _ 188 _ u1 rfl
   have hBW : Below W.heap.size W W2 := HB.out.trans (hB2.mono HB.out.size)
   have hle : dp <= 32 := by
    rcases hi with h | h
    ·exact h
    ·rw [h] at hlt; simp at hlt
   have hcall := hm _ _ O mb (dp, dO) W2 (fun j hj => Nat.lt_of_lt_of_le (hO j hj) hBW.size) (ht.below hBW hO) (he.below hBW hO) (HM.out.below hBW HM.out.lt) hle
   unfold ndc at hcall
   simp only at hcall
   have HH := hid (And.intro hB2 (And.intro hz (And.intro ea hk)))
   clear z2 v2 hb hB2 hbw k1 u0 u1 hm hp hN hc ht he hn hO ea hz hle hBW hk
   go_wp2_with fail
   refine hcall.mono ?_
   rintro e w3 ⟨rfl, hb3⟩
   have HB3 := hid (HH.out.1.trans (hb3.mono HH.out.1.size))
   have HS := hid (cks_take_succ names l k n (dp, dO) HH.out.2.2.1 HH.out.2.1)
   clear hcall hb3 x0 x1 x2 x3 x4 x5 x6 x7 x8 g0 g1 g2 g3 g4 g5 g6 g7 g8 c0 e0 e1 hW2
   by_cases hz : ck names n (dp, dO) = 0
   ·have HZ := hid hz
    rw [hz]
    clear hz
    go_wp2
    go_roundw
    case rel =>
     have hf : cks names (l.take (k + 1)) (dp, dO) = 0 := by rw [HS.out, HZ.out]
     first
      | exact ⟨k + 1, by omega, by go_num, HB3.out, hf⟩
      | ((repeat apply Exists.intro); refine ⟨⟨k + 1, by omega, ?_, HB3.out, hf⟩, rfl⟩; go_num)
    case measure => simp [intOf]; omega
   ·have hne : (ck names n (dp, dO) != 0) = true := by simpa using hz
    have HF := hid (cks_stop names l (k + 1) (dp, dO) (by rw [HS.out]; exact hz))
    have HS2 := hid hz
    generalize hy : ck names n (dp, dO) = y at *
    clear hz
    have HY := hid hy
    clear hy
    go_wp2
    go_ret
    exact ⟨by rw [HF.out, HS.out]; rfl, HB.out.trans (HB3.out.mono HB.out.size)⟩
  ·have i1 : ¬ (k : Int) < l.length := by omega
   go_wp2
   go_ret
   rw [List.take_of_length_le (by omega)] at hz
   exact ⟨by rw [hz]; rfl, HB.out.trans (hb.mono HB.out.size)⟩
set_option maxHeartbeats 2000000
set_option maxRecDepth 100000
theorem nd_b9 (names : List ByteArray) (n : Nd) (q1 q2 : Option Addr) (d1 d2 : Nat) (mb : Nat) (dp : Nat) (dO : Bool) (W : World) (hM : MP W mb (numb names 0)) (h1 : uses n = true) (h2 : fits names n = true) (h3 : (n.k == 9) = true) (h4 : strc n.k = false) (hd : dO = false) (hdp : dp <= 32) (r1 r2 R : Int) (hR : R = if r1 = 0 then r2 else r1) (hN1 : ∀ w, Below W.heap.size W w -> Calls Tryz.prog 82 #[.agg #[.map (some mb)], .slice q1 n.th.length d1, .agg #[.int .i64 ((dp : Int) + 1), .bool (n.k == 8)]] w fun e w' => e = .returned (.int .i64 r1) /\ Below w.heap.size w w') (hN2 : ∀ w, Below W.heap.size W w -> Calls Tryz.prog 82 #[.agg #[.map (some mb)], .slice q2 n.el.length d2, .agg #[.int .i64 ((dp : Int) + 1), .bool (n.k == 8)]] w fun e w' => e = .returned (.int .i64 r2) /\ Below w.heap.size w w') :
    Calls Tryz.prog 133 #[.agg #[.map (some mb)], .agg #[.int .i64 n.k, .int .i64 n.op, .int .u16 n.v, .string n.nm, .slice q1 n.th.length d1, .slice q2 n.el.length d2, .bool n.has, .int .i64 n.p.1, .int .i64 n.p.2], .agg #[.int .i64 (dp : Int), .bool dO]] W fun e w' => e = .returned (.int .i64 R) /\ Below W.heap.size W w' := by
  obtain ⟨W0, W1, W2, hW0, hW1, hW2, hB, hs0, hs1, hs2, hv⟩ := box_three mb n q1 q2 d1 d2 (dp : Int) dO W
  have hu : ∀ w, Calls Tryz.prog 148 #[.agg #[.int .i64 n.k, .int .i64 n.op, .int .u16 n.v, .string n.nm, .slice q1 n.th.length d1, .slice q2 n.el.length d2, .bool n.has, .int .i64 n.p.1, .int .i64 n.p.2]] w fun e w' => e = .returned (.bool (uses n)) /\ Below w.heap.size w w' := fun w => usesAll_any n d1 d2 q1 q2 w
  have hf : ∀ w, Below W2.heap.size W2 w -> Calls Tryz.prog 149 #[.agg #[.map (some mb)], .agg #[.int .i64 n.k, .int .i64 n.op, .int .u16 n.v, .string n.nm, .slice q1 n.th.length d1, .slice q2 n.el.length d2, .bool n.has, .int .i64 n.p.1, .int .i64 n.p.2]] w fun e w' => e = .returned (.bool (fits names n)) /\ Below w.heap.size w w' := fun w hw => wordFits_any names n mb q1 q2 n.th.length d1 n.el.length d2 w ((hM.below hB hM.lt).below hw (Nat.lt_of_lt_of_le hM.lt hB.size))
  have hst : ∀ w, Calls Tryz.prog 150 #[.agg #[.int .i64 n.k, .int .i64 n.op, .int .u16 n.v, .string n.nm, .slice q1 n.th.length d1, .slice q2 n.el.length d2, .bool n.has, .int .i64 n.p.1, .int .i64 n.p.2]] w fun e w' => e = .returned (.bool (strc n.k)) /\ Below w.heap.size w w' := fun w => isStructure_any n q1 q2 n.th.length d1 n.el.length d2 w
  have HV : ∀ w, Below W2.heap.size W2 w -> B3 w W.heap.size W0.heap.size W1.heap.size mb (ndc n (.slice q1 n.th.length d1) (.slice q2 n.el.length d2)) (dp : Int) dO := fun w hw => hv.below hw (by omega) (by omega) (by omega)
  have HB := hid hB
  have HS := hid (And.intro hs0 (And.intro hs1 hs2))
  have HM := hid hM
  clear hM hB hv hs0 hs1 hs2
  have H2 := hid (Below.refl W2.heap.size W2)
  subst hd
  simp only [h1] at hu
  simp only [h2] at hf
  simp only [h4] at hst
  have hdo : ∀ w, Calls Tryz.prog 151 #[.agg #[.int .i64 n.k, .int .i64 n.op, .int .u16 n.v, .string n.nm, .slice q1 n.th.length d1, .slice q2 n.el.length d2, .bool n.has, .int .i64 n.p.1, .int .i64 n.p.2]] w fun e w' => e = .returned (.bool (n.k == 8)) /\ Below w.heap.size w w' := fun w => isDo_any n q1 q2 n.th.length d1 n.el.length d2 w
  have HRR := hid hR
  clear hR
  have HN1 := hid hN1
  have HN2 := hid hN2
  clear hN1 hN2
  go_enter Tryz.func133, Tryz.ntmps133
  obtain ⟨y0, y1, y2⟩ := id (HV _ H2.out)
  have c0 := S.cell_of W2 _ 0 _ 166 _ y0 rfl
  have x0 := S.cell_of W2 _ 0 _ 90 _ y1 rfl
  have x1 := S.cell_of W2 _ 1 _ 90 _ y1 rfl
  have x2 := S.cell_of W2 _ 2 _ 90 _ y1 rfl
  have x3 := S.cell_of W2 _ 3 _ 90 _ y1 rfl
  have x4 := S.cell_of W2 _ 4 _ 90 _ y1 rfl
  have x5 := S.cell_of W2 _ 5 _ 90 _ y1 rfl
  have x6 := S.cell_of W2 _ 6 _ 90 _ y1 rfl
  have x7 := S.cell_of W2 _ 7 _ 90 _ y1 rfl
  have x8 := S.cell_of W2 _ 8 _ 90 _ y1 rfl
  have i0 := S.cell_of W2 _ 0 _ 188 _ y2 rfl
  have i1 := S.cell_of W2 _ 1 _ 188 _ y2 rfl
  clear y0 y1 y2
  go_wp2_with fail
  refine (hu _).mono ?_
  rintro e w1 ⟨rfl, hb⟩
  have Hw1 := hid (H2.out.trans (hb.mono H2.out.size))
  clear hb
  clear c0 x0 x1 x2 x3 x4 x5 x6 x7 x8 i0 i1 hu hW0 hW1 hW2
  obtain ⟨y0, y1, y2⟩ := id (HV _ Hw1.out)
  have c0 := S.cell_of w1 _ 0 _ 166 _ y0 rfl
  have x0 := S.cell_of w1 _ 0 _ 90 _ y1 rfl
  have x1 := S.cell_of w1 _ 1 _ 90 _ y1 rfl
  have x2 := S.cell_of w1 _ 2 _ 90 _ y1 rfl
  have x3 := S.cell_of w1 _ 3 _ 90 _ y1 rfl
  have x4 := S.cell_of w1 _ 4 _ 90 _ y1 rfl
  have x5 := S.cell_of w1 _ 5 _ 90 _ y1 rfl
  have x6 := S.cell_of w1 _ 6 _ 90 _ y1 rfl
  have x7 := S.cell_of w1 _ 7 _ 90 _ y1 rfl
  have x8 := S.cell_of w1 _ 8 _ 90 _ y1 rfl
  have i0 := S.cell_of w1 _ 0 _ 188 _ y2 rfl
  have i1 := S.cell_of w1 _ 1 _ 188 _ y2 rfl
  clear y0 y1 y2
  go_wp2_with fail
  refine (hf _ (by with_reducible exact Hw1.out)).mono ?_
  rintro e w2 ⟨rfl, hb⟩
  have Hw2 := hid (Hw1.out.trans (hb.mono Hw1.out.size))
  clear hb
  clear c0 x0 x1 x2 x3 x4 x5 x6 x7 x8 i0 i1 hf
  obtain ⟨y0, y1, y2⟩ := id (HV _ Hw2.out)
  have c0 := S.cell_of w2 _ 0 _ 166 _ y0 rfl
  have x0 := S.cell_of w2 _ 0 _ 90 _ y1 rfl
  have x1 := S.cell_of w2 _ 1 _ 90 _ y1 rfl
  have x2 := S.cell_of w2 _ 2 _ 90 _ y1 rfl
  have x3 := S.cell_of w2 _ 3 _ 90 _ y1 rfl
  have x4 := S.cell_of w2 _ 4 _ 90 _ y1 rfl
  have x5 := S.cell_of w2 _ 5 _ 90 _ y1 rfl
  have x6 := S.cell_of w2 _ 6 _ 90 _ y1 rfl
  have x7 := S.cell_of w2 _ 7 _ 90 _ y1 rfl
  have x8 := S.cell_of w2 _ 8 _ 90 _ y1 rfl
  have i0 := S.cell_of w2 _ 0 _ 188 _ y2 rfl
  have i1 := S.cell_of w2 _ 1 _ 188 _ y2 rfl
  clear y0 y1 y2
  go_wp2_with fail
  refine (hst _).mono ?_
  rintro e w3 ⟨rfl, hb⟩
  have Hw3 := hid (Hw2.out.trans (hb.mono Hw2.out.size))
  clear hb
  clear c0 x0 x1 x2 x3 x4 x5 x6 x7 x8 i0 i1 hst
  obtain ⟨y0, y1, y2⟩ := id (HV _ Hw3.out)
  have c0 := S.cell_of w3 _ 0 _ 166 _ y0 rfl
  have x0 := S.cell_of w3 _ 0 _ 90 _ y1 rfl
  have x1 := S.cell_of w3 _ 1 _ 90 _ y1 rfl
  have x2 := S.cell_of w3 _ 2 _ 90 _ y1 rfl
  have x3 := S.cell_of w3 _ 3 _ 90 _ y1 rfl
  have x4 := S.cell_of w3 _ 4 _ 90 _ y1 rfl
  have x5 := S.cell_of w3 _ 5 _ 90 _ y1 rfl
  have x6 := S.cell_of w3 _ 6 _ 90 _ y1 rfl
  have x7 := S.cell_of w3 _ 7 _ 90 _ y1 rfl
  have x8 := S.cell_of w3 _ 8 _ 90 _ y1 rfl
  have i0 := S.cell_of w3 _ 0 _ 188 _ y2 rfl
  have i1 := S.cell_of w3 _ 1 _ 188 _ y2 rfl
  clear y0 y1 y2
  have z0 := S.frozen_of w3 W1.heap.size 0 _ 188 (HV _ Hw3.out).2.2
  have z1 := S.frozen_of w3 W1.heap.size 1 _ 188 (HV _ Hw3.out).2.2
  go_upto_region 9 with fail
  go_cut [] (fun wc => Below W.heap.size W wc /\ B3 wc W.heap.size W0.heap.size W1.heap.size mb (ndc n (.slice q1 n.th.length d1) (.slice q2 n.el.length d2)) ((dp : Int) + 1) (n.k == 8))
  case first =>
    go_region_with (first | (go_at_call 151; refine (hdo _).mono ?_; rintro e w4 ⟨rfl, hb4⟩; have Hw4 := hid ((Hw3.out.drew).trans (hb4.mono Hw3.out.size)); clear hb4; have y2 := (HV _ Hw4.out).2.2; have i0 := S.cell_of w4 _ 0 _ 188 _ y2 rfl; have i1 := S.cell_of w4 _ 1 _ 188 _ y2 rfl; have z0 := S.frozen_of w4 W1.heap.size 0 _ 188 y2; have z1 := S.frozen_of w4 W1.heap.size 1 _ 188 y2; clear y2))
    all_goals
      go_wp2
      go_meet
      case rel =>
        rw [S.i64_id _ (by omega) (by omega)]
        have hbz := HB.out.trans (Hw4.out.mono HB.out.size)
        have hvz := HV _ Hw4.out
        have hge : W.heap.size <= W1.heap.size := by have := HS.out.2.1; omega
        refine ⟨?_, ?_, ?_, ?_⟩
        · first
            | exact ((hbz.setCell (p := ⟨W1.heap.size, 0, none⟩) hge _).setCell (p := ⟨W1.heap.size, 1, none⟩) hge _).drew
            | exact ((hbz.setCell (p := ⟨W1.heap.size, 0, none⟩) hge _).setCell (p := ⟨W1.heap.size, 1, none⟩) hge _)
        · exact (S.setCell_other _ _ _ _ _ (by have := HS.out.2.1; omega)).trans ((S.setCell_other _ _ _ _ _ (by have := HS.out.2.1; omega)).trans hvz.1)
        · exact (S.setCell_other _ _ _ _ _ (by have := HS.out.2.1; have := HS.out.1; omega)).trans ((S.setCell_other _ _ _ _ _ (by have := HS.out.2.1; have := HS.out.1; omega)).trans hvz.2.1)
        · exact S.setCell_heap _ W1.heap.size 1 _ 188 _ (S.setCell_heap _ W1.heap.size 0 _ 188 _ hvz.2.2)
  case rest =>
    obtain ⟨hbc, hvc⟩ := hcut
    have HC := hid hbc
    have HVC := hid hvc
    clear hbc hvc z0 z1 hdo HV
    clear c0 x0 x1 x2 x3 x4 x5 x6 x7 x8 i0 i1
    obtain ⟨y0, y1, y2⟩ := id HVC.out
    have c0 := S.cell_of wc _ 0 _ 166 _ y0 rfl
    have x0 := S.cell_of wc _ 0 _ 90 _ y1 rfl
    have x1 := S.cell_of wc _ 1 _ 90 _ y1 rfl
    have x2 := S.cell_of wc _ 2 _ 90 _ y1 rfl
    have x3 := S.cell_of wc _ 3 _ 90 _ y1 rfl
    have x4 := S.cell_of wc _ 4 _ 90 _ y1 rfl
    have x5 := S.cell_of wc _ 5 _ 90 _ y1 rfl
    have x6 := S.cell_of wc _ 6 _ 90 _ y1 rfl
    have x7 := S.cell_of wc _ 7 _ 90 _ y1 rfl
    have x8 := S.cell_of wc _ 8 _ 90 _ y1 rfl
    have i0 := S.cell_of wc _ 0 _ 188 _ y2 rfl
    have i1 := S.cell_of wc _ 1 _ 188 _ y2 rfl
    clear y0 y1 y2
    go_wp2_with fail
    refine (HN1.out _ HC.out).mono ?_
    rintro e w5 ⟨rfl, hb5⟩
    have H5 := hid (HC.out.trans (hb5.mono HC.out.size))
    have hv5 : B3 w5 W.heap.size W0.heap.size W1.heap.size mb (ndc n (.slice q1 n.th.length d1) (.slice q2 n.el.length d2)) ((dp : Int) + 1) (n.k == 8) := HVC.out.below hb5 (S.lt_of HVC.out.1) (S.lt_of HVC.out.2.1) (S.lt_of HVC.out.2.2)
    have HV5 := hid hv5
    clear hb5 hv5
    clear c0 x0 x1 x2 x3 x4 x5 x6 x7 x8 i0 i1
    by_cases hr : r1 = 0
    · subst hr
      obtain ⟨y0, y1, y2⟩ := id HV5.out
      have c0 := S.cell_of w5 _ 0 _ 166 _ y0 rfl
      have x0 := S.cell_of w5 _ 0 _ 90 _ y1 rfl
      have x1 := S.cell_of w5 _ 1 _ 90 _ y1 rfl
      have x2 := S.cell_of w5 _ 2 _ 90 _ y1 rfl
      have x3 := S.cell_of w5 _ 3 _ 90 _ y1 rfl
      have x4 := S.cell_of w5 _ 4 _ 90 _ y1 rfl
      have x5 := S.cell_of w5 _ 5 _ 90 _ y1 rfl
      have x6 := S.cell_of w5 _ 6 _ 90 _ y1 rfl
      have x7 := S.cell_of w5 _ 7 _ 90 _ y1 rfl
      have x8 := S.cell_of w5 _ 8 _ 90 _ y1 rfl
      have i0 := S.cell_of w5 _ 0 _ 188 _ y2 rfl
      have i1 := S.cell_of w5 _ 1 _ 188 _ y2 rfl
      clear y0 y1 y2
      go_wp2_with fail
      refine (HN2.out _ H5.out).mono ?_
      rintro e w6 ⟨rfl, hb6⟩
      have H6 := hid (H5.out.trans (hb6.mono H5.out.size))
      clear hb6
      clear c0 x0 x1 x2 x3 x4 x5 x6 x7 x8 i0 i1
      go_wp2
      go_ret
      exact ⟨by rw [HRR.out]; rfl, H6.out⟩
    · have HR := hid hr
      have hr1 : (r1 != 0) = true := by simpa using hr
      clear hr
      go_wp2
      go_ret
      exact ⟨by rw [HRR.out, if_neg HR.out]; rfl, H5.out⟩
theorem nd_b0 (names : List ByteArray) (n : Nd) (q1 q2 : Option Addr) (d1 d2 : Nat) (mb : Nat) (dp : Nat) (dO : Bool) (W : World) (hM : MP W mb (numb names 0)) (h1 : uses n = true) (h2 : fits names n = true) (h3 : (n.k == 9) = false) (h4 : strc n.k = false) (hd : dO = false) (hdp : dp <= 32) (r1 r2 R : Int) (hR : R = if r1 = 0 then r2 else r1) (hN1 : ∀ w, Below W.heap.size W w -> Calls Tryz.prog 82 #[.agg #[.map (some mb)], .slice q1 n.th.length d1, .agg #[.int .i64 ((dp : Int) + 1), .bool (n.k == 8)]] w fun e w' => e = .returned (.int .i64 r1) /\ Below w.heap.size w w') (hN2 : ∀ w, Below W.heap.size W w -> Calls Tryz.prog 82 #[.agg #[.map (some mb)], .slice q2 n.el.length d2, .agg #[.int .i64 ((dp : Int) + 1), .bool (n.k == 8)]] w fun e w' => e = .returned (.int .i64 r2) /\ Below w.heap.size w w') :
    Calls Tryz.prog 133 #[.agg #[.map (some mb)], .agg #[.int .i64 n.k, .int .i64 n.op, .int .u16 n.v, .string n.nm, .slice q1 n.th.length d1, .slice q2 n.el.length d2, .bool n.has, .int .i64 n.p.1, .int .i64 n.p.2], .agg #[.int .i64 (dp : Int), .bool dO]] W fun e w' => e = .returned (.int .i64 R) /\ Below W.heap.size W w' := by
  obtain ⟨W0, W1, W2, hW0, hW1, hW2, hB, hs0, hs1, hs2, hv⟩ := box_three mb n q1 q2 d1 d2 (dp : Int) dO W
  have hu : ∀ w, Calls Tryz.prog 148 #[.agg #[.int .i64 n.k, .int .i64 n.op, .int .u16 n.v, .string n.nm, .slice q1 n.th.length d1, .slice q2 n.el.length d2, .bool n.has, .int .i64 n.p.1, .int .i64 n.p.2]] w fun e w' => e = .returned (.bool (uses n)) /\ Below w.heap.size w w' := fun w => usesAll_any n d1 d2 q1 q2 w
  have hf : ∀ w, Below W2.heap.size W2 w -> Calls Tryz.prog 149 #[.agg #[.map (some mb)], .agg #[.int .i64 n.k, .int .i64 n.op, .int .u16 n.v, .string n.nm, .slice q1 n.th.length d1, .slice q2 n.el.length d2, .bool n.has, .int .i64 n.p.1, .int .i64 n.p.2]] w fun e w' => e = .returned (.bool (fits names n)) /\ Below w.heap.size w w' := fun w hw => wordFits_any names n mb q1 q2 n.th.length d1 n.el.length d2 w ((hM.below hB hM.lt).below hw (Nat.lt_of_lt_of_le hM.lt hB.size))
  have hst : ∀ w, Calls Tryz.prog 150 #[.agg #[.int .i64 n.k, .int .i64 n.op, .int .u16 n.v, .string n.nm, .slice q1 n.th.length d1, .slice q2 n.el.length d2, .bool n.has, .int .i64 n.p.1, .int .i64 n.p.2]] w fun e w' => e = .returned (.bool (strc n.k)) /\ Below w.heap.size w w' := fun w => isStructure_any n q1 q2 n.th.length d1 n.el.length d2 w
  have HV : ∀ w, Below W2.heap.size W2 w -> B3 w W.heap.size W0.heap.size W1.heap.size mb (ndc n (.slice q1 n.th.length d1) (.slice q2 n.el.length d2)) (dp : Int) dO := fun w hw => hv.below hw (by omega) (by omega) (by omega)
  have HB := hid hB
  have HS := hid (And.intro hs0 (And.intro hs1 hs2))
  have HM := hid hM
  clear hM hB hv hs0 hs1 hs2
  have H2 := hid (Below.refl W2.heap.size W2)
  subst hd
  simp only [h1] at hu
  simp only [h2] at hf
  simp only [h4] at hst
  have hdo : ∀ w, Calls Tryz.prog 151 #[.agg #[.int .i64 n.k, .int .i64 n.op, .int .u16 n.v, .string n.nm, .slice q1 n.th.length d1, .slice q2 n.el.length d2, .bool n.has, .int .i64 n.p.1, .int .i64 n.p.2]] w fun e w' => e = .returned (.bool (n.k == 8)) /\ Below w.heap.size w w' := fun w => isDo_any n q1 q2 n.th.length d1 n.el.length d2 w
  have HRR := hid hR
  clear hR
  have HN1 := hid hN1
  have HN2 := hid hN2
  clear hN1 hN2
  go_enter Tryz.func133, Tryz.ntmps133
  obtain ⟨y0, y1, y2⟩ := id (HV _ H2.out)
  have c0 := S.cell_of W2 _ 0 _ 166 _ y0 rfl
  have x0 := S.cell_of W2 _ 0 _ 90 _ y1 rfl
  have x1 := S.cell_of W2 _ 1 _ 90 _ y1 rfl
  have x2 := S.cell_of W2 _ 2 _ 90 _ y1 rfl
  have x3 := S.cell_of W2 _ 3 _ 90 _ y1 rfl
  have x4 := S.cell_of W2 _ 4 _ 90 _ y1 rfl
  have x5 := S.cell_of W2 _ 5 _ 90 _ y1 rfl
  have x6 := S.cell_of W2 _ 6 _ 90 _ y1 rfl
  have x7 := S.cell_of W2 _ 7 _ 90 _ y1 rfl
  have x8 := S.cell_of W2 _ 8 _ 90 _ y1 rfl
  have i0 := S.cell_of W2 _ 0 _ 188 _ y2 rfl
  have i1 := S.cell_of W2 _ 1 _ 188 _ y2 rfl
  clear y0 y1 y2
  go_wp2_with fail
  refine (hu _).mono ?_
  rintro e w1 ⟨rfl, hb⟩
  have Hw1 := hid (H2.out.trans (hb.mono H2.out.size))
  clear hb
  clear c0 x0 x1 x2 x3 x4 x5 x6 x7 x8 i0 i1 hu hW0 hW1 hW2
  obtain ⟨y0, y1, y2⟩ := id (HV _ Hw1.out)
  have c0 := S.cell_of w1 _ 0 _ 166 _ y0 rfl
  have x0 := S.cell_of w1 _ 0 _ 90 _ y1 rfl
  have x1 := S.cell_of w1 _ 1 _ 90 _ y1 rfl
  have x2 := S.cell_of w1 _ 2 _ 90 _ y1 rfl
  have x3 := S.cell_of w1 _ 3 _ 90 _ y1 rfl
  have x4 := S.cell_of w1 _ 4 _ 90 _ y1 rfl
  have x5 := S.cell_of w1 _ 5 _ 90 _ y1 rfl
  have x6 := S.cell_of w1 _ 6 _ 90 _ y1 rfl
  have x7 := S.cell_of w1 _ 7 _ 90 _ y1 rfl
  have x8 := S.cell_of w1 _ 8 _ 90 _ y1 rfl
  have i0 := S.cell_of w1 _ 0 _ 188 _ y2 rfl
  have i1 := S.cell_of w1 _ 1 _ 188 _ y2 rfl
  clear y0 y1 y2
  go_wp2_with fail
  refine (hf _ (by with_reducible exact Hw1.out)).mono ?_
  rintro e w2 ⟨rfl, hb⟩
  have Hw2 := hid (Hw1.out.trans (hb.mono Hw1.out.size))
  clear hb
  clear c0 x0 x1 x2 x3 x4 x5 x6 x7 x8 i0 i1 hf
  obtain ⟨y0, y1, y2⟩ := id (HV _ Hw2.out)
  have c0 := S.cell_of w2 _ 0 _ 166 _ y0 rfl
  have x0 := S.cell_of w2 _ 0 _ 90 _ y1 rfl
  have x1 := S.cell_of w2 _ 1 _ 90 _ y1 rfl
  have x2 := S.cell_of w2 _ 2 _ 90 _ y1 rfl
  have x3 := S.cell_of w2 _ 3 _ 90 _ y1 rfl
  have x4 := S.cell_of w2 _ 4 _ 90 _ y1 rfl
  have x5 := S.cell_of w2 _ 5 _ 90 _ y1 rfl
  have x6 := S.cell_of w2 _ 6 _ 90 _ y1 rfl
  have x7 := S.cell_of w2 _ 7 _ 90 _ y1 rfl
  have x8 := S.cell_of w2 _ 8 _ 90 _ y1 rfl
  have i0 := S.cell_of w2 _ 0 _ 188 _ y2 rfl
  have i1 := S.cell_of w2 _ 1 _ 188 _ y2 rfl
  clear y0 y1 y2
  go_wp2_with fail
  refine (hst _).mono ?_
  rintro e w3 ⟨rfl, hb⟩
  have Hw3 := hid (Hw2.out.trans (hb.mono Hw2.out.size))
  clear hb
  clear c0 x0 x1 x2 x3 x4 x5 x6 x7 x8 i0 i1 hst
  obtain ⟨y0, y1, y2⟩ := id (HV _ Hw3.out)
  have c0 := S.cell_of w3 _ 0 _ 166 _ y0 rfl
  have x0 := S.cell_of w3 _ 0 _ 90 _ y1 rfl
  have x1 := S.cell_of w3 _ 1 _ 90 _ y1 rfl
  have x2 := S.cell_of w3 _ 2 _ 90 _ y1 rfl
  have x3 := S.cell_of w3 _ 3 _ 90 _ y1 rfl
  have x4 := S.cell_of w3 _ 4 _ 90 _ y1 rfl
  have x5 := S.cell_of w3 _ 5 _ 90 _ y1 rfl
  have x6 := S.cell_of w3 _ 6 _ 90 _ y1 rfl
  have x7 := S.cell_of w3 _ 7 _ 90 _ y1 rfl
  have x8 := S.cell_of w3 _ 8 _ 90 _ y1 rfl
  have i0 := S.cell_of w3 _ 0 _ 188 _ y2 rfl
  have i1 := S.cell_of w3 _ 1 _ 188 _ y2 rfl
  clear y0 y1 y2
  have z0 := S.frozen_of w3 W1.heap.size 0 _ 188 (HV _ Hw3.out).2.2
  have z1 := S.frozen_of w3 W1.heap.size 1 _ 188 (HV _ Hw3.out).2.2
  go_upto_region 9 with fail
  go_cut [] (fun wc => Below W.heap.size W wc /\ B3 wc W.heap.size W0.heap.size W1.heap.size mb (ndc n (.slice q1 n.th.length d1) (.slice q2 n.el.length d2)) ((dp : Int) + 1) (n.k == 8))
  case first =>
    go_region_with (first | (go_at_call 151; refine (hdo _).mono ?_; rintro e w4 ⟨rfl, hb4⟩; have Hw4 := hid ((Hw3.out.drew).trans (hb4.mono Hw3.out.size)); clear hb4; have y2 := (HV _ Hw4.out).2.2; have i0 := S.cell_of w4 _ 0 _ 188 _ y2 rfl; have i1 := S.cell_of w4 _ 1 _ 188 _ y2 rfl; have z0 := S.frozen_of w4 W1.heap.size 0 _ 188 y2; have z1 := S.frozen_of w4 W1.heap.size 1 _ 188 y2; clear y2))
    all_goals
      go_wp2
      go_meet
      case rel =>
        rw [S.i64_id _ (by omega) (by omega)]
        have hbz := HB.out.trans (Hw4.out.mono HB.out.size)
        have hvz := HV _ Hw4.out
        have hge : W.heap.size <= W1.heap.size := by have := HS.out.2.1; omega
        refine ⟨?_, ?_, ?_, ?_⟩
        · first
            | exact ((hbz.setCell (p := ⟨W1.heap.size, 0, none⟩) hge _).setCell (p := ⟨W1.heap.size, 1, none⟩) hge _).drew
            | exact ((hbz.setCell (p := ⟨W1.heap.size, 0, none⟩) hge _).setCell (p := ⟨W1.heap.size, 1, none⟩) hge _)
        · exact (S.setCell_other _ _ _ _ _ (by have := HS.out.2.1; omega)).trans ((S.setCell_other _ _ _ _ _ (by have := HS.out.2.1; omega)).trans hvz.1)
        · exact (S.setCell_other _ _ _ _ _ (by have := HS.out.2.1; have := HS.out.1; omega)).trans ((S.setCell_other _ _ _ _ _ (by have := HS.out.2.1; have := HS.out.1; omega)).trans hvz.2.1)
        · exact S.setCell_heap _ W1.heap.size 1 _ 188 _ (S.setCell_heap _ W1.heap.size 0 _ 188 _ hvz.2.2)
  case rest =>
    obtain ⟨hbc, hvc⟩ := hcut
    have HC := hid hbc
    have HVC := hid hvc
    clear hbc hvc z0 z1 hdo HV
    clear c0 x0 x1 x2 x3 x4 x5 x6 x7 x8 i0 i1
    obtain ⟨y0, y1, y2⟩ := id HVC.out
    have c0 := S.cell_of wc _ 0 _ 166 _ y0 rfl
    have x0 := S.cell_of wc _ 0 _ 90 _ y1 rfl
    have x1 := S.cell_of wc _ 1 _ 90 _ y1 rfl
    have x2 := S.cell_of wc _ 2 _ 90 _ y1 rfl
    have x3 := S.cell_of wc _ 3 _ 90 _ y1 rfl
    have x4 := S.cell_of wc _ 4 _ 90 _ y1 rfl
    have x5 := S.cell_of wc _ 5 _ 90 _ y1 rfl
    have x6 := S.cell_of wc _ 6 _ 90 _ y1 rfl
    have x7 := S.cell_of wc _ 7 _ 90 _ y1 rfl
    have x8 := S.cell_of wc _ 8 _ 90 _ y1 rfl
    have i0 := S.cell_of wc _ 0 _ 188 _ y2 rfl
    have i1 := S.cell_of wc _ 1 _ 188 _ y2 rfl
    clear y0 y1 y2
    go_wp2_with fail
    refine (HN1.out _ HC.out).mono ?_
    rintro e w5 ⟨rfl, hb5⟩
    have H5 := hid (HC.out.trans (hb5.mono HC.out.size))
    have hv5 : B3 w5 W.heap.size W0.heap.size W1.heap.size mb (ndc n (.slice q1 n.th.length d1) (.slice q2 n.el.length d2)) ((dp : Int) + 1) (n.k == 8) := HVC.out.below hb5 (S.lt_of HVC.out.1) (S.lt_of HVC.out.2.1) (S.lt_of HVC.out.2.2)
    have HV5 := hid hv5
    clear hb5 hv5
    clear c0 x0 x1 x2 x3 x4 x5 x6 x7 x8 i0 i1
    by_cases hr : r1 = 0
    · subst hr
      obtain ⟨y0, y1, y2⟩ := id HV5.out
      have c0 := S.cell_of w5 _ 0 _ 166 _ y0 rfl
      have x0 := S.cell_of w5 _ 0 _ 90 _ y1 rfl
      have x1 := S.cell_of w5 _ 1 _ 90 _ y1 rfl
      have x2 := S.cell_of w5 _ 2 _ 90 _ y1 rfl
      have x3 := S.cell_of w5 _ 3 _ 90 _ y1 rfl
      have x4 := S.cell_of w5 _ 4 _ 90 _ y1 rfl
      have x5 := S.cell_of w5 _ 5 _ 90 _ y1 rfl
      have x6 := S.cell_of w5 _ 6 _ 90 _ y1 rfl
      have x7 := S.cell_of w5 _ 7 _ 90 _ y1 rfl
      have x8 := S.cell_of w5 _ 8 _ 90 _ y1 rfl
      have i0 := S.cell_of w5 _ 0 _ 188 _ y2 rfl
      have i1 := S.cell_of w5 _ 1 _ 188 _ y2 rfl
      clear y0 y1 y2
      go_wp2_with fail
      refine (HN2.out _ H5.out).mono ?_
      rintro e w6 ⟨rfl, hb6⟩
      have H6 := hid (H5.out.trans (hb6.mono H5.out.size))
      clear hb6
      clear c0 x0 x1 x2 x3 x4 x5 x6 x7 x8 i0 i1
      go_wp2
      go_ret
      exact ⟨by rw [HRR.out]; rfl, H6.out⟩
    · have HR := hid hr
      have hr1 : (r1 != 0) = true := by simpa using hr
      clear hr
      go_wp2
      go_ret
      exact ⟨by rw [HRR.out, if_neg HR.out]; rfl, H5.out⟩
theorem nd_b1 (names : List ByteArray) (n : Nd) (q1 q2 : Option Addr) (d1 d2 : Nat) (mb : Nat) (dp : Nat) (dO : Bool) (W : World) (hM : MP W mb (numb names 0)) (h1 : uses n = true) (h2 : fits names n = true) (h3 : (n.k == 9) = false) (h4 : strc n.k = true) (h5 : ((dp : Int) == 32) = false) (hd : dO = false) (hdp : dp <= 32) (r1 r2 R : Int) (hR : R = if r1 = 0 then r2 else r1) (hN1 : ∀ w, Below W.heap.size W w -> Calls Tryz.prog 82 #[.agg #[.map (some mb)], .slice q1 n.th.length d1, .agg #[.int .i64 ((dp : Int) + 1), .bool (n.k == 8)]] w fun e w' => e = .returned (.int .i64 r1) /\ Below w.heap.size w w') (hN2 : ∀ w, Below W.heap.size W w -> Calls Tryz.prog 82 #[.agg #[.map (some mb)], .slice q2 n.el.length d2, .agg #[.int .i64 ((dp : Int) + 1), .bool (n.k == 8)]] w fun e w' => e = .returned (.int .i64 r2) /\ Below w.heap.size w w') :
    Calls Tryz.prog 133 #[.agg #[.map (some mb)], .agg #[.int .i64 n.k, .int .i64 n.op, .int .u16 n.v, .string n.nm, .slice q1 n.th.length d1, .slice q2 n.el.length d2, .bool n.has, .int .i64 n.p.1, .int .i64 n.p.2], .agg #[.int .i64 (dp : Int), .bool dO]] W fun e w' => e = .returned (.int .i64 R) /\ Below W.heap.size W w' := by
  obtain ⟨W0, W1, W2, hW0, hW1, hW2, hB, hs0, hs1, hs2, hv⟩ := box_three mb n q1 q2 d1 d2 (dp : Int) dO W
  have hu : ∀ w, Calls Tryz.prog 148 #[.agg #[.int .i64 n.k, .int .i64 n.op, .int .u16 n.v, .string n.nm, .slice q1 n.th.length d1, .slice q2 n.el.length d2, .bool n.has, .int .i64 n.p.1, .int .i64 n.p.2]] w fun e w' => e = .returned (.bool (uses n)) /\ Below w.heap.size w w' := fun w => usesAll_any n d1 d2 q1 q2 w
  have hf : ∀ w, Below W2.heap.size W2 w -> Calls Tryz.prog 149 #[.agg #[.map (some mb)], .agg #[.int .i64 n.k, .int .i64 n.op, .int .u16 n.v, .string n.nm, .slice q1 n.th.length d1, .slice q2 n.el.length d2, .bool n.has, .int .i64 n.p.1, .int .i64 n.p.2]] w fun e w' => e = .returned (.bool (fits names n)) /\ Below w.heap.size w w' := fun w hw => wordFits_any names n mb q1 q2 n.th.length d1 n.el.length d2 w ((hM.below hB hM.lt).below hw (Nat.lt_of_lt_of_le hM.lt hB.size))
  have hst : ∀ w, Calls Tryz.prog 150 #[.agg #[.int .i64 n.k, .int .i64 n.op, .int .u16 n.v, .string n.nm, .slice q1 n.th.length d1, .slice q2 n.el.length d2, .bool n.has, .int .i64 n.p.1, .int .i64 n.p.2]] w fun e w' => e = .returned (.bool (strc n.k)) /\ Below w.heap.size w w' := fun w => isStructure_any n q1 q2 n.th.length d1 n.el.length d2 w
  have HV : ∀ w, Below W2.heap.size W2 w -> B3 w W.heap.size W0.heap.size W1.heap.size mb (ndc n (.slice q1 n.th.length d1) (.slice q2 n.el.length d2)) (dp : Int) dO := fun w hw => hv.below hw (by omega) (by omega) (by omega)
  have HB := hid hB
  have HS := hid (And.intro hs0 (And.intro hs1 hs2))
  have HM := hid hM
  clear hM hB hv hs0 hs1 hs2
  have H2 := hid (Below.refl W2.heap.size W2)
  subst hd
  simp only [h1] at hu
  simp only [h2] at hf
  simp only [h4] at hst
  have hdo : ∀ w, Calls Tryz.prog 151 #[.agg #[.int .i64 n.k, .int .i64 n.op, .int .u16 n.v, .string n.nm, .slice q1 n.th.length d1, .slice q2 n.el.length d2, .bool n.has, .int .i64 n.p.1, .int .i64 n.p.2]] w fun e w' => e = .returned (.bool (n.k == 8)) /\ Below w.heap.size w w' := fun w => isDo_any n q1 q2 n.th.length d1 n.el.length d2 w
  have HRR := hid hR
  clear hR
  have HN1 := hid hN1
  have HN2 := hid hN2
  clear hN1 hN2
  go_enter Tryz.func133, Tryz.ntmps133
  obtain ⟨y0, y1, y2⟩ := id (HV _ H2.out)
  have c0 := S.cell_of W2 _ 0 _ 166 _ y0 rfl
  have x0 := S.cell_of W2 _ 0 _ 90 _ y1 rfl
  have x1 := S.cell_of W2 _ 1 _ 90 _ y1 rfl
  have x2 := S.cell_of W2 _ 2 _ 90 _ y1 rfl
  have x3 := S.cell_of W2 _ 3 _ 90 _ y1 rfl
  have x4 := S.cell_of W2 _ 4 _ 90 _ y1 rfl
  have x5 := S.cell_of W2 _ 5 _ 90 _ y1 rfl
  have x6 := S.cell_of W2 _ 6 _ 90 _ y1 rfl
  have x7 := S.cell_of W2 _ 7 _ 90 _ y1 rfl
  have x8 := S.cell_of W2 _ 8 _ 90 _ y1 rfl
  have i0 := S.cell_of W2 _ 0 _ 188 _ y2 rfl
  have i1 := S.cell_of W2 _ 1 _ 188 _ y2 rfl
  clear y0 y1 y2
  go_wp2_with fail
  refine (hu _).mono ?_
  rintro e w1 ⟨rfl, hb⟩
  have Hw1 := hid (H2.out.trans (hb.mono H2.out.size))
  clear hb
  clear c0 x0 x1 x2 x3 x4 x5 x6 x7 x8 i0 i1 hu hW0 hW1 hW2
  obtain ⟨y0, y1, y2⟩ := id (HV _ Hw1.out)
  have c0 := S.cell_of w1 _ 0 _ 166 _ y0 rfl
  have x0 := S.cell_of w1 _ 0 _ 90 _ y1 rfl
  have x1 := S.cell_of w1 _ 1 _ 90 _ y1 rfl
  have x2 := S.cell_of w1 _ 2 _ 90 _ y1 rfl
  have x3 := S.cell_of w1 _ 3 _ 90 _ y1 rfl
  have x4 := S.cell_of w1 _ 4 _ 90 _ y1 rfl
  have x5 := S.cell_of w1 _ 5 _ 90 _ y1 rfl
  have x6 := S.cell_of w1 _ 6 _ 90 _ y1 rfl
  have x7 := S.cell_of w1 _ 7 _ 90 _ y1 rfl
  have x8 := S.cell_of w1 _ 8 _ 90 _ y1 rfl
  have i0 := S.cell_of w1 _ 0 _ 188 _ y2 rfl
  have i1 := S.cell_of w1 _ 1 _ 188 _ y2 rfl
  clear y0 y1 y2
  go_wp2_with fail
  refine (hf _ (by with_reducible exact Hw1.out)).mono ?_
  rintro e w2 ⟨rfl, hb⟩
  have Hw2 := hid (Hw1.out.trans (hb.mono Hw1.out.size))
  clear hb
  clear c0 x0 x1 x2 x3 x4 x5 x6 x7 x8 i0 i1 hf
  obtain ⟨y0, y1, y2⟩ := id (HV _ Hw2.out)
  have c0 := S.cell_of w2 _ 0 _ 166 _ y0 rfl
  have x0 := S.cell_of w2 _ 0 _ 90 _ y1 rfl
  have x1 := S.cell_of w2 _ 1 _ 90 _ y1 rfl
  have x2 := S.cell_of w2 _ 2 _ 90 _ y1 rfl
  have x3 := S.cell_of w2 _ 3 _ 90 _ y1 rfl
  have x4 := S.cell_of w2 _ 4 _ 90 _ y1 rfl
  have x5 := S.cell_of w2 _ 5 _ 90 _ y1 rfl
  have x6 := S.cell_of w2 _ 6 _ 90 _ y1 rfl
  have x7 := S.cell_of w2 _ 7 _ 90 _ y1 rfl
  have x8 := S.cell_of w2 _ 8 _ 90 _ y1 rfl
  have i0 := S.cell_of w2 _ 0 _ 188 _ y2 rfl
  have i1 := S.cell_of w2 _ 1 _ 188 _ y2 rfl
  clear y0 y1 y2
  go_wp2_with fail
  refine (hst _).mono ?_
  rintro e w3 ⟨rfl, hb⟩
  have Hw3 := hid (Hw2.out.trans (hb.mono Hw2.out.size))
  clear hb
  clear c0 x0 x1 x2 x3 x4 x5 x6 x7 x8 i0 i1 hst
  obtain ⟨y0, y1, y2⟩ := id (HV _ Hw3.out)
  have c0 := S.cell_of w3 _ 0 _ 166 _ y0 rfl
  have x0 := S.cell_of w3 _ 0 _ 90 _ y1 rfl
  have x1 := S.cell_of w3 _ 1 _ 90 _ y1 rfl
  have x2 := S.cell_of w3 _ 2 _ 90 _ y1 rfl
  have x3 := S.cell_of w3 _ 3 _ 90 _ y1 rfl
  have x4 := S.cell_of w3 _ 4 _ 90 _ y1 rfl
  have x5 := S.cell_of w3 _ 5 _ 90 _ y1 rfl
  have x6 := S.cell_of w3 _ 6 _ 90 _ y1 rfl
  have x7 := S.cell_of w3 _ 7 _ 90 _ y1 rfl
  have x8 := S.cell_of w3 _ 8 _ 90 _ y1 rfl
  have i0 := S.cell_of w3 _ 0 _ 188 _ y2 rfl
  have i1 := S.cell_of w3 _ 1 _ 188 _ y2 rfl
  clear y0 y1 y2
  have z0 := S.frozen_of w3 W1.heap.size 0 _ 188 (HV _ Hw3.out).2.2
  have z1 := S.frozen_of w3 W1.heap.size 1 _ 188 (HV _ Hw3.out).2.2
  go_upto_region 9 with fail
  go_cut [] (fun wc => Below W.heap.size W wc /\ B3 wc W.heap.size W0.heap.size W1.heap.size mb (ndc n (.slice q1 n.th.length d1) (.slice q2 n.el.length d2)) ((dp : Int) + 1) (n.k == 8))
  case first =>
    go_region_with (first | (go_at_call 151; refine (hdo _).mono ?_; rintro e w4 ⟨rfl, hb4⟩; have Hw4 := hid ((Hw3.out.drew).trans (hb4.mono Hw3.out.size)); clear hb4; have y2 := (HV _ Hw4.out).2.2; have i0 := S.cell_of w4 _ 0 _ 188 _ y2 rfl; have i1 := S.cell_of w4 _ 1 _ 188 _ y2 rfl; have z0 := S.frozen_of w4 W1.heap.size 0 _ 188 y2; have z1 := S.frozen_of w4 W1.heap.size 1 _ 188 y2; clear y2))
    all_goals
      go_wp2
      go_meet
      case rel =>
        rw [S.i64_id _ (by omega) (by omega)]
        have hbz := HB.out.trans (Hw4.out.mono HB.out.size)
        have hvz := HV _ Hw4.out
        have hge : W.heap.size <= W1.heap.size := by have := HS.out.2.1; omega
        refine ⟨?_, ?_, ?_, ?_⟩
        · first
            | exact ((hbz.setCell (p := ⟨W1.heap.size, 0, none⟩) hge _).setCell (p := ⟨W1.heap.size, 1, none⟩) hge _).drew
            | exact ((hbz.setCell (p := ⟨W1.heap.size, 0, none⟩) hge _).setCell (p := ⟨W1.heap.size, 1, none⟩) hge _)
        · exact (S.setCell_other _ _ _ _ _ (by have := HS.out.2.1; omega)).trans ((S.setCell_other _ _ _ _ _ (by have := HS.out.2.1; omega)).trans hvz.1)
        · exact (S.setCell_other _ _ _ _ _ (by have := HS.out.2.1; have := HS.out.1; omega)).trans ((S.setCell_other _ _ _ _ _ (by have := HS.out.2.1; have := HS.out.1; omega)).trans hvz.2.1)
        · exact S.setCell_heap _ W1.heap.size 1 _ 188 _ (S.setCell_heap _ W1.heap.size 0 _ 188 _ hvz.2.2)
  case rest =>
    obtain ⟨hbc, hvc⟩ := hcut
    have HC := hid hbc
    have HVC := hid hvc
    clear hbc hvc z0 z1 hdo HV
    clear c0 x0 x1 x2 x3 x4 x5 x6 x7 x8 i0 i1
    obtain ⟨y0, y1, y2⟩ := id HVC.out
    have c0 := S.cell_of wc _ 0 _ 166 _ y0 rfl
    have x0 := S.cell_of wc _ 0 _ 90 _ y1 rfl
    have x1 := S.cell_of wc _ 1 _ 90 _ y1 rfl
    have x2 := S.cell_of wc _ 2 _ 90 _ y1 rfl
    have x3 := S.cell_of wc _ 3 _ 90 _ y1 rfl
    have x4 := S.cell_of wc _ 4 _ 90 _ y1 rfl
    have x5 := S.cell_of wc _ 5 _ 90 _ y1 rfl
    have x6 := S.cell_of wc _ 6 _ 90 _ y1 rfl
    have x7 := S.cell_of wc _ 7 _ 90 _ y1 rfl
    have x8 := S.cell_of wc _ 8 _ 90 _ y1 rfl
    have i0 := S.cell_of wc _ 0 _ 188 _ y2 rfl
    have i1 := S.cell_of wc _ 1 _ 188 _ y2 rfl
    clear y0 y1 y2
    go_wp2_with fail
    refine (HN1.out _ HC.out).mono ?_
    rintro e w5 ⟨rfl, hb5⟩
    have H5 := hid (HC.out.trans (hb5.mono HC.out.size))
    have hv5 : B3 w5 W.heap.size W0.heap.size W1.heap.size mb (ndc n (.slice q1 n.th.length d1) (.slice q2 n.el.length d2)) ((dp : Int) + 1) (n.k == 8) := HVC.out.below hb5 (S.lt_of HVC.out.1) (S.lt_of HVC.out.2.1) (S.lt_of HVC.out.2.2)
    have HV5 := hid hv5
    clear hb5 hv5
    clear c0 x0 x1 x2 x3 x4 x5 x6 x7 x8 i0 i1
    by_cases hr : r1 = 0
    · subst hr
      obtain ⟨y0, y1, y2⟩ := id HV5.out
      have c0 := S.cell_of w5 _ 0 _ 166 _ y0 rfl
      have x0 := S.cell_of w5 _ 0 _ 90 _ y1 rfl
      have x1 := S.cell_of w5 _ 1 _ 90 _ y1 rfl
      have x2 := S.cell_of w5 _ 2 _ 90 _ y1 rfl
      have x3 := S.cell_of w5 _ 3 _ 90 _ y1 rfl
      have x4 := S.cell_of w5 _ 4 _ 90 _ y1 rfl
      have x5 := S.cell_of w5 _ 5 _ 90 _ y1 rfl
      have x6 := S.cell_of w5 _ 6 _ 90 _ y1 rfl
      have x7 := S.cell_of w5 _ 7 _ 90 _ y1 rfl
      have x8 := S.cell_of w5 _ 8 _ 90 _ y1 rfl
      have i0 := S.cell_of w5 _ 0 _ 188 _ y2 rfl
      have i1 := S.cell_of w5 _ 1 _ 188 _ y2 rfl
      clear y0 y1 y2
      go_wp2_with fail
      refine (HN2.out _ H5.out).mono ?_
      rintro e w6 ⟨rfl, hb6⟩
      have H6 := hid (H5.out.trans (hb6.mono H5.out.size))
      clear hb6
      clear c0 x0 x1 x2 x3 x4 x5 x6 x7 x8 i0 i1
      go_wp2
      go_ret
      exact ⟨by rw [HRR.out]; rfl, H6.out⟩
    · have HR := hid hr
      have hr1 : (r1 != 0) = true := by simpa using hr
      clear hr
      go_wp2
      go_ret
      exact ⟨by rw [HRR.out, if_neg HR.out]; rfl, H5.out⟩
end Go.Proofs.YtoemoiehjdmheaaGreat.R
