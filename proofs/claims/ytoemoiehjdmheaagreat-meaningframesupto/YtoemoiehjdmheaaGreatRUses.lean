import Derived.Test.YtoemoiehjdmheaaGreatRMath
import Derived.Test.YtoemoiehjdmheaaGreatSKit
import Derived.Laws.Strings
namespace Go.Proofs.YtoemoiehjdmheaaGreat.R
open Go.RowKit
open Go.Proofs
open Go.Proofs.YtoemoiehjdmheaaGreat.Y (Nd Df Ps ndc dfc hid)
set_option linter.unusedVariables false
set_option linter.unusedSimpArgs false
set_option maxHeartbeats 2000000
set_option maxRecDepth 100000
theorem toList_inj {a b : ByteArray} (h : a.toList = b.toList) : a = b := by
 rw [ByteArray.toList_eq, ByteArray.toList_eq] at h
 exact ByteArray.ext (by simpa using h)
theorem box_node (n : Nd) (tv ev : Value) (W : World) : ∃ W1, W.alloc (.cells #[.int .i64 n.k, .int .i64 n.op, .int .u16 n.v, .string n.nm, tv, ev, .bool n.has, .int .i64 n.p.1, .int .i64 n.p.2] 90) = W1 /\ Below W.heap.size W W1 /\ W1.heap[W.heap.size]? = some (.cells (ndc n tv ev).toArray 90 (0, 0)) :=
 ⟨_, rfl, (Below.refl _ _).alloc (Nat.le_refl _) _, heap_alloc_new W _⟩
theorem box_def (n : Df) (bv : Value) (W : World) : ∃ W1, W.alloc (.cells #[.int .i64 n.k, .string n.nm, .int .u16 n.v, bv, .int .i64 n.p.1, .int .i64 n.p.2] 60) = W1 /\ Below W.heap.size W W1 /\ W1.heap[W.heap.size]? = some (.cells (dfc n bv).toArray 60 (0, 0)) :=
 ⟨_, rfl, (Below.refl _ _).alloc (Nat.le_refl _) _, heap_alloc_new W _⟩
theorem isDo_any (n : Nd) (q1 q2 : Option Addr) (a1 d1 a2 d2 : Nat) (W : World) :
  Calls Tryz.prog 151 #[.agg (ndc n (.slice q1 a1 d1) (.slice q2 a2 d2)).toArray] W fun e w' => e = .returned (.bool (n.k == 8)) /\ Below W.heap.size W w' := by
 obtain ⟨W1, hW1, hB, hv⟩ := box_node n (.slice q1 a1 d1) (.slice q2 a2 d2) W
 have x0 := S.cell_of W1 _ 0 _ 90 _ hv rfl
 unfold ndc
 have HB := hid hB
 clear hv hB
 go_enter Tryz.func151, Tryz.ntmps151
 go_wp2
 go_ret
 exact ⟨rfl, HB.out⟩
theorem isStructure_any (n : Nd) (q1 q2 : Option Addr) (a1 d1 a2 d2 : Nat) (W : World) :
  Calls Tryz.prog 150 #[.agg (ndc n (.slice q1 a1 d1) (.slice q2 a2 d2)).toArray] W fun e w' => e = .returned (.bool (strc n.k)) /\ Below W.heap.size W w' := by
 obtain ⟨W1, hW1, hB, hv⟩ := box_node n (.slice q1 a1 d1) (.slice q2 a2 d2) W
 have x0 := S.cell_of W1 _ 0 _ 90 _ hv rfl
 unfold ndc strc
 have HB := hid hB
 clear hv hB
 by_cases c : 4 <= n.k
 ·have d : decide (4 <= n.k) = true := decide_eq_true c
  rw [d, Bool.true_and]
  go_enter Tryz.func150, Tryz.ntmps150
  go_wp2
  go_ret
  exact ⟨rfl, HB.out⟩
 ·have d : decide (4 <= n.k) = false := decide_eq_false c
  rw [d, Bool.false_and]
  go_enter Tryz.func150, Tryz.ntmps150
  go_wp2
  go_ret
  exact ⟨rfl, HB.out⟩
theorem isMain_any (n : Df) (q : Option Addr) (a d : Nat) (W : World) :
  Calls Tryz.prog 47 #[.agg (dfc n (.slice q a d)).toArray] W fun e w' => e = .returned (.bool (isMain n)) /\ Below W.heap.size W w' := by
 obtain ⟨W1, hW1, hB, hv⟩ := box_def n (.slice q a d) W
 have x0 := S.cell_of W1 _ 0 _ 60 _ hv rfl
 have x1 := S.cell_of W1 _ 1 _ 60 _ hv rfl
 unfold dfc isMain
 have HB := hid hB
 clear hv hB
 by_cases c : n.k = 1
 ·have c0 : (n.k == 1) = true := by simpa using c
  rw [c0, Bool.true_and]
  clear c
  by_cases m : n.nm = ⟨#[109, 97, 105, 110]⟩
  ·have m0 : decide (n.nm = ⟨#[109, 97, 105, 110]⟩) = true := decide_eq_true m
   rw [m0]
   rw [m] at x1 hW1 ⊢
   clear m m0
   go_enter Tryz.func47, Tryz.ntmps47
   go_wp2
   go_ret
   exact ⟨by simp, HB.out⟩
  ·have m0 : decide (n.nm = ⟨#[109, 97, 105, 110]⟩) = false := decide_eq_false m
   have m1 : ¬ n.nm.toList = (⟨#[109, 97, 105, 110]⟩ : ByteArray).toList := fun c => m (toList_inj c)
   rw [m0]
   go_enter Tryz.func47, Tryz.ntmps47
   go_wp2
   go_ret
   exact ⟨by first | rfl | (simp [m1]; done) | (simpa using m1) | (simpa using m) | (simp [ByteArray.toList_eq] at m1 ⊢; exact m1), HB.out⟩
 ·have c0 : (n.k == 1) = false := by simpa using c
  rw [c0, Bool.false_and]
  go_enter Tryz.func47, Tryz.ntmps47
  go_wp2
  go_ret
  exact ⟨by simp, HB.out⟩
theorem us_1_0 (op v p1 p2 : Int) (nm : ByteArray) (n1 n2 d1 d2 : Nat) (q1 q2 : Option Addr) (has : Bool) (W : World) (h_v : (v == 0) = false) :
  Calls Tryz.prog 148 #[.agg #[.int .i64 1, .int .i64 op, .int .u16 v, .string nm, .slice q1 n1 d1, .slice q2 n2 d2, .bool has, .int .i64 p1, .int .i64 p2]] W fun e w' => e = .returned (.bool false) /\ Below W.heap.size W w' := by
 obtain ⟨W1, hW1⟩ : ∃ W1, W.alloc (.cells #[.int .i64 1, .int .i64 op, .int .u16 v, .string nm, .slice q1 n1 d1, .slice q2 n2 d2, .bool has, .int .i64 p1, .int .i64 p2] 90) = W1 := ⟨_, rfl⟩
 have v1 : W1.heap[W.heap.size]? = some (.cells [.int .i64 1, .int .i64 op, .int .u16 v, .string nm, .slice q1 n1 d1, .slice q2 n2 d2, .bool has, .int .i64 p1, .int .i64 p2].toArray 90 (0, 0)) := by rw [<- hW1]; exact heap_alloc_new W _
 have HB := hid (show Below W.heap.size W W1 by rw [<- hW1]; exact (Below.refl _ _).alloc (Nat.le_refl _) _)
 have x0 := S.cell_of W1 _ 0 _ 90 _ v1 rfl
 have x1 := S.cell_of W1 _ 1 _ 90 _ v1 rfl
 have x2 := S.cell_of W1 _ 2 _ 90 _ v1 rfl
 have x3 := S.cell_of W1 _ 3 _ 90 _ v1 rfl
 have x4 := S.cell_of W1 _ 4 _ 90 _ v1 rfl
 have x5 := S.cell_of W1 _ 5 _ 90 _ v1 rfl
 have x6 := S.cell_of W1 _ 6 _ 90 _ v1 rfl
 have f1 : ∀ i, W1.frozen? ⟨W.heap.size, i, none⟩ = false := fun i => S.frozen_of W1 W.heap.size i _ 90 v1
 have HV := hid v1
 clear v1
 go_enter Tryz.func148, Tryz.ntmps148
 go_wp2
 go_ret
 refine ⟨rfl, ?_⟩
 first | exact HB.out | exact HB.out.setCell (Nat.le_refl _) _ | exact (HB.out.setCell (p := ⟨W.heap.size, _, none⟩) (Nat.le_refl _) _).setCell (p := ⟨W.heap.size, _, none⟩) (Nat.le_refl _) _ | exact ((HB.out.setCell (p := ⟨W.heap.size, _, none⟩) (Nat.le_refl _) _).setCell (p := ⟨W.heap.size, _, none⟩) (Nat.le_refl _) _).setCell (p := ⟨W.heap.size, _, none⟩) (Nat.le_refl _) _
theorem us_1_1 (op v p1 p2 : Int) (nm : ByteArray) (n1 n2 d1 d2 : Nat) (q1 q2 : Option Addr) (has : Bool) (W : World) (h_v : (v == 0) = true) (h_nm : nm.toList.isEmpty = false) :
  Calls Tryz.prog 148 #[.agg #[.int .i64 1, .int .i64 op, .int .u16 v, .string nm, .slice q1 n1 d1, .slice q2 n2 d2, .bool has, .int .i64 p1, .int .i64 p2]] W fun e w' => e = .returned (.bool false) /\ Below W.heap.size W w' := by
 obtain ⟨W1, hW1⟩ : ∃ W1, W.alloc (.cells #[.int .i64 1, .int .i64 op, .int .u16 v, .string nm, .slice q1 n1 d1, .slice q2 n2 d2, .bool has, .int .i64 p1, .int .i64 p2] 90) = W1 := ⟨_, rfl⟩
 have v1 : W1.heap[W.heap.size]? = some (.cells [.int .i64 1, .int .i64 op, .int .u16 v, .string nm, .slice q1 n1 d1, .slice q2 n2 d2, .bool has, .int .i64 p1, .int .i64 p2].toArray 90 (0, 0)) := by rw [<- hW1]; exact heap_alloc_new W _
 have HB := hid (show Below W.heap.size W W1 by rw [<- hW1]; exact (Below.refl _ _).alloc (Nat.le_refl _) _)
 have x0 := S.cell_of W1 _ 0 _ 90 _ v1 rfl
 have x1 := S.cell_of W1 _ 1 _ 90 _ v1 rfl
 have x2 := S.cell_of W1 _ 2 _ 90 _ v1 rfl
 have x3 := S.cell_of W1 _ 3 _ 90 _ v1 rfl
 have x4 := S.cell_of W1 _ 4 _ 90 _ v1 rfl
 have x5 := S.cell_of W1 _ 5 _ 90 _ v1 rfl
 have x6 := S.cell_of W1 _ 6 _ 90 _ v1 rfl
 have f1 : ∀ i, W1.frozen? ⟨W.heap.size, i, none⟩ = false := fun i => S.frozen_of W1 W.heap.size i _ 90 v1
 have HV := hid v1
 clear v1
 go_enter Tryz.func148, Tryz.ntmps148
 go_wp2
 go_ret
 refine ⟨rfl, ?_⟩
 first | exact HB.out | exact HB.out.setCell (Nat.le_refl _) _ | exact (HB.out.setCell (p := ⟨W.heap.size, _, none⟩) (Nat.le_refl _) _).setCell (p := ⟨W.heap.size, _, none⟩) (Nat.le_refl _) _ | exact ((HB.out.setCell (p := ⟨W.heap.size, _, none⟩) (Nat.le_refl _) _).setCell (p := ⟨W.heap.size, _, none⟩) (Nat.le_refl _) _).setCell (p := ⟨W.heap.size, _, none⟩) (Nat.le_refl _) _
theorem us_1_2 (op v p1 p2 : Int) (nm : ByteArray) (n1 n2 d1 d2 : Nat) (q1 q2 : Option Addr) (has : Bool) (W : World) (h_v : (v == 0) = true) (h_nm : nm.toList.isEmpty = true) (h_th : (((n1 + 1 : Nat) : Int) == 0) = false) :
  Calls Tryz.prog 148 #[.agg #[.int .i64 1, .int .i64 op, .int .u16 v, .string nm, .slice q1 (n1 + 1) d1, .slice q2 n2 d2, .bool has, .int .i64 p1, .int .i64 p2]] W fun e w' => e = .returned (.bool false) /\ Below W.heap.size W w' := by
 obtain ⟨W1, hW1⟩ : ∃ W1, W.alloc (.cells #[.int .i64 1, .int .i64 op, .int .u16 v, .string nm, .slice q1 (n1 + 1) d1, .slice q2 n2 d2, .bool has, .int .i64 p1, .int .i64 p2] 90) = W1 := ⟨_, rfl⟩
 have v1 : W1.heap[W.heap.size]? = some (.cells [.int .i64 1, .int .i64 op, .int .u16 v, .string nm, .slice q1 (n1 + 1) d1, .slice q2 n2 d2, .bool has, .int .i64 p1, .int .i64 p2].toArray 90 (0, 0)) := by rw [<- hW1]; exact heap_alloc_new W _
 have HB := hid (show Below W.heap.size W W1 by rw [<- hW1]; exact (Below.refl _ _).alloc (Nat.le_refl _) _)
 have x0 := S.cell_of W1 _ 0 _ 90 _ v1 rfl
 have x1 := S.cell_of W1 _ 1 _ 90 _ v1 rfl
 have x2 := S.cell_of W1 _ 2 _ 90 _ v1 rfl
 have x3 := S.cell_of W1 _ 3 _ 90 _ v1 rfl
 have x4 := S.cell_of W1 _ 4 _ 90 _ v1 rfl
 have x5 := S.cell_of W1 _ 5 _ 90 _ v1 rfl
 have x6 := S.cell_of W1 _ 6 _ 90 _ v1 rfl
 have f1 : ∀ i, W1.frozen? ⟨W.heap.size, i, none⟩ = false := fun i => S.frozen_of W1 W.heap.size i _ 90 v1
 have HV := hid v1
 clear v1
 go_enter Tryz.func148, Tryz.ntmps148
 go_wp2
 go_ret
 refine ⟨rfl, ?_⟩
 first | exact HB.out | exact HB.out.setCell (Nat.le_refl _) _ | exact (HB.out.setCell (p := ⟨W.heap.size, _, none⟩) (Nat.le_refl _) _).setCell (p := ⟨W.heap.size, _, none⟩) (Nat.le_refl _) _ | exact ((HB.out.setCell (p := ⟨W.heap.size, _, none⟩) (Nat.le_refl _) _).setCell (p := ⟨W.heap.size, _, none⟩) (Nat.le_refl _) _).setCell (p := ⟨W.heap.size, _, none⟩) (Nat.le_refl _) _
theorem us_1_3 (op v p1 p2 : Int) (nm : ByteArray) (n1 n2 d1 d2 : Nat) (q1 q2 : Option Addr) (has : Bool) (W : World) (h_v : (v == 0) = true) (h_nm : nm.toList.isEmpty = true) (h_el : (((n2 + 1 : Nat) : Int) == 0) = false) :
  Calls Tryz.prog 148 #[.agg #[.int .i64 1, .int .i64 op, .int .u16 v, .string nm, .slice q1 0 d1, .slice q2 (n2 + 1) d2, .bool has, .int .i64 p1, .int .i64 p2]] W fun e w' => e = .returned (.bool false) /\ Below W.heap.size W w' := by
 obtain ⟨W1, hW1⟩ : ∃ W1, W.alloc (.cells #[.int .i64 1, .int .i64 op, .int .u16 v, .string nm, .slice q1 0 d1, .slice q2 (n2 + 1) d2, .bool has, .int .i64 p1, .int .i64 p2] 90) = W1 := ⟨_, rfl⟩
 have v1 : W1.heap[W.heap.size]? = some (.cells [.int .i64 1, .int .i64 op, .int .u16 v, .string nm, .slice q1 0 d1, .slice q2 (n2 + 1) d2, .bool has, .int .i64 p1, .int .i64 p2].toArray 90 (0, 0)) := by rw [<- hW1]; exact heap_alloc_new W _
 have HB := hid (show Below W.heap.size W W1 by rw [<- hW1]; exact (Below.refl _ _).alloc (Nat.le_refl _) _)
 have x0 := S.cell_of W1 _ 0 _ 90 _ v1 rfl
 have x1 := S.cell_of W1 _ 1 _ 90 _ v1 rfl
 have x2 := S.cell_of W1 _ 2 _ 90 _ v1 rfl
 have x3 := S.cell_of W1 _ 3 _ 90 _ v1 rfl
 have x4 := S.cell_of W1 _ 4 _ 90 _ v1 rfl
 have x5 := S.cell_of W1 _ 5 _ 90 _ v1 rfl
 have x6 := S.cell_of W1 _ 6 _ 90 _ v1 rfl
 have f1 : ∀ i, W1.frozen? ⟨W.heap.size, i, none⟩ = false := fun i => S.frozen_of W1 W.heap.size i _ 90 v1
 have HV := hid v1
 clear v1
 go_enter Tryz.func148, Tryz.ntmps148
 go_wp2
 go_ret
 refine ⟨rfl, ?_⟩
 first | exact HB.out | exact HB.out.setCell (Nat.le_refl _) _ | exact (HB.out.setCell (p := ⟨W.heap.size, _, none⟩) (Nat.le_refl _) _).setCell (p := ⟨W.heap.size, _, none⟩) (Nat.le_refl _) _ | exact ((HB.out.setCell (p := ⟨W.heap.size, _, none⟩) (Nat.le_refl _) _).setCell (p := ⟨W.heap.size, _, none⟩) (Nat.le_refl _) _).setCell (p := ⟨W.heap.size, _, none⟩) (Nat.le_refl _) _
theorem us_1_4 (op v p1 p2 : Int) (nm : ByteArray) (n1 n2 d1 d2 : Nat) (q1 q2 : Option Addr) (has : Bool) (W : World) (h_v : (v == 0) = true) (h_nm : nm.toList.isEmpty = true) :
  Calls Tryz.prog 148 #[.agg #[.int .i64 1, .int .i64 op, .int .u16 v, .string nm, .slice q1 0 d1, .slice q2 0 d2, .bool true, .int .i64 p1, .int .i64 p2]] W fun e w' => e = .returned (.bool false) /\ Below W.heap.size W w' := by
 obtain ⟨W1, hW1⟩ : ∃ W1, W.alloc (.cells #[.int .i64 1, .int .i64 op, .int .u16 v, .string nm, .slice q1 0 d1, .slice q2 0 d2, .bool true, .int .i64 p1, .int .i64 p2] 90) = W1 := ⟨_, rfl⟩
 have v1 : W1.heap[W.heap.size]? = some (.cells [.int .i64 1, .int .i64 op, .int .u16 v, .string nm, .slice q1 0 d1, .slice q2 0 d2, .bool true, .int .i64 p1, .int .i64 p2].toArray 90 (0, 0)) := by rw [<- hW1]; exact heap_alloc_new W _
 have HB := hid (show Below W.heap.size W W1 by rw [<- hW1]; exact (Below.refl _ _).alloc (Nat.le_refl _) _)
 have x0 := S.cell_of W1 _ 0 _ 90 _ v1 rfl
 have x1 := S.cell_of W1 _ 1 _ 90 _ v1 rfl
 have x2 := S.cell_of W1 _ 2 _ 90 _ v1 rfl
 have x3 := S.cell_of W1 _ 3 _ 90 _ v1 rfl
 have x4 := S.cell_of W1 _ 4 _ 90 _ v1 rfl
 have x5 := S.cell_of W1 _ 5 _ 90 _ v1 rfl
 have x6 := S.cell_of W1 _ 6 _ 90 _ v1 rfl
 have f1 : ∀ i, W1.frozen? ⟨W.heap.size, i, none⟩ = false := fun i => S.frozen_of W1 W.heap.size i _ 90 v1
 have HV := hid v1
 clear v1
 go_enter Tryz.func148, Tryz.ntmps148
 go_wp2
 go_ret
 refine ⟨rfl, ?_⟩
 first | exact HB.out | exact HB.out.setCell (Nat.le_refl _) _ | exact (HB.out.setCell (p := ⟨W.heap.size, _, none⟩) (Nat.le_refl _) _).setCell (p := ⟨W.heap.size, _, none⟩) (Nat.le_refl _) _ | exact ((HB.out.setCell (p := ⟨W.heap.size, _, none⟩) (Nat.le_refl _) _).setCell (p := ⟨W.heap.size, _, none⟩) (Nat.le_refl _) _).setCell (p := ⟨W.heap.size, _, none⟩) (Nat.le_refl _) _
theorem us_1_5 (op v p1 p2 : Int) (nm : ByteArray) (n1 n2 d1 d2 : Nat) (q1 q2 : Option Addr) (has : Bool) (W : World) (h_v : (v == 0) = true) (h_nm : nm.toList.isEmpty = true) :
  Calls Tryz.prog 148 #[.agg #[.int .i64 1, .int .i64 op, .int .u16 v, .string nm, .slice q1 0 d1, .slice q2 0 d2, .bool false, .int .i64 p1, .int .i64 p2]] W fun e w' => e = .returned (.bool true) /\ Below W.heap.size W w' := by
 obtain ⟨W1, hW1⟩ : ∃ W1, W.alloc (.cells #[.int .i64 1, .int .i64 op, .int .u16 v, .string nm, .slice q1 0 d1, .slice q2 0 d2, .bool false, .int .i64 p1, .int .i64 p2] 90) = W1 := ⟨_, rfl⟩
 have v1 : W1.heap[W.heap.size]? = some (.cells [.int .i64 1, .int .i64 op, .int .u16 v, .string nm, .slice q1 0 d1, .slice q2 0 d2, .bool false, .int .i64 p1, .int .i64 p2].toArray 90 (0, 0)) := by rw [<- hW1]; exact heap_alloc_new W _
 have HB := hid (show Below W.heap.size W W1 by rw [<- hW1]; exact (Below.refl _ _).alloc (Nat.le_refl _) _)
 have x0 := S.cell_of W1 _ 0 _ 90 _ v1 rfl
 have x1 := S.cell_of W1 _ 1 _ 90 _ v1 rfl
 have x2 := S.cell_of W1 _ 2 _ 90 _ v1 rfl
 have x3 := S.cell_of W1 _ 3 _ 90 _ v1 rfl
 have x4 := S.cell_of W1 _ 4 _ 90 _ v1 rfl
 have x5 := S.cell_of W1 _ 5 _ 90 _ v1 rfl
 have x6 := S.cell_of W1 _ 6 _ 90 _ v1 rfl
 have f1 : ∀ i, W1.frozen? ⟨W.heap.size, i, none⟩ = false := fun i => S.frozen_of W1 W.heap.size i _ 90 v1
 have HV := hid v1
 clear v1
 go_enter Tryz.func148, Tryz.ntmps148
 go_wp2
 go_ret
 refine ⟨rfl, ?_⟩
 first | exact HB.out | exact HB.out.setCell (Nat.le_refl _) _ | exact (HB.out.setCell (p := ⟨W.heap.size, _, none⟩) (Nat.le_refl _) _).setCell (p := ⟨W.heap.size, _, none⟩) (Nat.le_refl _) _ | exact ((HB.out.setCell (p := ⟨W.heap.size, _, none⟩) (Nat.le_refl _) _).setCell (p := ⟨W.heap.size, _, none⟩) (Nat.le_refl _) _).setCell (p := ⟨W.heap.size, _, none⟩) (Nat.le_refl _) _
theorem us_2_0 (op v p1 p2 : Int) (nm : ByteArray) (n1 n2 d1 d2 : Nat) (q1 q2 : Option Addr) (has : Bool) (W : World) (h_op : (op == 0) = false) :
  Calls Tryz.prog 148 #[.agg #[.int .i64 2, .int .i64 op, .int .u16 v, .string nm, .slice q1 n1 d1, .slice q2 n2 d2, .bool has, .int .i64 p1, .int .i64 p2]] W fun e w' => e = .returned (.bool false) /\ Below W.heap.size W w' := by
 obtain ⟨W1, hW1⟩ : ∃ W1, W.alloc (.cells #[.int .i64 2, .int .i64 op, .int .u16 v, .string nm, .slice q1 n1 d1, .slice q2 n2 d2, .bool has, .int .i64 p1, .int .i64 p2] 90) = W1 := ⟨_, rfl⟩
 have v1 : W1.heap[W.heap.size]? = some (.cells [.int .i64 2, .int .i64 op, .int .u16 v, .string nm, .slice q1 n1 d1, .slice q2 n2 d2, .bool has, .int .i64 p1, .int .i64 p2].toArray 90 (0, 0)) := by rw [<- hW1]; exact heap_alloc_new W _
 have HB := hid (show Below W.heap.size W W1 by rw [<- hW1]; exact (Below.refl _ _).alloc (Nat.le_refl _) _)
 have x0 := S.cell_of W1 _ 0 _ 90 _ v1 rfl
 have x1 := S.cell_of W1 _ 1 _ 90 _ v1 rfl
 have x2 := S.cell_of W1 _ 2 _ 90 _ v1 rfl
 have x3 := S.cell_of W1 _ 3 _ 90 _ v1 rfl
 have x4 := S.cell_of W1 _ 4 _ 90 _ v1 rfl
 have x5 := S.cell_of W1 _ 5 _ 90 _ v1 rfl
 have x6 := S.cell_of W1 _ 6 _ 90 _ v1 rfl
 have f1 : ∀ i, W1.frozen? ⟨W.heap.size, i, none⟩ = false := fun i => S.frozen_of W1 W.heap.size i _ 90 v1
 have HV := hid v1
 clear v1
 go_enter Tryz.func148, Tryz.ntmps148
 go_wp2
 go_ret
 refine ⟨rfl, ?_⟩
 first | exact HB.out | exact HB.out.setCell (Nat.le_refl _) _ | exact (HB.out.setCell (p := ⟨W.heap.size, _, none⟩) (Nat.le_refl _) _).setCell (p := ⟨W.heap.size, _, none⟩) (Nat.le_refl _) _ | exact ((HB.out.setCell (p := ⟨W.heap.size, _, none⟩) (Nat.le_refl _) _).setCell (p := ⟨W.heap.size, _, none⟩) (Nat.le_refl _) _).setCell (p := ⟨W.heap.size, _, none⟩) (Nat.le_refl _) _
theorem us_2_1 (op v p1 p2 : Int) (nm : ByteArray) (n1 n2 d1 d2 : Nat) (q1 q2 : Option Addr) (has : Bool) (W : World) (h_op : (op == 0) = true) (h_nm : nm.toList.isEmpty = false) :
  Calls Tryz.prog 148 #[.agg #[.int .i64 2, .int .i64 op, .int .u16 v, .string nm, .slice q1 n1 d1, .slice q2 n2 d2, .bool has, .int .i64 p1, .int .i64 p2]] W fun e w' => e = .returned (.bool false) /\ Below W.heap.size W w' := by
 obtain ⟨W1, hW1⟩ : ∃ W1, W.alloc (.cells #[.int .i64 2, .int .i64 op, .int .u16 v, .string nm, .slice q1 n1 d1, .slice q2 n2 d2, .bool has, .int .i64 p1, .int .i64 p2] 90) = W1 := ⟨_, rfl⟩
 have v1 : W1.heap[W.heap.size]? = some (.cells [.int .i64 2, .int .i64 op, .int .u16 v, .string nm, .slice q1 n1 d1, .slice q2 n2 d2, .bool has, .int .i64 p1, .int .i64 p2].toArray 90 (0, 0)) := by rw [<- hW1]; exact heap_alloc_new W _
 have HB := hid (show Below W.heap.size W W1 by rw [<- hW1]; exact (Below.refl _ _).alloc (Nat.le_refl _) _)
 have x0 := S.cell_of W1 _ 0 _ 90 _ v1 rfl
 have x1 := S.cell_of W1 _ 1 _ 90 _ v1 rfl
 have x2 := S.cell_of W1 _ 2 _ 90 _ v1 rfl
 have x3 := S.cell_of W1 _ 3 _ 90 _ v1 rfl
 have x4 := S.cell_of W1 _ 4 _ 90 _ v1 rfl
 have x5 := S.cell_of W1 _ 5 _ 90 _ v1 rfl
 have x6 := S.cell_of W1 _ 6 _ 90 _ v1 rfl
 have f1 : ∀ i, W1.frozen? ⟨W.heap.size, i, none⟩ = false := fun i => S.frozen_of W1 W.heap.size i _ 90 v1
 have HV := hid v1
 clear v1
 go_enter Tryz.func148, Tryz.ntmps148
 go_wp2
 go_ret
 refine ⟨rfl, ?_⟩
 first | exact HB.out | exact HB.out.setCell (Nat.le_refl _) _ | exact (HB.out.setCell (p := ⟨W.heap.size, _, none⟩) (Nat.le_refl _) _).setCell (p := ⟨W.heap.size, _, none⟩) (Nat.le_refl _) _ | exact ((HB.out.setCell (p := ⟨W.heap.size, _, none⟩) (Nat.le_refl _) _).setCell (p := ⟨W.heap.size, _, none⟩) (Nat.le_refl _) _).setCell (p := ⟨W.heap.size, _, none⟩) (Nat.le_refl _) _
theorem us_2_2 (op v p1 p2 : Int) (nm : ByteArray) (n1 n2 d1 d2 : Nat) (q1 q2 : Option Addr) (has : Bool) (W : World) (h_op : (op == 0) = true) (h_nm : nm.toList.isEmpty = true) (h_th : (((n1 + 1 : Nat) : Int) == 0) = false) :
  Calls Tryz.prog 148 #[.agg #[.int .i64 2, .int .i64 op, .int .u16 v, .string nm, .slice q1 (n1 + 1) d1, .slice q2 n2 d2, .bool has, .int .i64 p1, .int .i64 p2]] W fun e w' => e = .returned (.bool false) /\ Below W.heap.size W w' := by
 obtain ⟨W1, hW1⟩ : ∃ W1, W.alloc (.cells #[.int .i64 2, .int .i64 op, .int .u16 v, .string nm, .slice q1 (n1 + 1) d1, .slice q2 n2 d2, .bool has, .int .i64 p1, .int .i64 p2] 90) = W1 := ⟨_, rfl⟩
 have v1 : W1.heap[W.heap.size]? = some (.cells [.int .i64 2, .int .i64 op, .int .u16 v, .string nm, .slice q1 (n1 + 1) d1, .slice q2 n2 d2, .bool has, .int .i64 p1, .int .i64 p2].toArray 90 (0, 0)) := by rw [<- hW1]; exact heap_alloc_new W _
 have HB := hid (show Below W.heap.size W W1 by rw [<- hW1]; exact (Below.refl _ _).alloc (Nat.le_refl _) _)
 have x0 := S.cell_of W1 _ 0 _ 90 _ v1 rfl
 have x1 := S.cell_of W1 _ 1 _ 90 _ v1 rfl
 have x2 := S.cell_of W1 _ 2 _ 90 _ v1 rfl
 have x3 := S.cell_of W1 _ 3 _ 90 _ v1 rfl
 have x4 := S.cell_of W1 _ 4 _ 90 _ v1 rfl
 have x5 := S.cell_of W1 _ 5 _ 90 _ v1 rfl
 have x6 := S.cell_of W1 _ 6 _ 90 _ v1 rfl
 have f1 : ∀ i, W1.frozen? ⟨W.heap.size, i, none⟩ = false := fun i => S.frozen_of W1 W.heap.size i _ 90 v1
 have HV := hid v1
 clear v1
 go_enter Tryz.func148, Tryz.ntmps148
 go_wp2
 go_ret
 refine ⟨rfl, ?_⟩
 first | exact HB.out | exact HB.out.setCell (Nat.le_refl _) _ | exact (HB.out.setCell (p := ⟨W.heap.size, _, none⟩) (Nat.le_refl _) _).setCell (p := ⟨W.heap.size, _, none⟩) (Nat.le_refl _) _ | exact ((HB.out.setCell (p := ⟨W.heap.size, _, none⟩) (Nat.le_refl _) _).setCell (p := ⟨W.heap.size, _, none⟩) (Nat.le_refl _) _).setCell (p := ⟨W.heap.size, _, none⟩) (Nat.le_refl _) _
theorem us_2_3 (op v p1 p2 : Int) (nm : ByteArray) (n1 n2 d1 d2 : Nat) (q1 q2 : Option Addr) (has : Bool) (W : World) (h_op : (op == 0) = true) (h_nm : nm.toList.isEmpty = true) (h_el : (((n2 + 1 : Nat) : Int) == 0) = false) :
  Calls Tryz.prog 148 #[.agg #[.int .i64 2, .int .i64 op, .int .u16 v, .string nm, .slice q1 0 d1, .slice q2 (n2 + 1) d2, .bool has, .int .i64 p1, .int .i64 p2]] W fun e w' => e = .returned (.bool false) /\ Below W.heap.size W w' := by
 obtain ⟨W1, hW1⟩ : ∃ W1, W.alloc (.cells #[.int .i64 2, .int .i64 op, .int .u16 v, .string nm, .slice q1 0 d1, .slice q2 (n2 + 1) d2, .bool has, .int .i64 p1, .int .i64 p2] 90) = W1 := ⟨_, rfl⟩
 have v1 : W1.heap[W.heap.size]? = some (.cells [.int .i64 2, .int .i64 op, .int .u16 v, .string nm, .slice q1 0 d1, .slice q2 (n2 + 1) d2, .bool has, .int .i64 p1, .int .i64 p2].toArray 90 (0, 0)) := by rw [<- hW1]; exact heap_alloc_new W _
 have HB := hid (show Below W.heap.size W W1 by rw [<- hW1]; exact (Below.refl _ _).alloc (Nat.le_refl _) _)
 have x0 := S.cell_of W1 _ 0 _ 90 _ v1 rfl
 have x1 := S.cell_of W1 _ 1 _ 90 _ v1 rfl
 have x2 := S.cell_of W1 _ 2 _ 90 _ v1 rfl
 have x3 := S.cell_of W1 _ 3 _ 90 _ v1 rfl
 have x4 := S.cell_of W1 _ 4 _ 90 _ v1 rfl
 have x5 := S.cell_of W1 _ 5 _ 90 _ v1 rfl
 have x6 := S.cell_of W1 _ 6 _ 90 _ v1 rfl
 have f1 : ∀ i, W1.frozen? ⟨W.heap.size, i, none⟩ = false := fun i => S.frozen_of W1 W.heap.size i _ 90 v1
 have HV := hid v1
 clear v1
 go_enter Tryz.func148, Tryz.ntmps148
 go_wp2
 go_ret
 refine ⟨rfl, ?_⟩
 first | exact HB.out | exact HB.out.setCell (Nat.le_refl _) _ | exact (HB.out.setCell (p := ⟨W.heap.size, _, none⟩) (Nat.le_refl _) _).setCell (p := ⟨W.heap.size, _, none⟩) (Nat.le_refl _) _ | exact ((HB.out.setCell (p := ⟨W.heap.size, _, none⟩) (Nat.le_refl _) _).setCell (p := ⟨W.heap.size, _, none⟩) (Nat.le_refl _) _).setCell (p := ⟨W.heap.size, _, none⟩) (Nat.le_refl _) _
theorem us_2_4 (op v p1 p2 : Int) (nm : ByteArray) (n1 n2 d1 d2 : Nat) (q1 q2 : Option Addr) (has : Bool) (W : World) (h_op : (op == 0) = true) (h_nm : nm.toList.isEmpty = true) :
  Calls Tryz.prog 148 #[.agg #[.int .i64 2, .int .i64 op, .int .u16 v, .string nm, .slice q1 0 d1, .slice q2 0 d2, .bool true, .int .i64 p1, .int .i64 p2]] W fun e w' => e = .returned (.bool false) /\ Below W.heap.size W w' := by
 obtain ⟨W1, hW1⟩ : ∃ W1, W.alloc (.cells #[.int .i64 2, .int .i64 op, .int .u16 v, .string nm, .slice q1 0 d1, .slice q2 0 d2, .bool true, .int .i64 p1, .int .i64 p2] 90) = W1 := ⟨_, rfl⟩
 have v1 : W1.heap[W.heap.size]? = some (.cells [.int .i64 2, .int .i64 op, .int .u16 v, .string nm, .slice q1 0 d1, .slice q2 0 d2, .bool true, .int .i64 p1, .int .i64 p2].toArray 90 (0, 0)) := by rw [<- hW1]; exact heap_alloc_new W _
 have HB := hid (show Below W.heap.size W W1 by rw [<- hW1]; exact (Below.refl _ _).alloc (Nat.le_refl _) _)
 have x0 := S.cell_of W1 _ 0 _ 90 _ v1 rfl
 have x1 := S.cell_of W1 _ 1 _ 90 _ v1 rfl
 have x2 := S.cell_of W1 _ 2 _ 90 _ v1 rfl
 have x3 := S.cell_of W1 _ 3 _ 90 _ v1 rfl
 have x4 := S.cell_of W1 _ 4 _ 90 _ v1 rfl
 have x5 := S.cell_of W1 _ 5 _ 90 _ v1 rfl
 have x6 := S.cell_of W1 _ 6 _ 90 _ v1 rfl
 have f1 : ∀ i, W1.frozen? ⟨W.heap.size, i, none⟩ = false := fun i => S.frozen_of W1 W.heap.size i _ 90 v1
 have HV := hid v1
 clear v1
 go_enter Tryz.func148, Tryz.ntmps148
 go_wp2
 go_ret
 refine ⟨rfl, ?_⟩
 first | exact HB.out | exact HB.out.setCell (Nat.le_refl _) _ | exact (HB.out.setCell (p := ⟨W.heap.size, _, none⟩) (Nat.le_refl _) _).setCell (p := ⟨W.heap.size, _, none⟩) (Nat.le_refl _) _ | exact ((HB.out.setCell (p := ⟨W.heap.size, _, none⟩) (Nat.le_refl _) _).setCell (p := ⟨W.heap.size, _, none⟩) (Nat.le_refl _) _).setCell (p := ⟨W.heap.size, _, none⟩) (Nat.le_refl _) _
theorem us_2_5 (op v p1 p2 : Int) (nm : ByteArray) (n1 n2 d1 d2 : Nat) (q1 q2 : Option Addr) (has : Bool) (W : World) (h_op : (op == 0) = true) (h_nm : nm.toList.isEmpty = true) :
  Calls Tryz.prog 148 #[.agg #[.int .i64 2, .int .i64 op, .int .u16 v, .string nm, .slice q1 0 d1, .slice q2 0 d2, .bool false, .int .i64 p1, .int .i64 p2]] W fun e w' => e = .returned (.bool true) /\ Below W.heap.size W w' := by
 obtain ⟨W1, hW1⟩ : ∃ W1, W.alloc (.cells #[.int .i64 2, .int .i64 op, .int .u16 v, .string nm, .slice q1 0 d1, .slice q2 0 d2, .bool false, .int .i64 p1, .int .i64 p2] 90) = W1 := ⟨_, rfl⟩
 have v1 : W1.heap[W.heap.size]? = some (.cells [.int .i64 2, .int .i64 op, .int .u16 v, .string nm, .slice q1 0 d1, .slice q2 0 d2, .bool false, .int .i64 p1, .int .i64 p2].toArray 90 (0, 0)) := by rw [<- hW1]; exact heap_alloc_new W _
 have HB := hid (show Below W.heap.size W W1 by rw [<- hW1]; exact (Below.refl _ _).alloc (Nat.le_refl _) _)
 have x0 := S.cell_of W1 _ 0 _ 90 _ v1 rfl
 have x1 := S.cell_of W1 _ 1 _ 90 _ v1 rfl
 have x2 := S.cell_of W1 _ 2 _ 90 _ v1 rfl
 have x3 := S.cell_of W1 _ 3 _ 90 _ v1 rfl
 have x4 := S.cell_of W1 _ 4 _ 90 _ v1 rfl
 have x5 := S.cell_of W1 _ 5 _ 90 _ v1 rfl
 have x6 := S.cell_of W1 _ 6 _ 90 _ v1 rfl
 have f1 : ∀ i, W1.frozen? ⟨W.heap.size, i, none⟩ = false := fun i => S.frozen_of W1 W.heap.size i _ 90 v1
 have HV := hid v1
 clear v1
 go_enter Tryz.func148, Tryz.ntmps148
 go_wp2
 go_ret
 refine ⟨rfl, ?_⟩
 first | exact HB.out | exact HB.out.setCell (Nat.le_refl _) _ | exact (HB.out.setCell (p := ⟨W.heap.size, _, none⟩) (Nat.le_refl _) _).setCell (p := ⟨W.heap.size, _, none⟩) (Nat.le_refl _) _ | exact ((HB.out.setCell (p := ⟨W.heap.size, _, none⟩) (Nat.le_refl _) _).setCell (p := ⟨W.heap.size, _, none⟩) (Nat.le_refl _) _).setCell (p := ⟨W.heap.size, _, none⟩) (Nat.le_refl _) _
theorem us_3_0 (op v p1 p2 : Int) (nm : ByteArray) (n1 n2 d1 d2 : Nat) (q1 q2 : Option Addr) (has : Bool) (W : World) (h_op : (op == 0) = false) :
  Calls Tryz.prog 148 #[.agg #[.int .i64 3, .int .i64 op, .int .u16 v, .string nm, .slice q1 n1 d1, .slice q2 n2 d2, .bool has, .int .i64 p1, .int .i64 p2]] W fun e w' => e = .returned (.bool false) /\ Below W.heap.size W w' := by
 obtain ⟨W1, hW1⟩ : ∃ W1, W.alloc (.cells #[.int .i64 3, .int .i64 op, .int .u16 v, .string nm, .slice q1 n1 d1, .slice q2 n2 d2, .bool has, .int .i64 p1, .int .i64 p2] 90) = W1 := ⟨_, rfl⟩
 have v1 : W1.heap[W.heap.size]? = some (.cells [.int .i64 3, .int .i64 op, .int .u16 v, .string nm, .slice q1 n1 d1, .slice q2 n2 d2, .bool has, .int .i64 p1, .int .i64 p2].toArray 90 (0, 0)) := by rw [<- hW1]; exact heap_alloc_new W _
 have HB := hid (show Below W.heap.size W W1 by rw [<- hW1]; exact (Below.refl _ _).alloc (Nat.le_refl _) _)
 have x0 := S.cell_of W1 _ 0 _ 90 _ v1 rfl
 have x1 := S.cell_of W1 _ 1 _ 90 _ v1 rfl
 have x2 := S.cell_of W1 _ 2 _ 90 _ v1 rfl
 have x3 := S.cell_of W1 _ 3 _ 90 _ v1 rfl
 have x4 := S.cell_of W1 _ 4 _ 90 _ v1 rfl
 have x5 := S.cell_of W1 _ 5 _ 90 _ v1 rfl
 have x6 := S.cell_of W1 _ 6 _ 90 _ v1 rfl
 have f1 : ∀ i, W1.frozen? ⟨W.heap.size, i, none⟩ = false := fun i => S.frozen_of W1 W.heap.size i _ 90 v1
 have HV := hid v1
 clear v1
 go_enter Tryz.func148, Tryz.ntmps148
 go_wp2
 go_ret
 refine ⟨rfl, ?_⟩
 first | exact HB.out | exact HB.out.setCell (Nat.le_refl _) _ | exact (HB.out.setCell (p := ⟨W.heap.size, _, none⟩) (Nat.le_refl _) _).setCell (p := ⟨W.heap.size, _, none⟩) (Nat.le_refl _) _ | exact ((HB.out.setCell (p := ⟨W.heap.size, _, none⟩) (Nat.le_refl _) _).setCell (p := ⟨W.heap.size, _, none⟩) (Nat.le_refl _) _).setCell (p := ⟨W.heap.size, _, none⟩) (Nat.le_refl _) _
theorem us_3_1 (op v p1 p2 : Int) (nm : ByteArray) (n1 n2 d1 d2 : Nat) (q1 q2 : Option Addr) (has : Bool) (W : World) (h_op : (op == 0) = true) (h_v : (v == 0) = false) :
  Calls Tryz.prog 148 #[.agg #[.int .i64 3, .int .i64 op, .int .u16 v, .string nm, .slice q1 n1 d1, .slice q2 n2 d2, .bool has, .int .i64 p1, .int .i64 p2]] W fun e w' => e = .returned (.bool false) /\ Below W.heap.size W w' := by
 obtain ⟨W1, hW1⟩ : ∃ W1, W.alloc (.cells #[.int .i64 3, .int .i64 op, .int .u16 v, .string nm, .slice q1 n1 d1, .slice q2 n2 d2, .bool has, .int .i64 p1, .int .i64 p2] 90) = W1 := ⟨_, rfl⟩
 have v1 : W1.heap[W.heap.size]? = some (.cells [.int .i64 3, .int .i64 op, .int .u16 v, .string nm, .slice q1 n1 d1, .slice q2 n2 d2, .bool has, .int .i64 p1, .int .i64 p2].toArray 90 (0, 0)) := by rw [<- hW1]; exact heap_alloc_new W _
 have HB := hid (show Below W.heap.size W W1 by rw [<- hW1]; exact (Below.refl _ _).alloc (Nat.le_refl _) _)
 have x0 := S.cell_of W1 _ 0 _ 90 _ v1 rfl
 have x1 := S.cell_of W1 _ 1 _ 90 _ v1 rfl
 have x2 := S.cell_of W1 _ 2 _ 90 _ v1 rfl
 have x3 := S.cell_of W1 _ 3 _ 90 _ v1 rfl
 have x4 := S.cell_of W1 _ 4 _ 90 _ v1 rfl
 have x5 := S.cell_of W1 _ 5 _ 90 _ v1 rfl
 have x6 := S.cell_of W1 _ 6 _ 90 _ v1 rfl
 have f1 : ∀ i, W1.frozen? ⟨W.heap.size, i, none⟩ = false := fun i => S.frozen_of W1 W.heap.size i _ 90 v1
 have HV := hid v1
 clear v1
 go_enter Tryz.func148, Tryz.ntmps148
 go_wp2
 go_ret
 refine ⟨rfl, ?_⟩
 first | exact HB.out | exact HB.out.setCell (Nat.le_refl _) _ | exact (HB.out.setCell (p := ⟨W.heap.size, _, none⟩) (Nat.le_refl _) _).setCell (p := ⟨W.heap.size, _, none⟩) (Nat.le_refl _) _ | exact ((HB.out.setCell (p := ⟨W.heap.size, _, none⟩) (Nat.le_refl _) _).setCell (p := ⟨W.heap.size, _, none⟩) (Nat.le_refl _) _).setCell (p := ⟨W.heap.size, _, none⟩) (Nat.le_refl _) _
theorem us_3_2 (op v p1 p2 : Int) (nm : ByteArray) (n1 n2 d1 d2 : Nat) (q1 q2 : Option Addr) (has : Bool) (W : World) (h_op : (op == 0) = true) (h_v : (v == 0) = true) (h_th : (((n1 + 1 : Nat) : Int) == 0) = false) :
  Calls Tryz.prog 148 #[.agg #[.int .i64 3, .int .i64 op, .int .u16 v, .string nm, .slice q1 (n1 + 1) d1, .slice q2 n2 d2, .bool has, .int .i64 p1, .int .i64 p2]] W fun e w' => e = .returned (.bool false) /\ Below W.heap.size W w' := by
 obtain ⟨W1, hW1⟩ : ∃ W1, W.alloc (.cells #[.int .i64 3, .int .i64 op, .int .u16 v, .string nm, .slice q1 (n1 + 1) d1, .slice q2 n2 d2, .bool has, .int .i64 p1, .int .i64 p2] 90) = W1 := ⟨_, rfl⟩
 have v1 : W1.heap[W.heap.size]? = some (.cells [.int .i64 3, .int .i64 op, .int .u16 v, .string nm, .slice q1 (n1 + 1) d1, .slice q2 n2 d2, .bool has, .int .i64 p1, .int .i64 p2].toArray 90 (0, 0)) := by rw [<- hW1]; exact heap_alloc_new W _
 have HB := hid (show Below W.heap.size W W1 by rw [<- hW1]; exact (Below.refl _ _).alloc (Nat.le_refl _) _)
 have x0 := S.cell_of W1 _ 0 _ 90 _ v1 rfl
 have x1 := S.cell_of W1 _ 1 _ 90 _ v1 rfl
 have x2 := S.cell_of W1 _ 2 _ 90 _ v1 rfl
 have x3 := S.cell_of W1 _ 3 _ 90 _ v1 rfl
 have x4 := S.cell_of W1 _ 4 _ 90 _ v1 rfl
 have x5 := S.cell_of W1 _ 5 _ 90 _ v1 rfl
 have x6 := S.cell_of W1 _ 6 _ 90 _ v1 rfl
 have f1 : ∀ i, W1.frozen? ⟨W.heap.size, i, none⟩ = false := fun i => S.frozen_of W1 W.heap.size i _ 90 v1
 have HV := hid v1
 clear v1
 go_enter Tryz.func148, Tryz.ntmps148
 go_wp2
 go_ret
 refine ⟨rfl, ?_⟩
 first | exact HB.out | exact HB.out.setCell (Nat.le_refl _) _ | exact (HB.out.setCell (p := ⟨W.heap.size, _, none⟩) (Nat.le_refl _) _).setCell (p := ⟨W.heap.size, _, none⟩) (Nat.le_refl _) _ | exact ((HB.out.setCell (p := ⟨W.heap.size, _, none⟩) (Nat.le_refl _) _).setCell (p := ⟨W.heap.size, _, none⟩) (Nat.le_refl _) _).setCell (p := ⟨W.heap.size, _, none⟩) (Nat.le_refl _) _
theorem us_3_3 (op v p1 p2 : Int) (nm : ByteArray) (n1 n2 d1 d2 : Nat) (q1 q2 : Option Addr) (has : Bool) (W : World) (h_op : (op == 0) = true) (h_v : (v == 0) = true) (h_el : (((n2 + 1 : Nat) : Int) == 0) = false) :
  Calls Tryz.prog 148 #[.agg #[.int .i64 3, .int .i64 op, .int .u16 v, .string nm, .slice q1 0 d1, .slice q2 (n2 + 1) d2, .bool has, .int .i64 p1, .int .i64 p2]] W fun e w' => e = .returned (.bool false) /\ Below W.heap.size W w' := by
 obtain ⟨W1, hW1⟩ : ∃ W1, W.alloc (.cells #[.int .i64 3, .int .i64 op, .int .u16 v, .string nm, .slice q1 0 d1, .slice q2 (n2 + 1) d2, .bool has, .int .i64 p1, .int .i64 p2] 90) = W1 := ⟨_, rfl⟩
 have v1 : W1.heap[W.heap.size]? = some (.cells [.int .i64 3, .int .i64 op, .int .u16 v, .string nm, .slice q1 0 d1, .slice q2 (n2 + 1) d2, .bool has, .int .i64 p1, .int .i64 p2].toArray 90 (0, 0)) := by rw [<- hW1]; exact heap_alloc_new W _
 have HB := hid (show Below W.heap.size W W1 by rw [<- hW1]; exact (Below.refl _ _).alloc (Nat.le_refl _) _)
 have x0 := S.cell_of W1 _ 0 _ 90 _ v1 rfl
 have x1 := S.cell_of W1 _ 1 _ 90 _ v1 rfl
 have x2 := S.cell_of W1 _ 2 _ 90 _ v1 rfl
 have x3 := S.cell_of W1 _ 3 _ 90 _ v1 rfl
 have x4 := S.cell_of W1 _ 4 _ 90 _ v1 rfl
 have x5 := S.cell_of W1 _ 5 _ 90 _ v1 rfl
 have x6 := S.cell_of W1 _ 6 _ 90 _ v1 rfl
 have f1 : ∀ i, W1.frozen? ⟨W.heap.size, i, none⟩ = false := fun i => S.frozen_of W1 W.heap.size i _ 90 v1
 have HV := hid v1
 clear v1
 go_enter Tryz.func148, Tryz.ntmps148
 go_wp2
 go_ret
 refine ⟨rfl, ?_⟩
 first | exact HB.out | exact HB.out.setCell (Nat.le_refl _) _ | exact (HB.out.setCell (p := ⟨W.heap.size, _, none⟩) (Nat.le_refl _) _).setCell (p := ⟨W.heap.size, _, none⟩) (Nat.le_refl _) _ | exact ((HB.out.setCell (p := ⟨W.heap.size, _, none⟩) (Nat.le_refl _) _).setCell (p := ⟨W.heap.size, _, none⟩) (Nat.le_refl _) _).setCell (p := ⟨W.heap.size, _, none⟩) (Nat.le_refl _) _
theorem us_3_4 (op v p1 p2 : Int) (nm : ByteArray) (n1 n2 d1 d2 : Nat) (q1 q2 : Option Addr) (has : Bool) (W : World) (h_op : (op == 0) = true) (h_v : (v == 0) = true) :
  Calls Tryz.prog 148 #[.agg #[.int .i64 3, .int .i64 op, .int .u16 v, .string nm, .slice q1 0 d1, .slice q2 0 d2, .bool true, .int .i64 p1, .int .i64 p2]] W fun e w' => e = .returned (.bool false) /\ Below W.heap.size W w' := by
 obtain ⟨W1, hW1⟩ : ∃ W1, W.alloc (.cells #[.int .i64 3, .int .i64 op, .int .u16 v, .string nm, .slice q1 0 d1, .slice q2 0 d2, .bool true, .int .i64 p1, .int .i64 p2] 90) = W1 := ⟨_, rfl⟩
 have v1 : W1.heap[W.heap.size]? = some (.cells [.int .i64 3, .int .i64 op, .int .u16 v, .string nm, .slice q1 0 d1, .slice q2 0 d2, .bool true, .int .i64 p1, .int .i64 p2].toArray 90 (0, 0)) := by rw [<- hW1]; exact heap_alloc_new W _
 have HB := hid (show Below W.heap.size W W1 by rw [<- hW1]; exact (Below.refl _ _).alloc (Nat.le_refl _) _)
 have x0 := S.cell_of W1 _ 0 _ 90 _ v1 rfl
 have x1 := S.cell_of W1 _ 1 _ 90 _ v1 rfl
 have x2 := S.cell_of W1 _ 2 _ 90 _ v1 rfl
 have x3 := S.cell_of W1 _ 3 _ 90 _ v1 rfl
 have x4 := S.cell_of W1 _ 4 _ 90 _ v1 rfl
 have x5 := S.cell_of W1 _ 5 _ 90 _ v1 rfl
 have x6 := S.cell_of W1 _ 6 _ 90 _ v1 rfl
 have f1 : ∀ i, W1.frozen? ⟨W.heap.size, i, none⟩ = false := fun i => S.frozen_of W1 W.heap.size i _ 90 v1
 have HV := hid v1
 clear v1
 go_enter Tryz.func148, Tryz.ntmps148
 go_wp2
 go_ret
 refine ⟨rfl, ?_⟩
 first | exact HB.out | exact HB.out.setCell (Nat.le_refl _) _ | exact (HB.out.setCell (p := ⟨W.heap.size, _, none⟩) (Nat.le_refl _) _).setCell (p := ⟨W.heap.size, _, none⟩) (Nat.le_refl _) _ | exact ((HB.out.setCell (p := ⟨W.heap.size, _, none⟩) (Nat.le_refl _) _).setCell (p := ⟨W.heap.size, _, none⟩) (Nat.le_refl _) _).setCell (p := ⟨W.heap.size, _, none⟩) (Nat.le_refl _) _
theorem us_3_5 (op v p1 p2 : Int) (nm : ByteArray) (n1 n2 d1 d2 : Nat) (q1 q2 : Option Addr) (has : Bool) (W : World) (h_op : (op == 0) = true) (h_v : (v == 0) = true) :
  Calls Tryz.prog 148 #[.agg #[.int .i64 3, .int .i64 op, .int .u16 v, .string nm, .slice q1 0 d1, .slice q2 0 d2, .bool false, .int .i64 p1, .int .i64 p2]] W fun e w' => e = .returned (.bool true) /\ Below W.heap.size W w' := by
 obtain ⟨W1, hW1⟩ : ∃ W1, W.alloc (.cells #[.int .i64 3, .int .i64 op, .int .u16 v, .string nm, .slice q1 0 d1, .slice q2 0 d2, .bool false, .int .i64 p1, .int .i64 p2] 90) = W1 := ⟨_, rfl⟩
 have v1 : W1.heap[W.heap.size]? = some (.cells [.int .i64 3, .int .i64 op, .int .u16 v, .string nm, .slice q1 0 d1, .slice q2 0 d2, .bool false, .int .i64 p1, .int .i64 p2].toArray 90 (0, 0)) := by rw [<- hW1]; exact heap_alloc_new W _
 have HB := hid (show Below W.heap.size W W1 by rw [<- hW1]; exact (Below.refl _ _).alloc (Nat.le_refl _) _)
 have x0 := S.cell_of W1 _ 0 _ 90 _ v1 rfl
 have x1 := S.cell_of W1 _ 1 _ 90 _ v1 rfl
 have x2 := S.cell_of W1 _ 2 _ 90 _ v1 rfl
 have x3 := S.cell_of W1 _ 3 _ 90 _ v1 rfl
 have x4 := S.cell_of W1 _ 4 _ 90 _ v1 rfl
 have x5 := S.cell_of W1 _ 5 _ 90 _ v1 rfl
 have x6 := S.cell_of W1 _ 6 _ 90 _ v1 rfl
 have f1 : ∀ i, W1.frozen? ⟨W.heap.size, i, none⟩ = false := fun i => S.frozen_of W1 W.heap.size i _ 90 v1
 have HV := hid v1
 clear v1
 go_enter Tryz.func148, Tryz.ntmps148
 go_wp2
 go_ret
 refine ⟨rfl, ?_⟩
 first | exact HB.out | exact HB.out.setCell (Nat.le_refl _) _ | exact (HB.out.setCell (p := ⟨W.heap.size, _, none⟩) (Nat.le_refl _) _).setCell (p := ⟨W.heap.size, _, none⟩) (Nat.le_refl _) _ | exact ((HB.out.setCell (p := ⟨W.heap.size, _, none⟩) (Nat.le_refl _) _).setCell (p := ⟨W.heap.size, _, none⟩) (Nat.le_refl _) _).setCell (p := ⟨W.heap.size, _, none⟩) (Nat.le_refl _) _
theorem us_4f_0 (op v p1 p2 : Int) (nm : ByteArray) (n1 n2 d1 d2 : Nat) (q1 q2 : Option Addr) (has : Bool) (W : World) (h_op : (op == 0) = false) :
  Calls Tryz.prog 148 #[.agg #[.int .i64 4, .int .i64 op, .int .u16 v, .string nm, .slice q1 n1 d1, .slice q2 n2 d2, .bool false, .int .i64 p1, .int .i64 p2]] W fun e w' => e = .returned (.bool false) /\ Below W.heap.size W w' := by
 obtain ⟨W1, hW1⟩ : ∃ W1, W.alloc (.cells #[.int .i64 4, .int .i64 op, .int .u16 v, .string nm, .slice q1 n1 d1, .slice q2 n2 d2, .bool false, .int .i64 p1, .int .i64 p2] 90) = W1 := ⟨_, rfl⟩
 have v1 : W1.heap[W.heap.size]? = some (.cells [.int .i64 4, .int .i64 op, .int .u16 v, .string nm, .slice q1 n1 d1, .slice q2 n2 d2, .bool false, .int .i64 p1, .int .i64 p2].toArray 90 (0, 0)) := by rw [<- hW1]; exact heap_alloc_new W _
 have HB := hid (show Below W.heap.size W W1 by rw [<- hW1]; exact (Below.refl _ _).alloc (Nat.le_refl _) _)
 have x0 := S.cell_of W1 _ 0 _ 90 _ v1 rfl
 have x1 := S.cell_of W1 _ 1 _ 90 _ v1 rfl
 have x2 := S.cell_of W1 _ 2 _ 90 _ v1 rfl
 have x3 := S.cell_of W1 _ 3 _ 90 _ v1 rfl
 have x4 := S.cell_of W1 _ 4 _ 90 _ v1 rfl
 have x5 := S.cell_of W1 _ 5 _ 90 _ v1 rfl
 have x6 := S.cell_of W1 _ 6 _ 90 _ v1 rfl
 have f1 : ∀ i, W1.frozen? ⟨W.heap.size, i, none⟩ = false := fun i => S.frozen_of W1 W.heap.size i _ 90 v1
 have HV := hid v1
 clear v1
 go_enter Tryz.func148, Tryz.ntmps148
 go_wp2
 go_ret
 refine ⟨rfl, ?_⟩
 first | exact HB.out | exact HB.out.setCell (Nat.le_refl _) _ | exact (HB.out.setCell (p := ⟨W.heap.size, _, none⟩) (Nat.le_refl _) _).setCell (p := ⟨W.heap.size, _, none⟩) (Nat.le_refl _) _ | exact ((HB.out.setCell (p := ⟨W.heap.size, _, none⟩) (Nat.le_refl _) _).setCell (p := ⟨W.heap.size, _, none⟩) (Nat.le_refl _) _).setCell (p := ⟨W.heap.size, _, none⟩) (Nat.le_refl _) _
theorem us_4f_1 (op v p1 p2 : Int) (nm : ByteArray) (n1 n2 d1 d2 : Nat) (q1 q2 : Option Addr) (has : Bool) (W : World) (h_op : (op == 0) = true) (h_v : (v == 0) = false) :
  Calls Tryz.prog 148 #[.agg #[.int .i64 4, .int .i64 op, .int .u16 v, .string nm, .slice q1 n1 d1, .slice q2 n2 d2, .bool false, .int .i64 p1, .int .i64 p2]] W fun e w' => e = .returned (.bool false) /\ Below W.heap.size W w' := by
 obtain ⟨W1, hW1⟩ : ∃ W1, W.alloc (.cells #[.int .i64 4, .int .i64 op, .int .u16 v, .string nm, .slice q1 n1 d1, .slice q2 n2 d2, .bool false, .int .i64 p1, .int .i64 p2] 90) = W1 := ⟨_, rfl⟩
 have v1 : W1.heap[W.heap.size]? = some (.cells [.int .i64 4, .int .i64 op, .int .u16 v, .string nm, .slice q1 n1 d1, .slice q2 n2 d2, .bool false, .int .i64 p1, .int .i64 p2].toArray 90 (0, 0)) := by rw [<- hW1]; exact heap_alloc_new W _
 have HB := hid (show Below W.heap.size W W1 by rw [<- hW1]; exact (Below.refl _ _).alloc (Nat.le_refl _) _)
 have x0 := S.cell_of W1 _ 0 _ 90 _ v1 rfl
 have x1 := S.cell_of W1 _ 1 _ 90 _ v1 rfl
 have x2 := S.cell_of W1 _ 2 _ 90 _ v1 rfl
 have x3 := S.cell_of W1 _ 3 _ 90 _ v1 rfl
 have x4 := S.cell_of W1 _ 4 _ 90 _ v1 rfl
 have x5 := S.cell_of W1 _ 5 _ 90 _ v1 rfl
 have x6 := S.cell_of W1 _ 6 _ 90 _ v1 rfl
 have f1 : ∀ i, W1.frozen? ⟨W.heap.size, i, none⟩ = false := fun i => S.frozen_of W1 W.heap.size i _ 90 v1
 have HV := hid v1
 clear v1
 go_enter Tryz.func148, Tryz.ntmps148
 go_wp2
 go_ret
 refine ⟨rfl, ?_⟩
 first | exact HB.out | exact HB.out.setCell (Nat.le_refl _) _ | exact (HB.out.setCell (p := ⟨W.heap.size, _, none⟩) (Nat.le_refl _) _).setCell (p := ⟨W.heap.size, _, none⟩) (Nat.le_refl _) _ | exact ((HB.out.setCell (p := ⟨W.heap.size, _, none⟩) (Nat.le_refl _) _).setCell (p := ⟨W.heap.size, _, none⟩) (Nat.le_refl _) _).setCell (p := ⟨W.heap.size, _, none⟩) (Nat.le_refl _) _
theorem us_4f_2 (op v p1 p2 : Int) (nm : ByteArray) (n1 n2 d1 d2 : Nat) (q1 q2 : Option Addr) (has : Bool) (W : World) (h_op : (op == 0) = true) (h_v : (v == 0) = true) (h_nm : nm.toList.isEmpty = false) :
  Calls Tryz.prog 148 #[.agg #[.int .i64 4, .int .i64 op, .int .u16 v, .string nm, .slice q1 n1 d1, .slice q2 n2 d2, .bool false, .int .i64 p1, .int .i64 p2]] W fun e w' => e = .returned (.bool false) /\ Below W.heap.size W w' := by
 obtain ⟨W1, hW1⟩ : ∃ W1, W.alloc (.cells #[.int .i64 4, .int .i64 op, .int .u16 v, .string nm, .slice q1 n1 d1, .slice q2 n2 d2, .bool false, .int .i64 p1, .int .i64 p2] 90) = W1 := ⟨_, rfl⟩
 have v1 : W1.heap[W.heap.size]? = some (.cells [.int .i64 4, .int .i64 op, .int .u16 v, .string nm, .slice q1 n1 d1, .slice q2 n2 d2, .bool false, .int .i64 p1, .int .i64 p2].toArray 90 (0, 0)) := by rw [<- hW1]; exact heap_alloc_new W _
 have HB := hid (show Below W.heap.size W W1 by rw [<- hW1]; exact (Below.refl _ _).alloc (Nat.le_refl _) _)
 have x0 := S.cell_of W1 _ 0 _ 90 _ v1 rfl
 have x1 := S.cell_of W1 _ 1 _ 90 _ v1 rfl
 have x2 := S.cell_of W1 _ 2 _ 90 _ v1 rfl
 have x3 := S.cell_of W1 _ 3 _ 90 _ v1 rfl
 have x4 := S.cell_of W1 _ 4 _ 90 _ v1 rfl
 have x5 := S.cell_of W1 _ 5 _ 90 _ v1 rfl
 have x6 := S.cell_of W1 _ 6 _ 90 _ v1 rfl
 have f1 : ∀ i, W1.frozen? ⟨W.heap.size, i, none⟩ = false := fun i => S.frozen_of W1 W.heap.size i _ 90 v1
 have HV := hid v1
 clear v1
 go_enter Tryz.func148, Tryz.ntmps148
 go_wp2
 go_ret
 refine ⟨rfl, ?_⟩
 first | exact HB.out | exact HB.out.setCell (Nat.le_refl _) _ | exact (HB.out.setCell (p := ⟨W.heap.size, _, none⟩) (Nat.le_refl _) _).setCell (p := ⟨W.heap.size, _, none⟩) (Nat.le_refl _) _ | exact ((HB.out.setCell (p := ⟨W.heap.size, _, none⟩) (Nat.le_refl _) _).setCell (p := ⟨W.heap.size, _, none⟩) (Nat.le_refl _) _).setCell (p := ⟨W.heap.size, _, none⟩) (Nat.le_refl _) _
theorem us_4f_3 (op v p1 p2 : Int) (nm : ByteArray) (n1 n2 d1 d2 : Nat) (q1 q2 : Option Addr) (has : Bool) (W : World) (h_op : (op == 0) = true) (h_v : (v == 0) = true) (h_nm : nm.toList.isEmpty = true) (h_el : (((n2 + 1 : Nat) : Int) == 0) = false) :
  Calls Tryz.prog 148 #[.agg #[.int .i64 4, .int .i64 op, .int .u16 v, .string nm, .slice q1 n1 d1, .slice q2 (n2 + 1) d2, .bool false, .int .i64 p1, .int .i64 p2]] W fun e w' => e = .returned (.bool false) /\ Below W.heap.size W w' := by
 obtain ⟨W1, hW1⟩ : ∃ W1, W.alloc (.cells #[.int .i64 4, .int .i64 op, .int .u16 v, .string nm, .slice q1 n1 d1, .slice q2 (n2 + 1) d2, .bool false, .int .i64 p1, .int .i64 p2] 90) = W1 := ⟨_, rfl⟩
 have v1 : W1.heap[W.heap.size]? = some (.cells [.int .i64 4, .int .i64 op, .int .u16 v, .string nm, .slice q1 n1 d1, .slice q2 (n2 + 1) d2, .bool false, .int .i64 p1, .int .i64 p2].toArray 90 (0, 0)) := by rw [<- hW1]; exact heap_alloc_new W _
 have HB := hid (show Below W.heap.size W W1 by rw [<- hW1]; exact (Below.refl _ _).alloc (Nat.le_refl _) _)
 have x0 := S.cell_of W1 _ 0 _ 90 _ v1 rfl
 have x1 := S.cell_of W1 _ 1 _ 90 _ v1 rfl
 have x2 := S.cell_of W1 _ 2 _ 90 _ v1 rfl
 have x3 := S.cell_of W1 _ 3 _ 90 _ v1 rfl
 have x4 := S.cell_of W1 _ 4 _ 90 _ v1 rfl
 have x5 := S.cell_of W1 _ 5 _ 90 _ v1 rfl
 have x6 := S.cell_of W1 _ 6 _ 90 _ v1 rfl
 have f1 : ∀ i, W1.frozen? ⟨W.heap.size, i, none⟩ = false := fun i => S.frozen_of W1 W.heap.size i _ 90 v1
 have HV := hid v1
 clear v1
 go_enter Tryz.func148, Tryz.ntmps148
 go_wp2
 go_ret
 refine ⟨rfl, ?_⟩
 first | exact HB.out | exact HB.out.setCell (Nat.le_refl _) _ | exact (HB.out.setCell (p := ⟨W.heap.size, _, none⟩) (Nat.le_refl _) _).setCell (p := ⟨W.heap.size, _, none⟩) (Nat.le_refl _) _ | exact ((HB.out.setCell (p := ⟨W.heap.size, _, none⟩) (Nat.le_refl _) _).setCell (p := ⟨W.heap.size, _, none⟩) (Nat.le_refl _) _).setCell (p := ⟨W.heap.size, _, none⟩) (Nat.le_refl _) _
theorem us_4f_4 (op v p1 p2 : Int) (nm : ByteArray) (n1 n2 d1 d2 : Nat) (q1 q2 : Option Addr) (has : Bool) (W : World) (h_op : (op == 0) = true) (h_v : (v == 0) = true) (h_nm : nm.toList.isEmpty = true) :
  Calls Tryz.prog 148 #[.agg #[.int .i64 4, .int .i64 op, .int .u16 v, .string nm, .slice q1 n1 d1, .slice q2 0 d2, .bool false, .int .i64 p1, .int .i64 p2]] W fun e w' => e = .returned (.bool true) /\ Below W.heap.size W w' := by
 obtain ⟨W1, hW1⟩ : ∃ W1, W.alloc (.cells #[.int .i64 4, .int .i64 op, .int .u16 v, .string nm, .slice q1 n1 d1, .slice q2 0 d2, .bool false, .int .i64 p1, .int .i64 p2] 90) = W1 := ⟨_, rfl⟩
 have v1 : W1.heap[W.heap.size]? = some (.cells [.int .i64 4, .int .i64 op, .int .u16 v, .string nm, .slice q1 n1 d1, .slice q2 0 d2, .bool false, .int .i64 p1, .int .i64 p2].toArray 90 (0, 0)) := by rw [<- hW1]; exact heap_alloc_new W _
 have HB := hid (show Below W.heap.size W W1 by rw [<- hW1]; exact (Below.refl _ _).alloc (Nat.le_refl _) _)
 have x0 := S.cell_of W1 _ 0 _ 90 _ v1 rfl
 have x1 := S.cell_of W1 _ 1 _ 90 _ v1 rfl
 have x2 := S.cell_of W1 _ 2 _ 90 _ v1 rfl
 have x3 := S.cell_of W1 _ 3 _ 90 _ v1 rfl
 have x4 := S.cell_of W1 _ 4 _ 90 _ v1 rfl
 have x5 := S.cell_of W1 _ 5 _ 90 _ v1 rfl
 have x6 := S.cell_of W1 _ 6 _ 90 _ v1 rfl
 have f1 : ∀ i, W1.frozen? ⟨W.heap.size, i, none⟩ = false := fun i => S.frozen_of W1 W.heap.size i _ 90 v1
 have HV := hid v1
 clear v1
 go_enter Tryz.func148, Tryz.ntmps148
 go_wp2
 go_ret
 refine ⟨rfl, ?_⟩
 first | exact HB.out | exact HB.out.setCell (Nat.le_refl _) _ | exact (HB.out.setCell (p := ⟨W.heap.size, _, none⟩) (Nat.le_refl _) _).setCell (p := ⟨W.heap.size, _, none⟩) (Nat.le_refl _) _ | exact ((HB.out.setCell (p := ⟨W.heap.size, _, none⟩) (Nat.le_refl _) _).setCell (p := ⟨W.heap.size, _, none⟩) (Nat.le_refl _) _).setCell (p := ⟨W.heap.size, _, none⟩) (Nat.le_refl _) _
theorem us_4t_0 (op v p1 p2 : Int) (nm : ByteArray) (n1 n2 d1 d2 : Nat) (q1 q2 : Option Addr) (has : Bool) (W : World) (h_op : (op == 0) = false) :
  Calls Tryz.prog 148 #[.agg #[.int .i64 4, .int .i64 op, .int .u16 v, .string nm, .slice q1 n1 d1, .slice q2 n2 d2, .bool true, .int .i64 p1, .int .i64 p2]] W fun e w' => e = .returned (.bool false) /\ Below W.heap.size W w' := by
 obtain ⟨W1, hW1⟩ : ∃ W1, W.alloc (.cells #[.int .i64 4, .int .i64 op, .int .u16 v, .string nm, .slice q1 n1 d1, .slice q2 n2 d2, .bool true, .int .i64 p1, .int .i64 p2] 90) = W1 := ⟨_, rfl⟩
 have v1 : W1.heap[W.heap.size]? = some (.cells [.int .i64 4, .int .i64 op, .int .u16 v, .string nm, .slice q1 n1 d1, .slice q2 n2 d2, .bool true, .int .i64 p1, .int .i64 p2].toArray 90 (0, 0)) := by rw [<- hW1]; exact heap_alloc_new W _
 have HB := hid (show Below W.heap.size W W1 by rw [<- hW1]; exact (Below.refl _ _).alloc (Nat.le_refl _) _)
 have x0 := S.cell_of W1 _ 0 _ 90 _ v1 rfl
 have x1 := S.cell_of W1 _ 1 _ 90 _ v1 rfl
 have x2 := S.cell_of W1 _ 2 _ 90 _ v1 rfl
 have x3 := S.cell_of W1 _ 3 _ 90 _ v1 rfl
 have x4 := S.cell_of W1 _ 4 _ 90 _ v1 rfl
 have x5 := S.cell_of W1 _ 5 _ 90 _ v1 rfl
 have x6 := S.cell_of W1 _ 6 _ 90 _ v1 rfl
 have f1 : ∀ i, W1.frozen? ⟨W.heap.size, i, none⟩ = false := fun i => S.frozen_of W1 W.heap.size i _ 90 v1
 have HV := hid v1
 clear v1
 go_enter Tryz.func148, Tryz.ntmps148
 go_wp2
 go_ret
 refine ⟨rfl, ?_⟩
 first | exact HB.out | exact HB.out.setCell (Nat.le_refl _) _ | exact (HB.out.setCell (p := ⟨W.heap.size, _, none⟩) (Nat.le_refl _) _).setCell (p := ⟨W.heap.size, _, none⟩) (Nat.le_refl _) _ | exact ((HB.out.setCell (p := ⟨W.heap.size, _, none⟩) (Nat.le_refl _) _).setCell (p := ⟨W.heap.size, _, none⟩) (Nat.le_refl _) _).setCell (p := ⟨W.heap.size, _, none⟩) (Nat.le_refl _) _
theorem us_4t_1 (op v p1 p2 : Int) (nm : ByteArray) (n1 n2 d1 d2 : Nat) (q1 q2 : Option Addr) (has : Bool) (W : World) (h_op : (op == 0) = true) (h_v : (v == 0) = false) :
  Calls Tryz.prog 148 #[.agg #[.int .i64 4, .int .i64 op, .int .u16 v, .string nm, .slice q1 n1 d1, .slice q2 n2 d2, .bool true, .int .i64 p1, .int .i64 p2]] W fun e w' => e = .returned (.bool false) /\ Below W.heap.size W w' := by
 obtain ⟨W1, hW1⟩ : ∃ W1, W.alloc (.cells #[.int .i64 4, .int .i64 op, .int .u16 v, .string nm, .slice q1 n1 d1, .slice q2 n2 d2, .bool true, .int .i64 p1, .int .i64 p2] 90) = W1 := ⟨_, rfl⟩
 have v1 : W1.heap[W.heap.size]? = some (.cells [.int .i64 4, .int .i64 op, .int .u16 v, .string nm, .slice q1 n1 d1, .slice q2 n2 d2, .bool true, .int .i64 p1, .int .i64 p2].toArray 90 (0, 0)) := by rw [<- hW1]; exact heap_alloc_new W _
 have HB := hid (show Below W.heap.size W W1 by rw [<- hW1]; exact (Below.refl _ _).alloc (Nat.le_refl _) _)
 have x0 := S.cell_of W1 _ 0 _ 90 _ v1 rfl
 have x1 := S.cell_of W1 _ 1 _ 90 _ v1 rfl
 have x2 := S.cell_of W1 _ 2 _ 90 _ v1 rfl
 have x3 := S.cell_of W1 _ 3 _ 90 _ v1 rfl
 have x4 := S.cell_of W1 _ 4 _ 90 _ v1 rfl
 have x5 := S.cell_of W1 _ 5 _ 90 _ v1 rfl
 have x6 := S.cell_of W1 _ 6 _ 90 _ v1 rfl
 have f1 : ∀ i, W1.frozen? ⟨W.heap.size, i, none⟩ = false := fun i => S.frozen_of W1 W.heap.size i _ 90 v1
 have HV := hid v1
 clear v1
 go_enter Tryz.func148, Tryz.ntmps148
 go_wp2
 go_ret
 refine ⟨rfl, ?_⟩
 first | exact HB.out | exact HB.out.setCell (Nat.le_refl _) _ | exact (HB.out.setCell (p := ⟨W.heap.size, _, none⟩) (Nat.le_refl _) _).setCell (p := ⟨W.heap.size, _, none⟩) (Nat.le_refl _) _ | exact ((HB.out.setCell (p := ⟨W.heap.size, _, none⟩) (Nat.le_refl _) _).setCell (p := ⟨W.heap.size, _, none⟩) (Nat.le_refl _) _).setCell (p := ⟨W.heap.size, _, none⟩) (Nat.le_refl _) _
theorem us_4t_2 (op v p1 p2 : Int) (nm : ByteArray) (n1 n2 d1 d2 : Nat) (q1 q2 : Option Addr) (has : Bool) (W : World) (h_op : (op == 0) = true) (h_v : (v == 0) = true) (h_nm : nm.toList.isEmpty = false) :
  Calls Tryz.prog 148 #[.agg #[.int .i64 4, .int .i64 op, .int .u16 v, .string nm, .slice q1 n1 d1, .slice q2 n2 d2, .bool true, .int .i64 p1, .int .i64 p2]] W fun e w' => e = .returned (.bool false) /\ Below W.heap.size W w' := by
 obtain ⟨W1, hW1⟩ : ∃ W1, W.alloc (.cells #[.int .i64 4, .int .i64 op, .int .u16 v, .string nm, .slice q1 n1 d1, .slice q2 n2 d2, .bool true, .int .i64 p1, .int .i64 p2] 90) = W1 := ⟨_, rfl⟩
 have v1 : W1.heap[W.heap.size]? = some (.cells [.int .i64 4, .int .i64 op, .int .u16 v, .string nm, .slice q1 n1 d1, .slice q2 n2 d2, .bool true, .int .i64 p1, .int .i64 p2].toArray 90 (0, 0)) := by rw [<- hW1]; exact heap_alloc_new W _
 have HB := hid (show Below W.heap.size W W1 by rw [<- hW1]; exact (Below.refl _ _).alloc (Nat.le_refl _) _)
 have x0 := S.cell_of W1 _ 0 _ 90 _ v1 rfl
 have x1 := S.cell_of W1 _ 1 _ 90 _ v1 rfl
 have x2 := S.cell_of W1 _ 2 _ 90 _ v1 rfl
 have x3 := S.cell_of W1 _ 3 _ 90 _ v1 rfl
 have x4 := S.cell_of W1 _ 4 _ 90 _ v1 rfl
 have x5 := S.cell_of W1 _ 5 _ 90 _ v1 rfl
 have x6 := S.cell_of W1 _ 6 _ 90 _ v1 rfl
 have f1 : ∀ i, W1.frozen? ⟨W.heap.size, i, none⟩ = false := fun i => S.frozen_of W1 W.heap.size i _ 90 v1
 have HV := hid v1
 clear v1
 go_enter Tryz.func148, Tryz.ntmps148
 go_wp2
 go_ret
 refine ⟨rfl, ?_⟩
 first | exact HB.out | exact HB.out.setCell (Nat.le_refl _) _ | exact (HB.out.setCell (p := ⟨W.heap.size, _, none⟩) (Nat.le_refl _) _).setCell (p := ⟨W.heap.size, _, none⟩) (Nat.le_refl _) _ | exact ((HB.out.setCell (p := ⟨W.heap.size, _, none⟩) (Nat.le_refl _) _).setCell (p := ⟨W.heap.size, _, none⟩) (Nat.le_refl _) _).setCell (p := ⟨W.heap.size, _, none⟩) (Nat.le_refl _) _
theorem us_4t_3 (op v p1 p2 : Int) (nm : ByteArray) (n1 n2 d1 d2 : Nat) (q1 q2 : Option Addr) (has : Bool) (W : World) (h_op : (op == 0) = true) (h_v : (v == 0) = true) (h_nm : nm.toList.isEmpty = true) :
  Calls Tryz.prog 148 #[.agg #[.int .i64 4, .int .i64 op, .int .u16 v, .string nm, .slice q1 n1 d1, .slice q2 n2 d2, .bool true, .int .i64 p1, .int .i64 p2]] W fun e w' => e = .returned (.bool true) /\ Below W.heap.size W w' := by
 obtain ⟨W1, hW1⟩ : ∃ W1, W.alloc (.cells #[.int .i64 4, .int .i64 op, .int .u16 v, .string nm, .slice q1 n1 d1, .slice q2 n2 d2, .bool true, .int .i64 p1, .int .i64 p2] 90) = W1 := ⟨_, rfl⟩
 have v1 : W1.heap[W.heap.size]? = some (.cells [.int .i64 4, .int .i64 op, .int .u16 v, .string nm, .slice q1 n1 d1, .slice q2 n2 d2, .bool true, .int .i64 p1, .int .i64 p2].toArray 90 (0, 0)) := by rw [<- hW1]; exact heap_alloc_new W _
 have HB := hid (show Below W.heap.size W W1 by rw [<- hW1]; exact (Below.refl _ _).alloc (Nat.le_refl _) _)
 have x0 := S.cell_of W1 _ 0 _ 90 _ v1 rfl
 have x1 := S.cell_of W1 _ 1 _ 90 _ v1 rfl
 have x2 := S.cell_of W1 _ 2 _ 90 _ v1 rfl
 have x3 := S.cell_of W1 _ 3 _ 90 _ v1 rfl
 have x4 := S.cell_of W1 _ 4 _ 90 _ v1 rfl
 have x5 := S.cell_of W1 _ 5 _ 90 _ v1 rfl
 have x6 := S.cell_of W1 _ 6 _ 90 _ v1 rfl
 have f1 : ∀ i, W1.frozen? ⟨W.heap.size, i, none⟩ = false := fun i => S.frozen_of W1 W.heap.size i _ 90 v1
 have HV := hid v1
 clear v1
 go_enter Tryz.func148, Tryz.ntmps148
 go_wp2
 go_ret
 refine ⟨rfl, ?_⟩
 first | exact HB.out | exact HB.out.setCell (Nat.le_refl _) _ | exact (HB.out.setCell (p := ⟨W.heap.size, _, none⟩) (Nat.le_refl _) _).setCell (p := ⟨W.heap.size, _, none⟩) (Nat.le_refl _) _ | exact ((HB.out.setCell (p := ⟨W.heap.size, _, none⟩) (Nat.le_refl _) _).setCell (p := ⟨W.heap.size, _, none⟩) (Nat.le_refl _) _).setCell (p := ⟨W.heap.size, _, none⟩) (Nat.le_refl _) _
theorem us_5_0 (op v p1 p2 : Int) (nm : ByteArray) (n1 n2 d1 d2 : Nat) (q1 q2 : Option Addr) (has : Bool) (W : World) (h_op : (op == 0) = false) :
  Calls Tryz.prog 148 #[.agg #[.int .i64 5, .int .i64 op, .int .u16 v, .string nm, .slice q1 n1 d1, .slice q2 n2 d2, .bool has, .int .i64 p1, .int .i64 p2]] W fun e w' => e = .returned (.bool false) /\ Below W.heap.size W w' := by
 obtain ⟨W1, hW1⟩ : ∃ W1, W.alloc (.cells #[.int .i64 5, .int .i64 op, .int .u16 v, .string nm, .slice q1 n1 d1, .slice q2 n2 d2, .bool has, .int .i64 p1, .int .i64 p2] 90) = W1 := ⟨_, rfl⟩
 have v1 : W1.heap[W.heap.size]? = some (.cells [.int .i64 5, .int .i64 op, .int .u16 v, .string nm, .slice q1 n1 d1, .slice q2 n2 d2, .bool has, .int .i64 p1, .int .i64 p2].toArray 90 (0, 0)) := by rw [<- hW1]; exact heap_alloc_new W _
 have HB := hid (show Below W.heap.size W W1 by rw [<- hW1]; exact (Below.refl _ _).alloc (Nat.le_refl _) _)
 have x0 := S.cell_of W1 _ 0 _ 90 _ v1 rfl
 have x1 := S.cell_of W1 _ 1 _ 90 _ v1 rfl
 have x2 := S.cell_of W1 _ 2 _ 90 _ v1 rfl
 have x3 := S.cell_of W1 _ 3 _ 90 _ v1 rfl
 have x4 := S.cell_of W1 _ 4 _ 90 _ v1 rfl
 have x5 := S.cell_of W1 _ 5 _ 90 _ v1 rfl
 have x6 := S.cell_of W1 _ 6 _ 90 _ v1 rfl
 have f1 : ∀ i, W1.frozen? ⟨W.heap.size, i, none⟩ = false := fun i => S.frozen_of W1 W.heap.size i _ 90 v1
 have HV := hid v1
 clear v1
 go_enter Tryz.func148, Tryz.ntmps148
 go_wp2
 go_ret
 refine ⟨rfl, ?_⟩
 first | exact HB.out | exact HB.out.setCell (Nat.le_refl _) _ | exact (HB.out.setCell (p := ⟨W.heap.size, _, none⟩) (Nat.le_refl _) _).setCell (p := ⟨W.heap.size, _, none⟩) (Nat.le_refl _) _ | exact ((HB.out.setCell (p := ⟨W.heap.size, _, none⟩) (Nat.le_refl _) _).setCell (p := ⟨W.heap.size, _, none⟩) (Nat.le_refl _) _).setCell (p := ⟨W.heap.size, _, none⟩) (Nat.le_refl _) _
theorem us_5_1 (op v p1 p2 : Int) (nm : ByteArray) (n1 n2 d1 d2 : Nat) (q1 q2 : Option Addr) (has : Bool) (W : World) (h_op : (op == 0) = true) (h_v : (v == 0) = false) :
  Calls Tryz.prog 148 #[.agg #[.int .i64 5, .int .i64 op, .int .u16 v, .string nm, .slice q1 n1 d1, .slice q2 n2 d2, .bool has, .int .i64 p1, .int .i64 p2]] W fun e w' => e = .returned (.bool false) /\ Below W.heap.size W w' := by
 obtain ⟨W1, hW1⟩ : ∃ W1, W.alloc (.cells #[.int .i64 5, .int .i64 op, .int .u16 v, .string nm, .slice q1 n1 d1, .slice q2 n2 d2, .bool has, .int .i64 p1, .int .i64 p2] 90) = W1 := ⟨_, rfl⟩
 have v1 : W1.heap[W.heap.size]? = some (.cells [.int .i64 5, .int .i64 op, .int .u16 v, .string nm, .slice q1 n1 d1, .slice q2 n2 d2, .bool has, .int .i64 p1, .int .i64 p2].toArray 90 (0, 0)) := by rw [<- hW1]; exact heap_alloc_new W _
 have HB := hid (show Below W.heap.size W W1 by rw [<- hW1]; exact (Below.refl _ _).alloc (Nat.le_refl _) _)
 have x0 := S.cell_of W1 _ 0 _ 90 _ v1 rfl
 have x1 := S.cell_of W1 _ 1 _ 90 _ v1 rfl
 have x2 := S.cell_of W1 _ 2 _ 90 _ v1 rfl
 have x3 := S.cell_of W1 _ 3 _ 90 _ v1 rfl
 have x4 := S.cell_of W1 _ 4 _ 90 _ v1 rfl
 have x5 := S.cell_of W1 _ 5 _ 90 _ v1 rfl
 have x6 := S.cell_of W1 _ 6 _ 90 _ v1 rfl
 have f1 : ∀ i, W1.frozen? ⟨W.heap.size, i, none⟩ = false := fun i => S.frozen_of W1 W.heap.size i _ 90 v1
 have HV := hid v1
 clear v1
 go_enter Tryz.func148, Tryz.ntmps148
 go_wp2
 go_ret
 refine ⟨rfl, ?_⟩
 first | exact HB.out | exact HB.out.setCell (Nat.le_refl _) _ | exact (HB.out.setCell (p := ⟨W.heap.size, _, none⟩) (Nat.le_refl _) _).setCell (p := ⟨W.heap.size, _, none⟩) (Nat.le_refl _) _ | exact ((HB.out.setCell (p := ⟨W.heap.size, _, none⟩) (Nat.le_refl _) _).setCell (p := ⟨W.heap.size, _, none⟩) (Nat.le_refl _) _).setCell (p := ⟨W.heap.size, _, none⟩) (Nat.le_refl _) _
theorem us_5_2 (op v p1 p2 : Int) (nm : ByteArray) (n1 n2 d1 d2 : Nat) (q1 q2 : Option Addr) (has : Bool) (W : World) (h_op : (op == 0) = true) (h_v : (v == 0) = true) (h_nm : nm.toList.isEmpty = false) :
  Calls Tryz.prog 148 #[.agg #[.int .i64 5, .int .i64 op, .int .u16 v, .string nm, .slice q1 n1 d1, .slice q2 n2 d2, .bool has, .int .i64 p1, .int .i64 p2]] W fun e w' => e = .returned (.bool false) /\ Below W.heap.size W w' := by
 obtain ⟨W1, hW1⟩ : ∃ W1, W.alloc (.cells #[.int .i64 5, .int .i64 op, .int .u16 v, .string nm, .slice q1 n1 d1, .slice q2 n2 d2, .bool has, .int .i64 p1, .int .i64 p2] 90) = W1 := ⟨_, rfl⟩
 have v1 : W1.heap[W.heap.size]? = some (.cells [.int .i64 5, .int .i64 op, .int .u16 v, .string nm, .slice q1 n1 d1, .slice q2 n2 d2, .bool has, .int .i64 p1, .int .i64 p2].toArray 90 (0, 0)) := by rw [<- hW1]; exact heap_alloc_new W _
 have HB := hid (show Below W.heap.size W W1 by rw [<- hW1]; exact (Below.refl _ _).alloc (Nat.le_refl _) _)
 have x0 := S.cell_of W1 _ 0 _ 90 _ v1 rfl
 have x1 := S.cell_of W1 _ 1 _ 90 _ v1 rfl
 have x2 := S.cell_of W1 _ 2 _ 90 _ v1 rfl
 have x3 := S.cell_of W1 _ 3 _ 90 _ v1 rfl
 have x4 := S.cell_of W1 _ 4 _ 90 _ v1 rfl
 have x5 := S.cell_of W1 _ 5 _ 90 _ v1 rfl
 have x6 := S.cell_of W1 _ 6 _ 90 _ v1 rfl
 have f1 : ∀ i, W1.frozen? ⟨W.heap.size, i, none⟩ = false := fun i => S.frozen_of W1 W.heap.size i _ 90 v1
 have HV := hid v1
 clear v1
 go_enter Tryz.func148, Tryz.ntmps148
 go_wp2
 go_ret
 refine ⟨rfl, ?_⟩
 first | exact HB.out | exact HB.out.setCell (Nat.le_refl _) _ | exact (HB.out.setCell (p := ⟨W.heap.size, _, none⟩) (Nat.le_refl _) _).setCell (p := ⟨W.heap.size, _, none⟩) (Nat.le_refl _) _ | exact ((HB.out.setCell (p := ⟨W.heap.size, _, none⟩) (Nat.le_refl _) _).setCell (p := ⟨W.heap.size, _, none⟩) (Nat.le_refl _) _).setCell (p := ⟨W.heap.size, _, none⟩) (Nat.le_refl _) _
theorem us_5_3 (op v p1 p2 : Int) (nm : ByteArray) (n1 n2 d1 d2 : Nat) (q1 q2 : Option Addr) (has : Bool) (W : World) (h_op : (op == 0) = true) (h_v : (v == 0) = true) (h_nm : nm.toList.isEmpty = true) (h_el : (((n2 + 1 : Nat) : Int) == 0) = false) :
  Calls Tryz.prog 148 #[.agg #[.int .i64 5, .int .i64 op, .int .u16 v, .string nm, .slice q1 n1 d1, .slice q2 (n2 + 1) d2, .bool has, .int .i64 p1, .int .i64 p2]] W fun e w' => e = .returned (.bool false) /\ Below W.heap.size W w' := by
 obtain ⟨W1, hW1⟩ : ∃ W1, W.alloc (.cells #[.int .i64 5, .int .i64 op, .int .u16 v, .string nm, .slice q1 n1 d1, .slice q2 (n2 + 1) d2, .bool has, .int .i64 p1, .int .i64 p2] 90) = W1 := ⟨_, rfl⟩
 have v1 : W1.heap[W.heap.size]? = some (.cells [.int .i64 5, .int .i64 op, .int .u16 v, .string nm, .slice q1 n1 d1, .slice q2 (n2 + 1) d2, .bool has, .int .i64 p1, .int .i64 p2].toArray 90 (0, 0)) := by rw [<- hW1]; exact heap_alloc_new W _
 have HB := hid (show Below W.heap.size W W1 by rw [<- hW1]; exact (Below.refl _ _).alloc (Nat.le_refl _) _)
 have x0 := S.cell_of W1 _ 0 _ 90 _ v1 rfl
 have x1 := S.cell_of W1 _ 1 _ 90 _ v1 rfl
 have x2 := S.cell_of W1 _ 2 _ 90 _ v1 rfl
 have x3 := S.cell_of W1 _ 3 _ 90 _ v1 rfl
 have x4 := S.cell_of W1 _ 4 _ 90 _ v1 rfl
 have x5 := S.cell_of W1 _ 5 _ 90 _ v1 rfl
 have x6 := S.cell_of W1 _ 6 _ 90 _ v1 rfl
 have f1 : ∀ i, W1.frozen? ⟨W.heap.size, i, none⟩ = false := fun i => S.frozen_of W1 W.heap.size i _ 90 v1
 have HV := hid v1
 clear v1
 go_enter Tryz.func148, Tryz.ntmps148
 go_wp2
 go_ret
 refine ⟨rfl, ?_⟩
 first | exact HB.out | exact HB.out.setCell (Nat.le_refl _) _ | exact (HB.out.setCell (p := ⟨W.heap.size, _, none⟩) (Nat.le_refl _) _).setCell (p := ⟨W.heap.size, _, none⟩) (Nat.le_refl _) _ | exact ((HB.out.setCell (p := ⟨W.heap.size, _, none⟩) (Nat.le_refl _) _).setCell (p := ⟨W.heap.size, _, none⟩) (Nat.le_refl _) _).setCell (p := ⟨W.heap.size, _, none⟩) (Nat.le_refl _) _
theorem us_5_4 (op v p1 p2 : Int) (nm : ByteArray) (n1 n2 d1 d2 : Nat) (q1 q2 : Option Addr) (has : Bool) (W : World) (h_op : (op == 0) = true) (h_v : (v == 0) = true) (h_nm : nm.toList.isEmpty = true) :
  Calls Tryz.prog 148 #[.agg #[.int .i64 5, .int .i64 op, .int .u16 v, .string nm, .slice q1 n1 d1, .slice q2 0 d2, .bool true, .int .i64 p1, .int .i64 p2]] W fun e w' => e = .returned (.bool false) /\ Below W.heap.size W w' := by
 obtain ⟨W1, hW1⟩ : ∃ W1, W.alloc (.cells #[.int .i64 5, .int .i64 op, .int .u16 v, .string nm, .slice q1 n1 d1, .slice q2 0 d2, .bool true, .int .i64 p1, .int .i64 p2] 90) = W1 := ⟨_, rfl⟩
 have v1 : W1.heap[W.heap.size]? = some (.cells [.int .i64 5, .int .i64 op, .int .u16 v, .string nm, .slice q1 n1 d1, .slice q2 0 d2, .bool true, .int .i64 p1, .int .i64 p2].toArray 90 (0, 0)) := by rw [<- hW1]; exact heap_alloc_new W _
 have HB := hid (show Below W.heap.size W W1 by rw [<- hW1]; exact (Below.refl _ _).alloc (Nat.le_refl _) _)
 have x0 := S.cell_of W1 _ 0 _ 90 _ v1 rfl
 have x1 := S.cell_of W1 _ 1 _ 90 _ v1 rfl
 have x2 := S.cell_of W1 _ 2 _ 90 _ v1 rfl
 have x3 := S.cell_of W1 _ 3 _ 90 _ v1 rfl
 have x4 := S.cell_of W1 _ 4 _ 90 _ v1 rfl
 have x5 := S.cell_of W1 _ 5 _ 90 _ v1 rfl
 have x6 := S.cell_of W1 _ 6 _ 90 _ v1 rfl
 have f1 : ∀ i, W1.frozen? ⟨W.heap.size, i, none⟩ = false := fun i => S.frozen_of W1 W.heap.size i _ 90 v1
 have HV := hid v1
 clear v1
 go_enter Tryz.func148, Tryz.ntmps148
 go_wp2
 go_ret
 refine ⟨rfl, ?_⟩
 first | exact HB.out | exact HB.out.setCell (Nat.le_refl _) _ | exact (HB.out.setCell (p := ⟨W.heap.size, _, none⟩) (Nat.le_refl _) _).setCell (p := ⟨W.heap.size, _, none⟩) (Nat.le_refl _) _ | exact ((HB.out.setCell (p := ⟨W.heap.size, _, none⟩) (Nat.le_refl _) _).setCell (p := ⟨W.heap.size, _, none⟩) (Nat.le_refl _) _).setCell (p := ⟨W.heap.size, _, none⟩) (Nat.le_refl _) _
theorem us_5_5 (op v p1 p2 : Int) (nm : ByteArray) (n1 n2 d1 d2 : Nat) (q1 q2 : Option Addr) (has : Bool) (W : World) (h_op : (op == 0) = true) (h_v : (v == 0) = true) (h_nm : nm.toList.isEmpty = true) :
  Calls Tryz.prog 148 #[.agg #[.int .i64 5, .int .i64 op, .int .u16 v, .string nm, .slice q1 n1 d1, .slice q2 0 d2, .bool false, .int .i64 p1, .int .i64 p2]] W fun e w' => e = .returned (.bool true) /\ Below W.heap.size W w' := by
 obtain ⟨W1, hW1⟩ : ∃ W1, W.alloc (.cells #[.int .i64 5, .int .i64 op, .int .u16 v, .string nm, .slice q1 n1 d1, .slice q2 0 d2, .bool false, .int .i64 p1, .int .i64 p2] 90) = W1 := ⟨_, rfl⟩
 have v1 : W1.heap[W.heap.size]? = some (.cells [.int .i64 5, .int .i64 op, .int .u16 v, .string nm, .slice q1 n1 d1, .slice q2 0 d2, .bool false, .int .i64 p1, .int .i64 p2].toArray 90 (0, 0)) := by rw [<- hW1]; exact heap_alloc_new W _
 have HB := hid (show Below W.heap.size W W1 by rw [<- hW1]; exact (Below.refl _ _).alloc (Nat.le_refl _) _)
 have x0 := S.cell_of W1 _ 0 _ 90 _ v1 rfl
 have x1 := S.cell_of W1 _ 1 _ 90 _ v1 rfl
 have x2 := S.cell_of W1 _ 2 _ 90 _ v1 rfl
 have x3 := S.cell_of W1 _ 3 _ 90 _ v1 rfl
 have x4 := S.cell_of W1 _ 4 _ 90 _ v1 rfl
 have x5 := S.cell_of W1 _ 5 _ 90 _ v1 rfl
 have x6 := S.cell_of W1 _ 6 _ 90 _ v1 rfl
 have f1 : ∀ i, W1.frozen? ⟨W.heap.size, i, none⟩ = false := fun i => S.frozen_of W1 W.heap.size i _ 90 v1
 have HV := hid v1
 clear v1
 go_enter Tryz.func148, Tryz.ntmps148
 go_wp2
 go_ret
 refine ⟨rfl, ?_⟩
 first | exact HB.out | exact HB.out.setCell (Nat.le_refl _) _ | exact (HB.out.setCell (p := ⟨W.heap.size, _, none⟩) (Nat.le_refl _) _).setCell (p := ⟨W.heap.size, _, none⟩) (Nat.le_refl _) _ | exact ((HB.out.setCell (p := ⟨W.heap.size, _, none⟩) (Nat.le_refl _) _).setCell (p := ⟨W.heap.size, _, none⟩) (Nat.le_refl _) _).setCell (p := ⟨W.heap.size, _, none⟩) (Nat.le_refl _) _
theorem us_6_0 (op v p1 p2 : Int) (nm : ByteArray) (n1 n2 d1 d2 : Nat) (q1 q2 : Option Addr) (has : Bool) (W : World) (h_op : (op == 0) = false) :
  Calls Tryz.prog 148 #[.agg #[.int .i64 6, .int .i64 op, .int .u16 v, .string nm, .slice q1 n1 d1, .slice q2 n2 d2, .bool has, .int .i64 p1, .int .i64 p2]] W fun e w' => e = .returned (.bool false) /\ Below W.heap.size W w' := by
 obtain ⟨W1, hW1⟩ : ∃ W1, W.alloc (.cells #[.int .i64 6, .int .i64 op, .int .u16 v, .string nm, .slice q1 n1 d1, .slice q2 n2 d2, .bool has, .int .i64 p1, .int .i64 p2] 90) = W1 := ⟨_, rfl⟩
 have v1 : W1.heap[W.heap.size]? = some (.cells [.int .i64 6, .int .i64 op, .int .u16 v, .string nm, .slice q1 n1 d1, .slice q2 n2 d2, .bool has, .int .i64 p1, .int .i64 p2].toArray 90 (0, 0)) := by rw [<- hW1]; exact heap_alloc_new W _
 have HB := hid (show Below W.heap.size W W1 by rw [<- hW1]; exact (Below.refl _ _).alloc (Nat.le_refl _) _)
 have x0 := S.cell_of W1 _ 0 _ 90 _ v1 rfl
 have x1 := S.cell_of W1 _ 1 _ 90 _ v1 rfl
 have x2 := S.cell_of W1 _ 2 _ 90 _ v1 rfl
 have x3 := S.cell_of W1 _ 3 _ 90 _ v1 rfl
 have x4 := S.cell_of W1 _ 4 _ 90 _ v1 rfl
 have x5 := S.cell_of W1 _ 5 _ 90 _ v1 rfl
 have x6 := S.cell_of W1 _ 6 _ 90 _ v1 rfl
 have f1 : ∀ i, W1.frozen? ⟨W.heap.size, i, none⟩ = false := fun i => S.frozen_of W1 W.heap.size i _ 90 v1
 have HV := hid v1
 clear v1
 go_enter Tryz.func148, Tryz.ntmps148
 go_wp2
 go_ret
 refine ⟨rfl, ?_⟩
 first | exact HB.out | exact HB.out.setCell (Nat.le_refl _) _ | exact (HB.out.setCell (p := ⟨W.heap.size, _, none⟩) (Nat.le_refl _) _).setCell (p := ⟨W.heap.size, _, none⟩) (Nat.le_refl _) _ | exact ((HB.out.setCell (p := ⟨W.heap.size, _, none⟩) (Nat.le_refl _) _).setCell (p := ⟨W.heap.size, _, none⟩) (Nat.le_refl _) _).setCell (p := ⟨W.heap.size, _, none⟩) (Nat.le_refl _) _
theorem us_6_1 (op v p1 p2 : Int) (nm : ByteArray) (n1 n2 d1 d2 : Nat) (q1 q2 : Option Addr) (has : Bool) (W : World) (h_op : (op == 0) = true) (h_v : (v == 0) = false) :
  Calls Tryz.prog 148 #[.agg #[.int .i64 6, .int .i64 op, .int .u16 v, .string nm, .slice q1 n1 d1, .slice q2 n2 d2, .bool has, .int .i64 p1, .int .i64 p2]] W fun e w' => e = .returned (.bool false) /\ Below W.heap.size W w' := by
 obtain ⟨W1, hW1⟩ : ∃ W1, W.alloc (.cells #[.int .i64 6, .int .i64 op, .int .u16 v, .string nm, .slice q1 n1 d1, .slice q2 n2 d2, .bool has, .int .i64 p1, .int .i64 p2] 90) = W1 := ⟨_, rfl⟩
 have v1 : W1.heap[W.heap.size]? = some (.cells [.int .i64 6, .int .i64 op, .int .u16 v, .string nm, .slice q1 n1 d1, .slice q2 n2 d2, .bool has, .int .i64 p1, .int .i64 p2].toArray 90 (0, 0)) := by rw [<- hW1]; exact heap_alloc_new W _
 have HB := hid (show Below W.heap.size W W1 by rw [<- hW1]; exact (Below.refl _ _).alloc (Nat.le_refl _) _)
 have x0 := S.cell_of W1 _ 0 _ 90 _ v1 rfl
 have x1 := S.cell_of W1 _ 1 _ 90 _ v1 rfl
 have x2 := S.cell_of W1 _ 2 _ 90 _ v1 rfl
 have x3 := S.cell_of W1 _ 3 _ 90 _ v1 rfl
 have x4 := S.cell_of W1 _ 4 _ 90 _ v1 rfl
 have x5 := S.cell_of W1 _ 5 _ 90 _ v1 rfl
 have x6 := S.cell_of W1 _ 6 _ 90 _ v1 rfl
 have f1 : ∀ i, W1.frozen? ⟨W.heap.size, i, none⟩ = false := fun i => S.frozen_of W1 W.heap.size i _ 90 v1
 have HV := hid v1
 clear v1
 go_enter Tryz.func148, Tryz.ntmps148
 go_wp2
 go_ret
 refine ⟨rfl, ?_⟩
 first | exact HB.out | exact HB.out.setCell (Nat.le_refl _) _ | exact (HB.out.setCell (p := ⟨W.heap.size, _, none⟩) (Nat.le_refl _) _).setCell (p := ⟨W.heap.size, _, none⟩) (Nat.le_refl _) _ | exact ((HB.out.setCell (p := ⟨W.heap.size, _, none⟩) (Nat.le_refl _) _).setCell (p := ⟨W.heap.size, _, none⟩) (Nat.le_refl _) _).setCell (p := ⟨W.heap.size, _, none⟩) (Nat.le_refl _) _
theorem us_6_2 (op v p1 p2 : Int) (nm : ByteArray) (n1 n2 d1 d2 : Nat) (q1 q2 : Option Addr) (has : Bool) (W : World) (h_op : (op == 0) = true) (h_v : (v == 0) = true) (h_nm : nm.toList.isEmpty = false) :
  Calls Tryz.prog 148 #[.agg #[.int .i64 6, .int .i64 op, .int .u16 v, .string nm, .slice q1 n1 d1, .slice q2 n2 d2, .bool has, .int .i64 p1, .int .i64 p2]] W fun e w' => e = .returned (.bool false) /\ Below W.heap.size W w' := by
 obtain ⟨W1, hW1⟩ : ∃ W1, W.alloc (.cells #[.int .i64 6, .int .i64 op, .int .u16 v, .string nm, .slice q1 n1 d1, .slice q2 n2 d2, .bool has, .int .i64 p1, .int .i64 p2] 90) = W1 := ⟨_, rfl⟩
 have v1 : W1.heap[W.heap.size]? = some (.cells [.int .i64 6, .int .i64 op, .int .u16 v, .string nm, .slice q1 n1 d1, .slice q2 n2 d2, .bool has, .int .i64 p1, .int .i64 p2].toArray 90 (0, 0)) := by rw [<- hW1]; exact heap_alloc_new W _
 have HB := hid (show Below W.heap.size W W1 by rw [<- hW1]; exact (Below.refl _ _).alloc (Nat.le_refl _) _)
 have x0 := S.cell_of W1 _ 0 _ 90 _ v1 rfl
 have x1 := S.cell_of W1 _ 1 _ 90 _ v1 rfl
 have x2 := S.cell_of W1 _ 2 _ 90 _ v1 rfl
 have x3 := S.cell_of W1 _ 3 _ 90 _ v1 rfl
 have x4 := S.cell_of W1 _ 4 _ 90 _ v1 rfl
 have x5 := S.cell_of W1 _ 5 _ 90 _ v1 rfl
 have x6 := S.cell_of W1 _ 6 _ 90 _ v1 rfl
 have f1 : ∀ i, W1.frozen? ⟨W.heap.size, i, none⟩ = false := fun i => S.frozen_of W1 W.heap.size i _ 90 v1
 have HV := hid v1
 clear v1
 go_enter Tryz.func148, Tryz.ntmps148
 go_wp2
 go_ret
 refine ⟨rfl, ?_⟩
 first | exact HB.out | exact HB.out.setCell (Nat.le_refl _) _ | exact (HB.out.setCell (p := ⟨W.heap.size, _, none⟩) (Nat.le_refl _) _).setCell (p := ⟨W.heap.size, _, none⟩) (Nat.le_refl _) _ | exact ((HB.out.setCell (p := ⟨W.heap.size, _, none⟩) (Nat.le_refl _) _).setCell (p := ⟨W.heap.size, _, none⟩) (Nat.le_refl _) _).setCell (p := ⟨W.heap.size, _, none⟩) (Nat.le_refl _) _
theorem us_6_3 (op v p1 p2 : Int) (nm : ByteArray) (n1 n2 d1 d2 : Nat) (q1 q2 : Option Addr) (has : Bool) (W : World) (h_op : (op == 0) = true) (h_v : (v == 0) = true) (h_nm : nm.toList.isEmpty = true) :
  Calls Tryz.prog 148 #[.agg #[.int .i64 6, .int .i64 op, .int .u16 v, .string nm, .slice q1 n1 d1, .slice q2 n2 d2, .bool true, .int .i64 p1, .int .i64 p2]] W fun e w' => e = .returned (.bool false) /\ Below W.heap.size W w' := by
 obtain ⟨W1, hW1⟩ : ∃ W1, W.alloc (.cells #[.int .i64 6, .int .i64 op, .int .u16 v, .string nm, .slice q1 n1 d1, .slice q2 n2 d2, .bool true, .int .i64 p1, .int .i64 p2] 90) = W1 := ⟨_, rfl⟩
 have v1 : W1.heap[W.heap.size]? = some (.cells [.int .i64 6, .int .i64 op, .int .u16 v, .string nm, .slice q1 n1 d1, .slice q2 n2 d2, .bool true, .int .i64 p1, .int .i64 p2].toArray 90 (0, 0)) := by rw [<- hW1]; exact heap_alloc_new W _
 have HB := hid (show Below W.heap.size W W1 by rw [<- hW1]; exact (Below.refl _ _).alloc (Nat.le_refl _) _)
 have x0 := S.cell_of W1 _ 0 _ 90 _ v1 rfl
 have x1 := S.cell_of W1 _ 1 _ 90 _ v1 rfl
 have x2 := S.cell_of W1 _ 2 _ 90 _ v1 rfl
 have x3 := S.cell_of W1 _ 3 _ 90 _ v1 rfl
 have x4 := S.cell_of W1 _ 4 _ 90 _ v1 rfl
 have x5 := S.cell_of W1 _ 5 _ 90 _ v1 rfl
 have x6 := S.cell_of W1 _ 6 _ 90 _ v1 rfl
 have f1 : ∀ i, W1.frozen? ⟨W.heap.size, i, none⟩ = false := fun i => S.frozen_of W1 W.heap.size i _ 90 v1
 have HV := hid v1
 clear v1
 go_enter Tryz.func148, Tryz.ntmps148
 go_wp2
 go_ret
 refine ⟨rfl, ?_⟩
 first | exact HB.out | exact HB.out.setCell (Nat.le_refl _) _ | exact (HB.out.setCell (p := ⟨W.heap.size, _, none⟩) (Nat.le_refl _) _).setCell (p := ⟨W.heap.size, _, none⟩) (Nat.le_refl _) _ | exact ((HB.out.setCell (p := ⟨W.heap.size, _, none⟩) (Nat.le_refl _) _).setCell (p := ⟨W.heap.size, _, none⟩) (Nat.le_refl _) _).setCell (p := ⟨W.heap.size, _, none⟩) (Nat.le_refl _) _
theorem us_6_4 (op v p1 p2 : Int) (nm : ByteArray) (n1 n2 d1 d2 : Nat) (q1 q2 : Option Addr) (has : Bool) (W : World) (h_op : (op == 0) = true) (h_v : (v == 0) = true) (h_nm : nm.toList.isEmpty = true) :
  Calls Tryz.prog 148 #[.agg #[.int .i64 6, .int .i64 op, .int .u16 v, .string nm, .slice q1 n1 d1, .slice q2 n2 d2, .bool false, .int .i64 p1, .int .i64 p2]] W fun e w' => e = .returned (.bool true) /\ Below W.heap.size W w' := by
 obtain ⟨W1, hW1⟩ : ∃ W1, W.alloc (.cells #[.int .i64 6, .int .i64 op, .int .u16 v, .string nm, .slice q1 n1 d1, .slice q2 n2 d2, .bool false, .int .i64 p1, .int .i64 p2] 90) = W1 := ⟨_, rfl⟩
 have v1 : W1.heap[W.heap.size]? = some (.cells [.int .i64 6, .int .i64 op, .int .u16 v, .string nm, .slice q1 n1 d1, .slice q2 n2 d2, .bool false, .int .i64 p1, .int .i64 p2].toArray 90 (0, 0)) := by rw [<- hW1]; exact heap_alloc_new W _
 have HB := hid (show Below W.heap.size W W1 by rw [<- hW1]; exact (Below.refl _ _).alloc (Nat.le_refl _) _)
 have x0 := S.cell_of W1 _ 0 _ 90 _ v1 rfl
 have x1 := S.cell_of W1 _ 1 _ 90 _ v1 rfl
 have x2 := S.cell_of W1 _ 2 _ 90 _ v1 rfl
 have x3 := S.cell_of W1 _ 3 _ 90 _ v1 rfl
 have x4 := S.cell_of W1 _ 4 _ 90 _ v1 rfl
 have x5 := S.cell_of W1 _ 5 _ 90 _ v1 rfl
 have x6 := S.cell_of W1 _ 6 _ 90 _ v1 rfl
 have f1 : ∀ i, W1.frozen? ⟨W.heap.size, i, none⟩ = false := fun i => S.frozen_of W1 W.heap.size i _ 90 v1
 have HV := hid v1
 clear v1
 go_enter Tryz.func148, Tryz.ntmps148
 go_wp2
 go_ret
 refine ⟨rfl, ?_⟩
 first | exact HB.out | exact HB.out.setCell (Nat.le_refl _) _ | exact (HB.out.setCell (p := ⟨W.heap.size, _, none⟩) (Nat.le_refl _) _).setCell (p := ⟨W.heap.size, _, none⟩) (Nat.le_refl _) _ | exact ((HB.out.setCell (p := ⟨W.heap.size, _, none⟩) (Nat.le_refl _) _).setCell (p := ⟨W.heap.size, _, none⟩) (Nat.le_refl _) _).setCell (p := ⟨W.heap.size, _, none⟩) (Nat.le_refl _) _
theorem us_7_0 (op v p1 p2 : Int) (nm : ByteArray) (n1 n2 d1 d2 : Nat) (q1 q2 : Option Addr) (has : Bool) (W : World) (h_op : (op == 0) = false) :
  Calls Tryz.prog 148 #[.agg #[.int .i64 7, .int .i64 op, .int .u16 v, .string nm, .slice q1 n1 d1, .slice q2 n2 d2, .bool has, .int .i64 p1, .int .i64 p2]] W fun e w' => e = .returned (.bool false) /\ Below W.heap.size W w' := by
 obtain ⟨W1, hW1⟩ : ∃ W1, W.alloc (.cells #[.int .i64 7, .int .i64 op, .int .u16 v, .string nm, .slice q1 n1 d1, .slice q2 n2 d2, .bool has, .int .i64 p1, .int .i64 p2] 90) = W1 := ⟨_, rfl⟩
 have v1 : W1.heap[W.heap.size]? = some (.cells [.int .i64 7, .int .i64 op, .int .u16 v, .string nm, .slice q1 n1 d1, .slice q2 n2 d2, .bool has, .int .i64 p1, .int .i64 p2].toArray 90 (0, 0)) := by rw [<- hW1]; exact heap_alloc_new W _
 have HB := hid (show Below W.heap.size W W1 by rw [<- hW1]; exact (Below.refl _ _).alloc (Nat.le_refl _) _)
 have x0 := S.cell_of W1 _ 0 _ 90 _ v1 rfl
 have x1 := S.cell_of W1 _ 1 _ 90 _ v1 rfl
 have x2 := S.cell_of W1 _ 2 _ 90 _ v1 rfl
 have x3 := S.cell_of W1 _ 3 _ 90 _ v1 rfl
 have x4 := S.cell_of W1 _ 4 _ 90 _ v1 rfl
 have x5 := S.cell_of W1 _ 5 _ 90 _ v1 rfl
 have x6 := S.cell_of W1 _ 6 _ 90 _ v1 rfl
 have f1 : ∀ i, W1.frozen? ⟨W.heap.size, i, none⟩ = false := fun i => S.frozen_of W1 W.heap.size i _ 90 v1
 have HV := hid v1
 clear v1
 go_enter Tryz.func148, Tryz.ntmps148
 go_wp2
 go_ret
 refine ⟨rfl, ?_⟩
 first | exact HB.out | exact HB.out.setCell (Nat.le_refl _) _ | exact (HB.out.setCell (p := ⟨W.heap.size, _, none⟩) (Nat.le_refl _) _).setCell (p := ⟨W.heap.size, _, none⟩) (Nat.le_refl _) _ | exact ((HB.out.setCell (p := ⟨W.heap.size, _, none⟩) (Nat.le_refl _) _).setCell (p := ⟨W.heap.size, _, none⟩) (Nat.le_refl _) _).setCell (p := ⟨W.heap.size, _, none⟩) (Nat.le_refl _) _
theorem us_7_1 (op v p1 p2 : Int) (nm : ByteArray) (n1 n2 d1 d2 : Nat) (q1 q2 : Option Addr) (has : Bool) (W : World) (h_op : (op == 0) = true) (h_v : (v == 0) = false) :
  Calls Tryz.prog 148 #[.agg #[.int .i64 7, .int .i64 op, .int .u16 v, .string nm, .slice q1 n1 d1, .slice q2 n2 d2, .bool has, .int .i64 p1, .int .i64 p2]] W fun e w' => e = .returned (.bool false) /\ Below W.heap.size W w' := by
 obtain ⟨W1, hW1⟩ : ∃ W1, W.alloc (.cells #[.int .i64 7, .int .i64 op, .int .u16 v, .string nm, .slice q1 n1 d1, .slice q2 n2 d2, .bool has, .int .i64 p1, .int .i64 p2] 90) = W1 := ⟨_, rfl⟩
 have v1 : W1.heap[W.heap.size]? = some (.cells [.int .i64 7, .int .i64 op, .int .u16 v, .string nm, .slice q1 n1 d1, .slice q2 n2 d2, .bool has, .int .i64 p1, .int .i64 p2].toArray 90 (0, 0)) := by rw [<- hW1]; exact heap_alloc_new W _
 have HB := hid (show Below W.heap.size W W1 by rw [<- hW1]; exact (Below.refl _ _).alloc (Nat.le_refl _) _)
 have x0 := S.cell_of W1 _ 0 _ 90 _ v1 rfl
 have x1 := S.cell_of W1 _ 1 _ 90 _ v1 rfl
 have x2 := S.cell_of W1 _ 2 _ 90 _ v1 rfl
 have x3 := S.cell_of W1 _ 3 _ 90 _ v1 rfl
 have x4 := S.cell_of W1 _ 4 _ 90 _ v1 rfl
 have x5 := S.cell_of W1 _ 5 _ 90 _ v1 rfl
 have x6 := S.cell_of W1 _ 6 _ 90 _ v1 rfl
 have f1 : ∀ i, W1.frozen? ⟨W.heap.size, i, none⟩ = false := fun i => S.frozen_of W1 W.heap.size i _ 90 v1
 have HV := hid v1
 clear v1
 go_enter Tryz.func148, Tryz.ntmps148
 go_wp2
 go_ret
 refine ⟨rfl, ?_⟩
 first | exact HB.out | exact HB.out.setCell (Nat.le_refl _) _ | exact (HB.out.setCell (p := ⟨W.heap.size, _, none⟩) (Nat.le_refl _) _).setCell (p := ⟨W.heap.size, _, none⟩) (Nat.le_refl _) _ | exact ((HB.out.setCell (p := ⟨W.heap.size, _, none⟩) (Nat.le_refl _) _).setCell (p := ⟨W.heap.size, _, none⟩) (Nat.le_refl _) _).setCell (p := ⟨W.heap.size, _, none⟩) (Nat.le_refl _) _
theorem us_7_2 (op v p1 p2 : Int) (nm : ByteArray) (n1 n2 d1 d2 : Nat) (q1 q2 : Option Addr) (has : Bool) (W : World) (h_op : (op == 0) = true) (h_v : (v == 0) = true) (h_nm : nm.toList.isEmpty = false) :
  Calls Tryz.prog 148 #[.agg #[.int .i64 7, .int .i64 op, .int .u16 v, .string nm, .slice q1 n1 d1, .slice q2 n2 d2, .bool has, .int .i64 p1, .int .i64 p2]] W fun e w' => e = .returned (.bool false) /\ Below W.heap.size W w' := by
 obtain ⟨W1, hW1⟩ : ∃ W1, W.alloc (.cells #[.int .i64 7, .int .i64 op, .int .u16 v, .string nm, .slice q1 n1 d1, .slice q2 n2 d2, .bool has, .int .i64 p1, .int .i64 p2] 90) = W1 := ⟨_, rfl⟩
 have v1 : W1.heap[W.heap.size]? = some (.cells [.int .i64 7, .int .i64 op, .int .u16 v, .string nm, .slice q1 n1 d1, .slice q2 n2 d2, .bool has, .int .i64 p1, .int .i64 p2].toArray 90 (0, 0)) := by rw [<- hW1]; exact heap_alloc_new W _
 have HB := hid (show Below W.heap.size W W1 by rw [<- hW1]; exact (Below.refl _ _).alloc (Nat.le_refl _) _)
 have x0 := S.cell_of W1 _ 0 _ 90 _ v1 rfl
 have x1 := S.cell_of W1 _ 1 _ 90 _ v1 rfl
 have x2 := S.cell_of W1 _ 2 _ 90 _ v1 rfl
 have x3 := S.cell_of W1 _ 3 _ 90 _ v1 rfl
 have x4 := S.cell_of W1 _ 4 _ 90 _ v1 rfl
 have x5 := S.cell_of W1 _ 5 _ 90 _ v1 rfl
 have x6 := S.cell_of W1 _ 6 _ 90 _ v1 rfl
 have f1 : ∀ i, W1.frozen? ⟨W.heap.size, i, none⟩ = false := fun i => S.frozen_of W1 W.heap.size i _ 90 v1
 have HV := hid v1
 clear v1
 go_enter Tryz.func148, Tryz.ntmps148
 go_wp2
 go_ret
 refine ⟨rfl, ?_⟩
 first | exact HB.out | exact HB.out.setCell (Nat.le_refl _) _ | exact (HB.out.setCell (p := ⟨W.heap.size, _, none⟩) (Nat.le_refl _) _).setCell (p := ⟨W.heap.size, _, none⟩) (Nat.le_refl _) _ | exact ((HB.out.setCell (p := ⟨W.heap.size, _, none⟩) (Nat.le_refl _) _).setCell (p := ⟨W.heap.size, _, none⟩) (Nat.le_refl _) _).setCell (p := ⟨W.heap.size, _, none⟩) (Nat.le_refl _) _
theorem us_7_3 (op v p1 p2 : Int) (nm : ByteArray) (n1 n2 d1 d2 : Nat) (q1 q2 : Option Addr) (has : Bool) (W : World) (h_op : (op == 0) = true) (h_v : (v == 0) = true) (h_nm : nm.toList.isEmpty = true) (h_el : (((n2 + 1 : Nat) : Int) == 0) = false) :
  Calls Tryz.prog 148 #[.agg #[.int .i64 7, .int .i64 op, .int .u16 v, .string nm, .slice q1 n1 d1, .slice q2 (n2 + 1) d2, .bool has, .int .i64 p1, .int .i64 p2]] W fun e w' => e = .returned (.bool false) /\ Below W.heap.size W w' := by
 obtain ⟨W1, hW1⟩ : ∃ W1, W.alloc (.cells #[.int .i64 7, .int .i64 op, .int .u16 v, .string nm, .slice q1 n1 d1, .slice q2 (n2 + 1) d2, .bool has, .int .i64 p1, .int .i64 p2] 90) = W1 := ⟨_, rfl⟩
 have v1 : W1.heap[W.heap.size]? = some (.cells [.int .i64 7, .int .i64 op, .int .u16 v, .string nm, .slice q1 n1 d1, .slice q2 (n2 + 1) d2, .bool has, .int .i64 p1, .int .i64 p2].toArray 90 (0, 0)) := by rw [<- hW1]; exact heap_alloc_new W _
 have HB := hid (show Below W.heap.size W W1 by rw [<- hW1]; exact (Below.refl _ _).alloc (Nat.le_refl _) _)
 have x0 := S.cell_of W1 _ 0 _ 90 _ v1 rfl
 have x1 := S.cell_of W1 _ 1 _ 90 _ v1 rfl
 have x2 := S.cell_of W1 _ 2 _ 90 _ v1 rfl
 have x3 := S.cell_of W1 _ 3 _ 90 _ v1 rfl
 have x4 := S.cell_of W1 _ 4 _ 90 _ v1 rfl
 have x5 := S.cell_of W1 _ 5 _ 90 _ v1 rfl
 have x6 := S.cell_of W1 _ 6 _ 90 _ v1 rfl
 have f1 : ∀ i, W1.frozen? ⟨W.heap.size, i, none⟩ = false := fun i => S.frozen_of W1 W.heap.size i _ 90 v1
 have HV := hid v1
 clear v1
 go_enter Tryz.func148, Tryz.ntmps148
 go_wp2
 go_ret
 refine ⟨rfl, ?_⟩
 first | exact HB.out | exact HB.out.setCell (Nat.le_refl _) _ | exact (HB.out.setCell (p := ⟨W.heap.size, _, none⟩) (Nat.le_refl _) _).setCell (p := ⟨W.heap.size, _, none⟩) (Nat.le_refl _) _ | exact ((HB.out.setCell (p := ⟨W.heap.size, _, none⟩) (Nat.le_refl _) _).setCell (p := ⟨W.heap.size, _, none⟩) (Nat.le_refl _) _).setCell (p := ⟨W.heap.size, _, none⟩) (Nat.le_refl _) _
theorem us_7_4 (op v p1 p2 : Int) (nm : ByteArray) (n1 n2 d1 d2 : Nat) (q1 q2 : Option Addr) (has : Bool) (W : World) (h_op : (op == 0) = true) (h_v : (v == 0) = true) (h_nm : nm.toList.isEmpty = true) :
  Calls Tryz.prog 148 #[.agg #[.int .i64 7, .int .i64 op, .int .u16 v, .string nm, .slice q1 n1 d1, .slice q2 0 d2, .bool true, .int .i64 p1, .int .i64 p2]] W fun e w' => e = .returned (.bool false) /\ Below W.heap.size W w' := by
 obtain ⟨W1, hW1⟩ : ∃ W1, W.alloc (.cells #[.int .i64 7, .int .i64 op, .int .u16 v, .string nm, .slice q1 n1 d1, .slice q2 0 d2, .bool true, .int .i64 p1, .int .i64 p2] 90) = W1 := ⟨_, rfl⟩
 have v1 : W1.heap[W.heap.size]? = some (.cells [.int .i64 7, .int .i64 op, .int .u16 v, .string nm, .slice q1 n1 d1, .slice q2 0 d2, .bool true, .int .i64 p1, .int .i64 p2].toArray 90 (0, 0)) := by rw [<- hW1]; exact heap_alloc_new W _
 have HB := hid (show Below W.heap.size W W1 by rw [<- hW1]; exact (Below.refl _ _).alloc (Nat.le_refl _) _)
 have x0 := S.cell_of W1 _ 0 _ 90 _ v1 rfl
 have x1 := S.cell_of W1 _ 1 _ 90 _ v1 rfl
 have x2 := S.cell_of W1 _ 2 _ 90 _ v1 rfl
 have x3 := S.cell_of W1 _ 3 _ 90 _ v1 rfl
 have x4 := S.cell_of W1 _ 4 _ 90 _ v1 rfl
 have x5 := S.cell_of W1 _ 5 _ 90 _ v1 rfl
 have x6 := S.cell_of W1 _ 6 _ 90 _ v1 rfl
 have f1 : ∀ i, W1.frozen? ⟨W.heap.size, i, none⟩ = false := fun i => S.frozen_of W1 W.heap.size i _ 90 v1
 have HV := hid v1
 clear v1
 go_enter Tryz.func148, Tryz.ntmps148
 go_wp2
 go_ret
 refine ⟨rfl, ?_⟩
 first | exact HB.out | exact HB.out.setCell (Nat.le_refl _) _ | exact (HB.out.setCell (p := ⟨W.heap.size, _, none⟩) (Nat.le_refl _) _).setCell (p := ⟨W.heap.size, _, none⟩) (Nat.le_refl _) _ | exact ((HB.out.setCell (p := ⟨W.heap.size, _, none⟩) (Nat.le_refl _) _).setCell (p := ⟨W.heap.size, _, none⟩) (Nat.le_refl _) _).setCell (p := ⟨W.heap.size, _, none⟩) (Nat.le_refl _) _
theorem us_7_5 (op v p1 p2 : Int) (nm : ByteArray) (n1 n2 d1 d2 : Nat) (q1 q2 : Option Addr) (has : Bool) (W : World) (h_op : (op == 0) = true) (h_v : (v == 0) = true) (h_nm : nm.toList.isEmpty = true) :
  Calls Tryz.prog 148 #[.agg #[.int .i64 7, .int .i64 op, .int .u16 v, .string nm, .slice q1 n1 d1, .slice q2 0 d2, .bool false, .int .i64 p1, .int .i64 p2]] W fun e w' => e = .returned (.bool true) /\ Below W.heap.size W w' := by
 obtain ⟨W1, hW1⟩ : ∃ W1, W.alloc (.cells #[.int .i64 7, .int .i64 op, .int .u16 v, .string nm, .slice q1 n1 d1, .slice q2 0 d2, .bool false, .int .i64 p1, .int .i64 p2] 90) = W1 := ⟨_, rfl⟩
 have v1 : W1.heap[W.heap.size]? = some (.cells [.int .i64 7, .int .i64 op, .int .u16 v, .string nm, .slice q1 n1 d1, .slice q2 0 d2, .bool false, .int .i64 p1, .int .i64 p2].toArray 90 (0, 0)) := by rw [<- hW1]; exact heap_alloc_new W _
 have HB := hid (show Below W.heap.size W W1 by rw [<- hW1]; exact (Below.refl _ _).alloc (Nat.le_refl _) _)
 have x0 := S.cell_of W1 _ 0 _ 90 _ v1 rfl
 have x1 := S.cell_of W1 _ 1 _ 90 _ v1 rfl
 have x2 := S.cell_of W1 _ 2 _ 90 _ v1 rfl
 have x3 := S.cell_of W1 _ 3 _ 90 _ v1 rfl
 have x4 := S.cell_of W1 _ 4 _ 90 _ v1 rfl
 have x5 := S.cell_of W1 _ 5 _ 90 _ v1 rfl
 have x6 := S.cell_of W1 _ 6 _ 90 _ v1 rfl
 have f1 : ∀ i, W1.frozen? ⟨W.heap.size, i, none⟩ = false := fun i => S.frozen_of W1 W.heap.size i _ 90 v1
 have HV := hid v1
 clear v1
 go_enter Tryz.func148, Tryz.ntmps148
 go_wp2
 go_ret
 refine ⟨rfl, ?_⟩
 first | exact HB.out | exact HB.out.setCell (Nat.le_refl _) _ | exact (HB.out.setCell (p := ⟨W.heap.size, _, none⟩) (Nat.le_refl _) _).setCell (p := ⟨W.heap.size, _, none⟩) (Nat.le_refl _) _ | exact ((HB.out.setCell (p := ⟨W.heap.size, _, none⟩) (Nat.le_refl _) _).setCell (p := ⟨W.heap.size, _, none⟩) (Nat.le_refl _) _).setCell (p := ⟨W.heap.size, _, none⟩) (Nat.le_refl _) _
theorem us_8_0 (op v p1 p2 : Int) (nm : ByteArray) (n1 n2 d1 d2 : Nat) (q1 q2 : Option Addr) (has : Bool) (W : World) (h_op : (op == 0) = false) :
  Calls Tryz.prog 148 #[.agg #[.int .i64 8, .int .i64 op, .int .u16 v, .string nm, .slice q1 n1 d1, .slice q2 n2 d2, .bool has, .int .i64 p1, .int .i64 p2]] W fun e w' => e = .returned (.bool false) /\ Below W.heap.size W w' := by
 obtain ⟨W1, hW1⟩ : ∃ W1, W.alloc (.cells #[.int .i64 8, .int .i64 op, .int .u16 v, .string nm, .slice q1 n1 d1, .slice q2 n2 d2, .bool has, .int .i64 p1, .int .i64 p2] 90) = W1 := ⟨_, rfl⟩
 have v1 : W1.heap[W.heap.size]? = some (.cells [.int .i64 8, .int .i64 op, .int .u16 v, .string nm, .slice q1 n1 d1, .slice q2 n2 d2, .bool has, .int .i64 p1, .int .i64 p2].toArray 90 (0, 0)) := by rw [<- hW1]; exact heap_alloc_new W _
 have HB := hid (show Below W.heap.size W W1 by rw [<- hW1]; exact (Below.refl _ _).alloc (Nat.le_refl _) _)
 have x0 := S.cell_of W1 _ 0 _ 90 _ v1 rfl
 have x1 := S.cell_of W1 _ 1 _ 90 _ v1 rfl
 have x2 := S.cell_of W1 _ 2 _ 90 _ v1 rfl
 have x3 := S.cell_of W1 _ 3 _ 90 _ v1 rfl
 have x4 := S.cell_of W1 _ 4 _ 90 _ v1 rfl
 have x5 := S.cell_of W1 _ 5 _ 90 _ v1 rfl
 have x6 := S.cell_of W1 _ 6 _ 90 _ v1 rfl
 have f1 : ∀ i, W1.frozen? ⟨W.heap.size, i, none⟩ = false := fun i => S.frozen_of W1 W.heap.size i _ 90 v1
 have HV := hid v1
 clear v1
 go_enter Tryz.func148, Tryz.ntmps148
 go_wp2
 go_ret
 refine ⟨rfl, ?_⟩
 first | exact HB.out | exact HB.out.setCell (Nat.le_refl _) _ | exact (HB.out.setCell (p := ⟨W.heap.size, _, none⟩) (Nat.le_refl _) _).setCell (p := ⟨W.heap.size, _, none⟩) (Nat.le_refl _) _ | exact ((HB.out.setCell (p := ⟨W.heap.size, _, none⟩) (Nat.le_refl _) _).setCell (p := ⟨W.heap.size, _, none⟩) (Nat.le_refl _) _).setCell (p := ⟨W.heap.size, _, none⟩) (Nat.le_refl _) _
theorem us_8_1 (op v p1 p2 : Int) (nm : ByteArray) (n1 n2 d1 d2 : Nat) (q1 q2 : Option Addr) (has : Bool) (W : World) (h_op : (op == 0) = true) (h_v : (v == 0) = false) :
  Calls Tryz.prog 148 #[.agg #[.int .i64 8, .int .i64 op, .int .u16 v, .string nm, .slice q1 n1 d1, .slice q2 n2 d2, .bool has, .int .i64 p1, .int .i64 p2]] W fun e w' => e = .returned (.bool false) /\ Below W.heap.size W w' := by
 obtain ⟨W1, hW1⟩ : ∃ W1, W.alloc (.cells #[.int .i64 8, .int .i64 op, .int .u16 v, .string nm, .slice q1 n1 d1, .slice q2 n2 d2, .bool has, .int .i64 p1, .int .i64 p2] 90) = W1 := ⟨_, rfl⟩
 have v1 : W1.heap[W.heap.size]? = some (.cells [.int .i64 8, .int .i64 op, .int .u16 v, .string nm, .slice q1 n1 d1, .slice q2 n2 d2, .bool has, .int .i64 p1, .int .i64 p2].toArray 90 (0, 0)) := by rw [<- hW1]; exact heap_alloc_new W _
 have HB := hid (show Below W.heap.size W W1 by rw [<- hW1]; exact (Below.refl _ _).alloc (Nat.le_refl _) _)
 have x0 := S.cell_of W1 _ 0 _ 90 _ v1 rfl
 have x1 := S.cell_of W1 _ 1 _ 90 _ v1 rfl
 have x2 := S.cell_of W1 _ 2 _ 90 _ v1 rfl
 have x3 := S.cell_of W1 _ 3 _ 90 _ v1 rfl
 have x4 := S.cell_of W1 _ 4 _ 90 _ v1 rfl
 have x5 := S.cell_of W1 _ 5 _ 90 _ v1 rfl
 have x6 := S.cell_of W1 _ 6 _ 90 _ v1 rfl
 have f1 : ∀ i, W1.frozen? ⟨W.heap.size, i, none⟩ = false := fun i => S.frozen_of W1 W.heap.size i _ 90 v1
 have HV := hid v1
 clear v1
 go_enter Tryz.func148, Tryz.ntmps148
 go_wp2
 go_ret
 refine ⟨rfl, ?_⟩
 first | exact HB.out | exact HB.out.setCell (Nat.le_refl _) _ | exact (HB.out.setCell (p := ⟨W.heap.size, _, none⟩) (Nat.le_refl _) _).setCell (p := ⟨W.heap.size, _, none⟩) (Nat.le_refl _) _ | exact ((HB.out.setCell (p := ⟨W.heap.size, _, none⟩) (Nat.le_refl _) _).setCell (p := ⟨W.heap.size, _, none⟩) (Nat.le_refl _) _).setCell (p := ⟨W.heap.size, _, none⟩) (Nat.le_refl _) _
theorem us_8_2 (op v p1 p2 : Int) (nm : ByteArray) (n1 n2 d1 d2 : Nat) (q1 q2 : Option Addr) (has : Bool) (W : World) (h_op : (op == 0) = true) (h_v : (v == 0) = true) (h_nm : nm.toList.isEmpty = false) :
  Calls Tryz.prog 148 #[.agg #[.int .i64 8, .int .i64 op, .int .u16 v, .string nm, .slice q1 n1 d1, .slice q2 n2 d2, .bool has, .int .i64 p1, .int .i64 p2]] W fun e w' => e = .returned (.bool false) /\ Below W.heap.size W w' := by
 obtain ⟨W1, hW1⟩ : ∃ W1, W.alloc (.cells #[.int .i64 8, .int .i64 op, .int .u16 v, .string nm, .slice q1 n1 d1, .slice q2 n2 d2, .bool has, .int .i64 p1, .int .i64 p2] 90) = W1 := ⟨_, rfl⟩
 have v1 : W1.heap[W.heap.size]? = some (.cells [.int .i64 8, .int .i64 op, .int .u16 v, .string nm, .slice q1 n1 d1, .slice q2 n2 d2, .bool has, .int .i64 p1, .int .i64 p2].toArray 90 (0, 0)) := by rw [<- hW1]; exact heap_alloc_new W _
 have HB := hid (show Below W.heap.size W W1 by rw [<- hW1]; exact (Below.refl _ _).alloc (Nat.le_refl _) _)
 have x0 := S.cell_of W1 _ 0 _ 90 _ v1 rfl
 have x1 := S.cell_of W1 _ 1 _ 90 _ v1 rfl
 have x2 := S.cell_of W1 _ 2 _ 90 _ v1 rfl
 have x3 := S.cell_of W1 _ 3 _ 90 _ v1 rfl
 have x4 := S.cell_of W1 _ 4 _ 90 _ v1 rfl
 have x5 := S.cell_of W1 _ 5 _ 90 _ v1 rfl
 have x6 := S.cell_of W1 _ 6 _ 90 _ v1 rfl
 have f1 : ∀ i, W1.frozen? ⟨W.heap.size, i, none⟩ = false := fun i => S.frozen_of W1 W.heap.size i _ 90 v1
 have HV := hid v1
 clear v1
 go_enter Tryz.func148, Tryz.ntmps148
 go_wp2
 go_ret
 refine ⟨rfl, ?_⟩
 first | exact HB.out | exact HB.out.setCell (Nat.le_refl _) _ | exact (HB.out.setCell (p := ⟨W.heap.size, _, none⟩) (Nat.le_refl _) _).setCell (p := ⟨W.heap.size, _, none⟩) (Nat.le_refl _) _ | exact ((HB.out.setCell (p := ⟨W.heap.size, _, none⟩) (Nat.le_refl _) _).setCell (p := ⟨W.heap.size, _, none⟩) (Nat.le_refl _) _).setCell (p := ⟨W.heap.size, _, none⟩) (Nat.le_refl _) _
theorem us_8_3 (op v p1 p2 : Int) (nm : ByteArray) (n1 n2 d1 d2 : Nat) (q1 q2 : Option Addr) (has : Bool) (W : World) (h_op : (op == 0) = true) (h_v : (v == 0) = true) (h_nm : nm.toList.isEmpty = true) (h_el : (((n2 + 1 : Nat) : Int) == 0) = false) :
  Calls Tryz.prog 148 #[.agg #[.int .i64 8, .int .i64 op, .int .u16 v, .string nm, .slice q1 n1 d1, .slice q2 (n2 + 1) d2, .bool has, .int .i64 p1, .int .i64 p2]] W fun e w' => e = .returned (.bool false) /\ Below W.heap.size W w' := by
 obtain ⟨W1, hW1⟩ : ∃ W1, W.alloc (.cells #[.int .i64 8, .int .i64 op, .int .u16 v, .string nm, .slice q1 n1 d1, .slice q2 (n2 + 1) d2, .bool has, .int .i64 p1, .int .i64 p2] 90) = W1 := ⟨_, rfl⟩
 have v1 : W1.heap[W.heap.size]? = some (.cells [.int .i64 8, .int .i64 op, .int .u16 v, .string nm, .slice q1 n1 d1, .slice q2 (n2 + 1) d2, .bool has, .int .i64 p1, .int .i64 p2].toArray 90 (0, 0)) := by rw [<- hW1]; exact heap_alloc_new W _
 have HB := hid (show Below W.heap.size W W1 by rw [<- hW1]; exact (Below.refl _ _).alloc (Nat.le_refl _) _)
 have x0 := S.cell_of W1 _ 0 _ 90 _ v1 rfl
 have x1 := S.cell_of W1 _ 1 _ 90 _ v1 rfl
 have x2 := S.cell_of W1 _ 2 _ 90 _ v1 rfl
 have x3 := S.cell_of W1 _ 3 _ 90 _ v1 rfl
 have x4 := S.cell_of W1 _ 4 _ 90 _ v1 rfl
 have x5 := S.cell_of W1 _ 5 _ 90 _ v1 rfl
 have x6 := S.cell_of W1 _ 6 _ 90 _ v1 rfl
 have f1 : ∀ i, W1.frozen? ⟨W.heap.size, i, none⟩ = false := fun i => S.frozen_of W1 W.heap.size i _ 90 v1
 have HV := hid v1
 clear v1
 go_enter Tryz.func148, Tryz.ntmps148
 go_wp2
 go_ret
 refine ⟨rfl, ?_⟩
 first | exact HB.out | exact HB.out.setCell (Nat.le_refl _) _ | exact (HB.out.setCell (p := ⟨W.heap.size, _, none⟩) (Nat.le_refl _) _).setCell (p := ⟨W.heap.size, _, none⟩) (Nat.le_refl _) _ | exact ((HB.out.setCell (p := ⟨W.heap.size, _, none⟩) (Nat.le_refl _) _).setCell (p := ⟨W.heap.size, _, none⟩) (Nat.le_refl _) _).setCell (p := ⟨W.heap.size, _, none⟩) (Nat.le_refl _) _
theorem us_8_4 (op v p1 p2 : Int) (nm : ByteArray) (n1 n2 d1 d2 : Nat) (q1 q2 : Option Addr) (has : Bool) (W : World) (h_op : (op == 0) = true) (h_v : (v == 0) = true) (h_nm : nm.toList.isEmpty = true) :
  Calls Tryz.prog 148 #[.agg #[.int .i64 8, .int .i64 op, .int .u16 v, .string nm, .slice q1 n1 d1, .slice q2 0 d2, .bool true, .int .i64 p1, .int .i64 p2]] W fun e w' => e = .returned (.bool false) /\ Below W.heap.size W w' := by
 obtain ⟨W1, hW1⟩ : ∃ W1, W.alloc (.cells #[.int .i64 8, .int .i64 op, .int .u16 v, .string nm, .slice q1 n1 d1, .slice q2 0 d2, .bool true, .int .i64 p1, .int .i64 p2] 90) = W1 := ⟨_, rfl⟩
 have v1 : W1.heap[W.heap.size]? = some (.cells [.int .i64 8, .int .i64 op, .int .u16 v, .string nm, .slice q1 n1 d1, .slice q2 0 d2, .bool true, .int .i64 p1, .int .i64 p2].toArray 90 (0, 0)) := by rw [<- hW1]; exact heap_alloc_new W _
 have HB := hid (show Below W.heap.size W W1 by rw [<- hW1]; exact (Below.refl _ _).alloc (Nat.le_refl _) _)
 have x0 := S.cell_of W1 _ 0 _ 90 _ v1 rfl
 have x1 := S.cell_of W1 _ 1 _ 90 _ v1 rfl
 have x2 := S.cell_of W1 _ 2 _ 90 _ v1 rfl
 have x3 := S.cell_of W1 _ 3 _ 90 _ v1 rfl
 have x4 := S.cell_of W1 _ 4 _ 90 _ v1 rfl
 have x5 := S.cell_of W1 _ 5 _ 90 _ v1 rfl
 have x6 := S.cell_of W1 _ 6 _ 90 _ v1 rfl
 have f1 : ∀ i, W1.frozen? ⟨W.heap.size, i, none⟩ = false := fun i => S.frozen_of W1 W.heap.size i _ 90 v1
 have HV := hid v1
 clear v1
 go_enter Tryz.func148, Tryz.ntmps148
 go_wp2
 go_ret
 refine ⟨rfl, ?_⟩
 first | exact HB.out | exact HB.out.setCell (Nat.le_refl _) _ | exact (HB.out.setCell (p := ⟨W.heap.size, _, none⟩) (Nat.le_refl _) _).setCell (p := ⟨W.heap.size, _, none⟩) (Nat.le_refl _) _ | exact ((HB.out.setCell (p := ⟨W.heap.size, _, none⟩) (Nat.le_refl _) _).setCell (p := ⟨W.heap.size, _, none⟩) (Nat.le_refl _) _).setCell (p := ⟨W.heap.size, _, none⟩) (Nat.le_refl _) _
theorem us_8_5 (op v p1 p2 : Int) (nm : ByteArray) (n1 n2 d1 d2 : Nat) (q1 q2 : Option Addr) (has : Bool) (W : World) (h_op : (op == 0) = true) (h_v : (v == 0) = true) (h_nm : nm.toList.isEmpty = true) :
  Calls Tryz.prog 148 #[.agg #[.int .i64 8, .int .i64 op, .int .u16 v, .string nm, .slice q1 n1 d1, .slice q2 0 d2, .bool false, .int .i64 p1, .int .i64 p2]] W fun e w' => e = .returned (.bool true) /\ Below W.heap.size W w' := by
 obtain ⟨W1, hW1⟩ : ∃ W1, W.alloc (.cells #[.int .i64 8, .int .i64 op, .int .u16 v, .string nm, .slice q1 n1 d1, .slice q2 0 d2, .bool false, .int .i64 p1, .int .i64 p2] 90) = W1 := ⟨_, rfl⟩
 have v1 : W1.heap[W.heap.size]? = some (.cells [.int .i64 8, .int .i64 op, .int .u16 v, .string nm, .slice q1 n1 d1, .slice q2 0 d2, .bool false, .int .i64 p1, .int .i64 p2].toArray 90 (0, 0)) := by rw [<- hW1]; exact heap_alloc_new W _
 have HB := hid (show Below W.heap.size W W1 by rw [<- hW1]; exact (Below.refl _ _).alloc (Nat.le_refl _) _)
 have x0 := S.cell_of W1 _ 0 _ 90 _ v1 rfl
 have x1 := S.cell_of W1 _ 1 _ 90 _ v1 rfl
 have x2 := S.cell_of W1 _ 2 _ 90 _ v1 rfl
 have x3 := S.cell_of W1 _ 3 _ 90 _ v1 rfl
 have x4 := S.cell_of W1 _ 4 _ 90 _ v1 rfl
 have x5 := S.cell_of W1 _ 5 _ 90 _ v1 rfl
 have x6 := S.cell_of W1 _ 6 _ 90 _ v1 rfl
 have f1 : ∀ i, W1.frozen? ⟨W.heap.size, i, none⟩ = false := fun i => S.frozen_of W1 W.heap.size i _ 90 v1
 have HV := hid v1
 clear v1
 go_enter Tryz.func148, Tryz.ntmps148
 go_wp2
 go_ret
 refine ⟨rfl, ?_⟩
 first | exact HB.out | exact HB.out.setCell (Nat.le_refl _) _ | exact (HB.out.setCell (p := ⟨W.heap.size, _, none⟩) (Nat.le_refl _) _).setCell (p := ⟨W.heap.size, _, none⟩) (Nat.le_refl _) _ | exact ((HB.out.setCell (p := ⟨W.heap.size, _, none⟩) (Nat.le_refl _) _).setCell (p := ⟨W.heap.size, _, none⟩) (Nat.le_refl _) _).setCell (p := ⟨W.heap.size, _, none⟩) (Nat.le_refl _) _
theorem us_9_0 (op v p1 p2 : Int) (nm : ByteArray) (n1 n2 d1 d2 : Nat) (q1 q2 : Option Addr) (has : Bool) (W : World) (h_op : (op == 0) = false) :
  Calls Tryz.prog 148 #[.agg #[.int .i64 9, .int .i64 op, .int .u16 v, .string nm, .slice q1 n1 d1, .slice q2 n2 d2, .bool has, .int .i64 p1, .int .i64 p2]] W fun e w' => e = .returned (.bool false) /\ Below W.heap.size W w' := by
 obtain ⟨W1, hW1⟩ : ∃ W1, W.alloc (.cells #[.int .i64 9, .int .i64 op, .int .u16 v, .string nm, .slice q1 n1 d1, .slice q2 n2 d2, .bool has, .int .i64 p1, .int .i64 p2] 90) = W1 := ⟨_, rfl⟩
 have v1 : W1.heap[W.heap.size]? = some (.cells [.int .i64 9, .int .i64 op, .int .u16 v, .string nm, .slice q1 n1 d1, .slice q2 n2 d2, .bool has, .int .i64 p1, .int .i64 p2].toArray 90 (0, 0)) := by rw [<- hW1]; exact heap_alloc_new W _
 have HB := hid (show Below W.heap.size W W1 by rw [<- hW1]; exact (Below.refl _ _).alloc (Nat.le_refl _) _)
 have x0 := S.cell_of W1 _ 0 _ 90 _ v1 rfl
 have x1 := S.cell_of W1 _ 1 _ 90 _ v1 rfl
 have x2 := S.cell_of W1 _ 2 _ 90 _ v1 rfl
 have x3 := S.cell_of W1 _ 3 _ 90 _ v1 rfl
 have x4 := S.cell_of W1 _ 4 _ 90 _ v1 rfl
 have x5 := S.cell_of W1 _ 5 _ 90 _ v1 rfl
 have x6 := S.cell_of W1 _ 6 _ 90 _ v1 rfl
 have f1 : ∀ i, W1.frozen? ⟨W.heap.size, i, none⟩ = false := fun i => S.frozen_of W1 W.heap.size i _ 90 v1
 have HV := hid v1
 clear v1
 go_enter Tryz.func148, Tryz.ntmps148
 go_wp2
 go_ret
 refine ⟨rfl, ?_⟩
 first | exact HB.out | exact HB.out.setCell (Nat.le_refl _) _ | exact (HB.out.setCell (p := ⟨W.heap.size, _, none⟩) (Nat.le_refl _) _).setCell (p := ⟨W.heap.size, _, none⟩) (Nat.le_refl _) _ | exact ((HB.out.setCell (p := ⟨W.heap.size, _, none⟩) (Nat.le_refl _) _).setCell (p := ⟨W.heap.size, _, none⟩) (Nat.le_refl _) _).setCell (p := ⟨W.heap.size, _, none⟩) (Nat.le_refl _) _
theorem us_9_1 (op v p1 p2 : Int) (nm : ByteArray) (n1 n2 d1 d2 : Nat) (q1 q2 : Option Addr) (has : Bool) (W : World) (h_op : (op == 0) = true) (h_v : (v == 0) = false) :
  Calls Tryz.prog 148 #[.agg #[.int .i64 9, .int .i64 op, .int .u16 v, .string nm, .slice q1 n1 d1, .slice q2 n2 d2, .bool has, .int .i64 p1, .int .i64 p2]] W fun e w' => e = .returned (.bool false) /\ Below W.heap.size W w' := by
 obtain ⟨W1, hW1⟩ : ∃ W1, W.alloc (.cells #[.int .i64 9, .int .i64 op, .int .u16 v, .string nm, .slice q1 n1 d1, .slice q2 n2 d2, .bool has, .int .i64 p1, .int .i64 p2] 90) = W1 := ⟨_, rfl⟩
 have v1 : W1.heap[W.heap.size]? = some (.cells [.int .i64 9, .int .i64 op, .int .u16 v, .string nm, .slice q1 n1 d1, .slice q2 n2 d2, .bool has, .int .i64 p1, .int .i64 p2].toArray 90 (0, 0)) := by rw [<- hW1]; exact heap_alloc_new W _
 have HB := hid (show Below W.heap.size W W1 by rw [<- hW1]; exact (Below.refl _ _).alloc (Nat.le_refl _) _)
 have x0 := S.cell_of W1 _ 0 _ 90 _ v1 rfl
 have x1 := S.cell_of W1 _ 1 _ 90 _ v1 rfl
 have x2 := S.cell_of W1 _ 2 _ 90 _ v1 rfl
 have x3 := S.cell_of W1 _ 3 _ 90 _ v1 rfl
 have x4 := S.cell_of W1 _ 4 _ 90 _ v1 rfl
 have x5 := S.cell_of W1 _ 5 _ 90 _ v1 rfl
 have x6 := S.cell_of W1 _ 6 _ 90 _ v1 rfl
 have f1 : ∀ i, W1.frozen? ⟨W.heap.size, i, none⟩ = false := fun i => S.frozen_of W1 W.heap.size i _ 90 v1
 have HV := hid v1
 clear v1
 go_enter Tryz.func148, Tryz.ntmps148
 go_wp2
 go_ret
 refine ⟨rfl, ?_⟩
 first | exact HB.out | exact HB.out.setCell (Nat.le_refl _) _ | exact (HB.out.setCell (p := ⟨W.heap.size, _, none⟩) (Nat.le_refl _) _).setCell (p := ⟨W.heap.size, _, none⟩) (Nat.le_refl _) _ | exact ((HB.out.setCell (p := ⟨W.heap.size, _, none⟩) (Nat.le_refl _) _).setCell (p := ⟨W.heap.size, _, none⟩) (Nat.le_refl _) _).setCell (p := ⟨W.heap.size, _, none⟩) (Nat.le_refl _) _
theorem us_9_2 (op v p1 p2 : Int) (nm : ByteArray) (n1 n2 d1 d2 : Nat) (q1 q2 : Option Addr) (has : Bool) (W : World) (h_op : (op == 0) = true) (h_v : (v == 0) = true) (h_nm : nm.toList.isEmpty = false) :
  Calls Tryz.prog 148 #[.agg #[.int .i64 9, .int .i64 op, .int .u16 v, .string nm, .slice q1 n1 d1, .slice q2 n2 d2, .bool has, .int .i64 p1, .int .i64 p2]] W fun e w' => e = .returned (.bool false) /\ Below W.heap.size W w' := by
 obtain ⟨W1, hW1⟩ : ∃ W1, W.alloc (.cells #[.int .i64 9, .int .i64 op, .int .u16 v, .string nm, .slice q1 n1 d1, .slice q2 n2 d2, .bool has, .int .i64 p1, .int .i64 p2] 90) = W1 := ⟨_, rfl⟩
 have v1 : W1.heap[W.heap.size]? = some (.cells [.int .i64 9, .int .i64 op, .int .u16 v, .string nm, .slice q1 n1 d1, .slice q2 n2 d2, .bool has, .int .i64 p1, .int .i64 p2].toArray 90 (0, 0)) := by rw [<- hW1]; exact heap_alloc_new W _
 have HB := hid (show Below W.heap.size W W1 by rw [<- hW1]; exact (Below.refl _ _).alloc (Nat.le_refl _) _)
 have x0 := S.cell_of W1 _ 0 _ 90 _ v1 rfl
 have x1 := S.cell_of W1 _ 1 _ 90 _ v1 rfl
 have x2 := S.cell_of W1 _ 2 _ 90 _ v1 rfl
 have x3 := S.cell_of W1 _ 3 _ 90 _ v1 rfl
 have x4 := S.cell_of W1 _ 4 _ 90 _ v1 rfl
 have x5 := S.cell_of W1 _ 5 _ 90 _ v1 rfl
 have x6 := S.cell_of W1 _ 6 _ 90 _ v1 rfl
 have f1 : ∀ i, W1.frozen? ⟨W.heap.size, i, none⟩ = false := fun i => S.frozen_of W1 W.heap.size i _ 90 v1
 have HV := hid v1
 clear v1
 go_enter Tryz.func148, Tryz.ntmps148
 go_wp2
 go_ret
 refine ⟨rfl, ?_⟩
 first | exact HB.out | exact HB.out.setCell (Nat.le_refl _) _ | exact (HB.out.setCell (p := ⟨W.heap.size, _, none⟩) (Nat.le_refl _) _).setCell (p := ⟨W.heap.size, _, none⟩) (Nat.le_refl _) _ | exact ((HB.out.setCell (p := ⟨W.heap.size, _, none⟩) (Nat.le_refl _) _).setCell (p := ⟨W.heap.size, _, none⟩) (Nat.le_refl _) _).setCell (p := ⟨W.heap.size, _, none⟩) (Nat.le_refl _) _
theorem us_9_3 (op v p1 p2 : Int) (nm : ByteArray) (n1 n2 d1 d2 : Nat) (q1 q2 : Option Addr) (has : Bool) (W : World) (h_op : (op == 0) = true) (h_v : (v == 0) = true) (h_nm : nm.toList.isEmpty = true) (h_th : (((n1 + 1 : Nat) : Int) == 0) = false) :
  Calls Tryz.prog 148 #[.agg #[.int .i64 9, .int .i64 op, .int .u16 v, .string nm, .slice q1 (n1 + 1) d1, .slice q2 n2 d2, .bool has, .int .i64 p1, .int .i64 p2]] W fun e w' => e = .returned (.bool false) /\ Below W.heap.size W w' := by
 obtain ⟨W1, hW1⟩ : ∃ W1, W.alloc (.cells #[.int .i64 9, .int .i64 op, .int .u16 v, .string nm, .slice q1 (n1 + 1) d1, .slice q2 n2 d2, .bool has, .int .i64 p1, .int .i64 p2] 90) = W1 := ⟨_, rfl⟩
 have v1 : W1.heap[W.heap.size]? = some (.cells [.int .i64 9, .int .i64 op, .int .u16 v, .string nm, .slice q1 (n1 + 1) d1, .slice q2 n2 d2, .bool has, .int .i64 p1, .int .i64 p2].toArray 90 (0, 0)) := by rw [<- hW1]; exact heap_alloc_new W _
 have HB := hid (show Below W.heap.size W W1 by rw [<- hW1]; exact (Below.refl _ _).alloc (Nat.le_refl _) _)
 have x0 := S.cell_of W1 _ 0 _ 90 _ v1 rfl
 have x1 := S.cell_of W1 _ 1 _ 90 _ v1 rfl
 have x2 := S.cell_of W1 _ 2 _ 90 _ v1 rfl
 have x3 := S.cell_of W1 _ 3 _ 90 _ v1 rfl
 have x4 := S.cell_of W1 _ 4 _ 90 _ v1 rfl
 have x5 := S.cell_of W1 _ 5 _ 90 _ v1 rfl
 have x6 := S.cell_of W1 _ 6 _ 90 _ v1 rfl
 have f1 : ∀ i, W1.frozen? ⟨W.heap.size, i, none⟩ = false := fun i => S.frozen_of W1 W.heap.size i _ 90 v1
 have HV := hid v1
 clear v1
 go_enter Tryz.func148, Tryz.ntmps148
 go_wp2
 go_ret
 refine ⟨rfl, ?_⟩
 first | exact HB.out | exact HB.out.setCell (Nat.le_refl _) _ | exact (HB.out.setCell (p := ⟨W.heap.size, _, none⟩) (Nat.le_refl _) _).setCell (p := ⟨W.heap.size, _, none⟩) (Nat.le_refl _) _ | exact ((HB.out.setCell (p := ⟨W.heap.size, _, none⟩) (Nat.le_refl _) _).setCell (p := ⟨W.heap.size, _, none⟩) (Nat.le_refl _) _).setCell (p := ⟨W.heap.size, _, none⟩) (Nat.le_refl _) _
theorem us_9_4 (op v p1 p2 : Int) (nm : ByteArray) (n1 n2 d1 d2 : Nat) (q1 q2 : Option Addr) (has : Bool) (W : World) (h_op : (op == 0) = true) (h_v : (v == 0) = true) (h_nm : nm.toList.isEmpty = true) (h_el : (((n2 + 1 : Nat) : Int) == 0) = false) :
  Calls Tryz.prog 148 #[.agg #[.int .i64 9, .int .i64 op, .int .u16 v, .string nm, .slice q1 0 d1, .slice q2 (n2 + 1) d2, .bool has, .int .i64 p1, .int .i64 p2]] W fun e w' => e = .returned (.bool false) /\ Below W.heap.size W w' := by
 obtain ⟨W1, hW1⟩ : ∃ W1, W.alloc (.cells #[.int .i64 9, .int .i64 op, .int .u16 v, .string nm, .slice q1 0 d1, .slice q2 (n2 + 1) d2, .bool has, .int .i64 p1, .int .i64 p2] 90) = W1 := ⟨_, rfl⟩
 have v1 : W1.heap[W.heap.size]? = some (.cells [.int .i64 9, .int .i64 op, .int .u16 v, .string nm, .slice q1 0 d1, .slice q2 (n2 + 1) d2, .bool has, .int .i64 p1, .int .i64 p2].toArray 90 (0, 0)) := by rw [<- hW1]; exact heap_alloc_new W _
 have HB := hid (show Below W.heap.size W W1 by rw [<- hW1]; exact (Below.refl _ _).alloc (Nat.le_refl _) _)
 have x0 := S.cell_of W1 _ 0 _ 90 _ v1 rfl
 have x1 := S.cell_of W1 _ 1 _ 90 _ v1 rfl
 have x2 := S.cell_of W1 _ 2 _ 90 _ v1 rfl
 have x3 := S.cell_of W1 _ 3 _ 90 _ v1 rfl
 have x4 := S.cell_of W1 _ 4 _ 90 _ v1 rfl
 have x5 := S.cell_of W1 _ 5 _ 90 _ v1 rfl
 have x6 := S.cell_of W1 _ 6 _ 90 _ v1 rfl
 have f1 : ∀ i, W1.frozen? ⟨W.heap.size, i, none⟩ = false := fun i => S.frozen_of W1 W.heap.size i _ 90 v1
 have HV := hid v1
 clear v1
 go_enter Tryz.func148, Tryz.ntmps148
 go_wp2
 go_ret
 refine ⟨rfl, ?_⟩
 first | exact HB.out | exact HB.out.setCell (Nat.le_refl _) _ | exact (HB.out.setCell (p := ⟨W.heap.size, _, none⟩) (Nat.le_refl _) _).setCell (p := ⟨W.heap.size, _, none⟩) (Nat.le_refl _) _ | exact ((HB.out.setCell (p := ⟨W.heap.size, _, none⟩) (Nat.le_refl _) _).setCell (p := ⟨W.heap.size, _, none⟩) (Nat.le_refl _) _).setCell (p := ⟨W.heap.size, _, none⟩) (Nat.le_refl _) _
theorem us_9_5 (op v p1 p2 : Int) (nm : ByteArray) (n1 n2 d1 d2 : Nat) (q1 q2 : Option Addr) (has : Bool) (W : World) (h_op : (op == 0) = true) (h_v : (v == 0) = true) (h_nm : nm.toList.isEmpty = true) :
  Calls Tryz.prog 148 #[.agg #[.int .i64 9, .int .i64 op, .int .u16 v, .string nm, .slice q1 0 d1, .slice q2 0 d2, .bool true, .int .i64 p1, .int .i64 p2]] W fun e w' => e = .returned (.bool false) /\ Below W.heap.size W w' := by
 obtain ⟨W1, hW1⟩ : ∃ W1, W.alloc (.cells #[.int .i64 9, .int .i64 op, .int .u16 v, .string nm, .slice q1 0 d1, .slice q2 0 d2, .bool true, .int .i64 p1, .int .i64 p2] 90) = W1 := ⟨_, rfl⟩
 have v1 : W1.heap[W.heap.size]? = some (.cells [.int .i64 9, .int .i64 op, .int .u16 v, .string nm, .slice q1 0 d1, .slice q2 0 d2, .bool true, .int .i64 p1, .int .i64 p2].toArray 90 (0, 0)) := by rw [<- hW1]; exact heap_alloc_new W _
 have HB := hid (show Below W.heap.size W W1 by rw [<- hW1]; exact (Below.refl _ _).alloc (Nat.le_refl _) _)
 have x0 := S.cell_of W1 _ 0 _ 90 _ v1 rfl
 have x1 := S.cell_of W1 _ 1 _ 90 _ v1 rfl
 have x2 := S.cell_of W1 _ 2 _ 90 _ v1 rfl
 have x3 := S.cell_of W1 _ 3 _ 90 _ v1 rfl
 have x4 := S.cell_of W1 _ 4 _ 90 _ v1 rfl
 have x5 := S.cell_of W1 _ 5 _ 90 _ v1 rfl
 have x6 := S.cell_of W1 _ 6 _ 90 _ v1 rfl
 have f1 : ∀ i, W1.frozen? ⟨W.heap.size, i, none⟩ = false := fun i => S.frozen_of W1 W.heap.size i _ 90 v1
 have HV := hid v1
 clear v1
 go_enter Tryz.func148, Tryz.ntmps148
 go_wp2
 go_ret
 refine ⟨rfl, ?_⟩
 first | exact HB.out | exact HB.out.setCell (Nat.le_refl _) _ | exact (HB.out.setCell (p := ⟨W.heap.size, _, none⟩) (Nat.le_refl _) _).setCell (p := ⟨W.heap.size, _, none⟩) (Nat.le_refl _) _ | exact ((HB.out.setCell (p := ⟨W.heap.size, _, none⟩) (Nat.le_refl _) _).setCell (p := ⟨W.heap.size, _, none⟩) (Nat.le_refl _) _).setCell (p := ⟨W.heap.size, _, none⟩) (Nat.le_refl _) _
theorem us_9_6 (op v p1 p2 : Int) (nm : ByteArray) (n1 n2 d1 d2 : Nat) (q1 q2 : Option Addr) (has : Bool) (W : World) (h_op : (op == 0) = true) (h_v : (v == 0) = true) (h_nm : nm.toList.isEmpty = true) :
  Calls Tryz.prog 148 #[.agg #[.int .i64 9, .int .i64 op, .int .u16 v, .string nm, .slice q1 0 d1, .slice q2 0 d2, .bool false, .int .i64 p1, .int .i64 p2]] W fun e w' => e = .returned (.bool true) /\ Below W.heap.size W w' := by
 obtain ⟨W1, hW1⟩ : ∃ W1, W.alloc (.cells #[.int .i64 9, .int .i64 op, .int .u16 v, .string nm, .slice q1 0 d1, .slice q2 0 d2, .bool false, .int .i64 p1, .int .i64 p2] 90) = W1 := ⟨_, rfl⟩
 have v1 : W1.heap[W.heap.size]? = some (.cells [.int .i64 9, .int .i64 op, .int .u16 v, .string nm, .slice q1 0 d1, .slice q2 0 d2, .bool false, .int .i64 p1, .int .i64 p2].toArray 90 (0, 0)) := by rw [<- hW1]; exact heap_alloc_new W _
 have HB := hid (show Below W.heap.size W W1 by rw [<- hW1]; exact (Below.refl _ _).alloc (Nat.le_refl _) _)
 have x0 := S.cell_of W1 _ 0 _ 90 _ v1 rfl
 have x1 := S.cell_of W1 _ 1 _ 90 _ v1 rfl
 have x2 := S.cell_of W1 _ 2 _ 90 _ v1 rfl
 have x3 := S.cell_of W1 _ 3 _ 90 _ v1 rfl
 have x4 := S.cell_of W1 _ 4 _ 90 _ v1 rfl
 have x5 := S.cell_of W1 _ 5 _ 90 _ v1 rfl
 have x6 := S.cell_of W1 _ 6 _ 90 _ v1 rfl
 have f1 : ∀ i, W1.frozen? ⟨W.heap.size, i, none⟩ = false := fun i => S.frozen_of W1 W.heap.size i _ 90 v1
 have HV := hid v1
 clear v1
 go_enter Tryz.func148, Tryz.ntmps148
 go_wp2
 go_ret
 refine ⟨rfl, ?_⟩
 first | exact HB.out | exact HB.out.setCell (Nat.le_refl _) _ | exact (HB.out.setCell (p := ⟨W.heap.size, _, none⟩) (Nat.le_refl _) _).setCell (p := ⟨W.heap.size, _, none⟩) (Nat.le_refl _) _ | exact ((HB.out.setCell (p := ⟨W.heap.size, _, none⟩) (Nat.le_refl _) _).setCell (p := ⟨W.heap.size, _, none⟩) (Nat.le_refl _) _).setCell (p := ⟨W.heap.size, _, none⟩) (Nat.le_refl _) _
end Go.Proofs.YtoemoiehjdmheaaGreat.R
