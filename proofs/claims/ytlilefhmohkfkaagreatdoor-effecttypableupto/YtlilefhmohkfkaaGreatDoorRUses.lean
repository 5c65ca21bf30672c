import Derived.Test.YtlilefhmohkfkaaGreatDoorRMath
import Derived.Test.YtlilefhmohkfkaaGreatDoorSKit
import Derived.Laws.Strings
namespace Go.Proofs.YtlilefhmohkfkaaGreatDoor.R
open Go.RowKit
open Go.Proofs
open Go.Proofs.YtlilefhmohkfkaaGreatDoor.Y (Nd Df Ps ndc dfc hid)
set_option linter.unusedVariables false
set_option linter.unusedSimpArgs false
set_option maxHeartbeats 2000000
set_option maxRecDepth 100000
theorem toList_inj {a b : ByteArray} (h : a.toList = b.toList) : a = b := by
 rw [ByteArray.toList_eq, ByteArray.toList_eq] at h
 exact ByteArray.ext (by simpa using h)
theorem box_node (n : Nd) (tv ev : Value) (W : World) : ∃ W1, W.alloc (.cells #[.int .i64 n.k, .int .i64 n.op, .int .u16 n.v, .string n.nm, tv, ev, .bool n.has, .int .i64 n.p.1, .int .i64 n.p.2] 30) = W1 /\ Below W.heap.size W W1 /\ W1.heap[W.heap.size]? = some (.cells (ndc n tv ev).toArray 30 (0, 0)) :=
 ⟨_, rfl, (Below.refl _ _).alloc (Nat.le_refl _) _, heap_alloc_new W _⟩
theorem box_def (n : Df) (bv : Value) (W : World) : ∃ W1, W.alloc (.cells #[.int .i64 n.k, .string n.nm, .int .u16 n.v, bv, .int .i64 n.p.1, .int .i64 n.p.2] 27) = W1 /\ Below W.heap.size W W1 /\ W1.heap[W.heap.size]? = some (.cells (dfc n bv).toArray 27 (0, 0)) :=
 ⟨_, rfl, (Below.refl _ _).alloc (Nat.le_refl _) _, heap_alloc_new W _⟩
theorem isDo_any (n : Nd) (q1 q2 : Option Addr) (a1 d1 a2 d2 : Nat) (W : World) :
  Calls Tryz.prog 98 #[.agg (ndc n (.slice q1 a1 d1) (.slice q2 a2 d2)).toArray] W fun e w' => e = .returned (.bool (n.k == 8)) /\ Below W.heap.size W w' := by
 obtain ⟨W1, hW1, hB, hv⟩ := box_node n (.slice q1 a1 d1) (.slice q2 a2 d2) W
 have x0 := S.cell_of W1 _ 0 _ 30 _ hv rfl
 unfold ndc
 have HB := hid hB
 clear hv hB
 go_enter Tryz.func98, Tryz.ntmps98
 go_wp2
 go_ret
 exact ⟨rfl, HB.out⟩
theorem isStructure_any (n : Nd) (q1 q2 : Option Addr) (a1 d1 a2 d2 : Nat) (W : World) :
  Calls Tryz.prog 97 #[.agg (ndc n (.slice q1 a1 d1) (.slice q2 a2 d2)).toArray] W fun e w' => e = .returned (.bool (strc n.k)) /\ Below W.heap.size W w' := by
 obtain ⟨W1, hW1, hB, hv⟩ := box_node n (.slice q1 a1 d1) (.slice q2 a2 d2) W
 have x0 := S.cell_of W1 _ 0 _ 30 _ hv rfl
 unfold ndc strc
 have HB := hid hB
 clear hv hB
 by_cases c : 4 <= n.k
 ·have d : decide (4 <= n.k) = true := decide_eq_true c
  rw [d, Bool.true_and]
  go_enter Tryz.func97, Tryz.ntmps97
  go_wp2
  go_ret
  exact ⟨rfl, HB.out⟩
 ·have d : decide (4 <= n.k) = false := decide_eq_false c
  rw [d, Bool.false_and]
  go_enter Tryz.func97, Tryz.ntmps97
  go_wp2
  go_ret
  exact ⟨rfl, HB.out⟩
theorem isMain_any (n : Df) (q : Option Addr) (a d : Nat) (W : World) :
  Calls Tryz.prog 45 #[.agg (dfc n (.slice q a d)).toArray] W fun e w' => e = .returned (.bool (isMain n)) /\ Below W.heap.size W w' := by
 obtain ⟨W1, hW1, hB, hv⟩ := box_def n (.slice q a d) W
 have x0 := S.cell_of W1 _ 0 _ 27 _ hv rfl
 have x1 := S.cell_of W1 _ 1 _ 27 _ hv rfl
 unfold dfc isMain
 have HB := hid hB
 clear hv hB
 by_cases c : n.k = 1
 ·have c0 : (n.k == 1) = true := by simpa using c
  rw [c0, Bool.true_and]
  clear c
  by_cases m : n.nm = ⟨#[109, 97, 105, 110]⟩
  ·have m0 : decide (n.nm = ⟨#[109, 97, 105, 110]⟩) = true := decide_eq_true m
   rw [m0]
   rw [m] at x1 hW1 ⊢
   clear m m0
   go_enter Tryz.func45, Tryz.ntmps45
   go_wp2
   go_ret
   exact ⟨by simp, HB.out⟩
  ·have m0 : decide (n.nm = ⟨#[109, 97, 105, 110]⟩) = false := decide_eq_false m
   have m1 : ¬ n.nm.toList = (⟨#[109, 97, 105, 110]⟩ : ByteArray).toList := fun c => m (toList_inj c)
   rw [m0]
   go_enter Tryz.func45, Tryz.ntmps45
   go_wp2
   go_ret
   exact ⟨by first | rfl | (simp [m1]; done) | (simpa using m1) | (simpa using m) | (simp [ByteArray.toList_eq] at m1 ⊢; exact m1), HB.out⟩
 ·have c0 : (n.k == 1) = false := by simpa using c
  rw [c0, Bool.false_and]
  go_enter Tryz.func45, Tryz.ntmps45
  go_wp2
  go_ret
  exact ⟨by simp, HB.out⟩
theorem nal {W : World} {o : Obj} : Below W.heap.size W (W.alloc o) := (Below.refl _ _).alloc (Nat.le_refl _) _
theorem nst {W X : World} {i : Nat} {v : Value} (h : Below W.heap.size W X) : Below W.heap.size W (X.setCell ⟨W.heap.size, i, none⟩ v) := h.setCell (Nat.le_refl _) _
theorem nbx (k op v : Int) (nm : ByteArray) (q1 : Option Addr) (n1 d1 : Nat) (q2 : Option Addr) (n2 d2 : Nat) (has : Bool) (p1 p2 : Int) (W : World) : ∃ W1, W.alloc (.cells #[.int .i64 k, .int .i64 op, .int .u16 v, .string nm, .slice q1 n1 d1, .slice q2 n2 d2, .bool has, .int .i64 p1, .int .i64 p2] 30) = W1 /\ Y.Hd (Below W.heap.size W W1) /\ W1.cell? ⟨W.heap.size, 0, none⟩ = some (.int .i64 k) /\ W1.cell? ⟨W.heap.size, 1, none⟩ = some (.int .i64 op) /\ W1.cell? ⟨W.heap.size, 2, none⟩ = some (.int .u16 v) /\ W1.cell? ⟨W.heap.size, 3, none⟩ = some (.string nm) /\ W1.cell? ⟨W.heap.size, 4, none⟩ = some (.slice q1 n1 d1) /\ W1.cell? ⟨W.heap.size, 5, none⟩ = some (.slice q2 n2 d2) /\ W1.cell? ⟨W.heap.size, 6, none⟩ = some (.bool has) /\ ∀ i, W1.frozen? ⟨W.heap.size, i, none⟩ = false := by
 have v1 := heap_alloc_new W (.cells [.int .i64 k, .int .i64 op, .int .u16 v, .string nm, .slice q1 n1 d1, .slice q2 n2 d2, .bool has, .int .i64 p1, .int .i64 p2].toArray 30)
 exact ⟨_, rfl, hid nal, S.cell_of _ _ 0 _ 30 _ v1 rfl, S.cell_of _ _ 1 _ 30 _ v1 rfl, S.cell_of _ _ 2 _ 30 _ v1 rfl, S.cell_of _ _ 3 _ 30 _ v1 rfl, S.cell_of _ _ 4 _ 30 _ v1 rfl, S.cell_of _ _ 5 _ 30 _ v1 rfl, S.cell_of _ _ 6 _ 30 _ v1 rfl, fun i => S.frozen_of _ W.heap.size i _ 30 v1⟩
def NF (f : Nat) (k op v : Int) (nm : ByteArray) (q1 : Option Addr) (n1 d1 : Nat) (q2 : Option Addr) (n2 d2 : Nat) (has : Bool) (p1 p2 : Int) (W : World) (b : Bool) : Prop := Calls Tryz.prog f #[.agg #[.int .i64 k, .int .i64 op, .int .u16 v, .string nm, .slice q1 n1 d1, .slice q2 n2 d2, .bool has, .int .i64 p1, .int .i64 p2]] W fun e w' => e = .returned (.bool b) /\ Below W.heap.size W w'
theorem us_1_0 (op v p1 p2 : Int) (nm : ByteArray) (n1 n2 d1 d2 : Nat) (q1 q2 : Option Addr) (has : Bool) (W : World) (h_v : (v == 0) = false) :
 R.NF 95 1 op v nm q1 n1 d1 q2 n2 d2 has p1 p2 W false := by
 unfold R.NF
 obtain ⟨W1, hW1, HB, x0, x1, x2, x3, x4, x5, x6, f1⟩ := R.nbx 1 op v nm q1 n1 d1 q2 n2 d2 has p1 p2 W
 go_enter Tryz.func95, Tryz.ntmps95
 go_wp2
 go_ret
 exact ⟨rfl, by repeat (first | exact HB.out | exact R.nal | apply R.nst)⟩
theorem us_1_1 (op v p1 p2 : Int) (nm : ByteArray) (n1 n2 d1 d2 : Nat) (q1 q2 : Option Addr) (has : Bool) (W : World) (h_v : (v == 0) = true) (h_nm : nm.toList.isEmpty = false) :
 R.NF 95 1 op v nm q1 n1 d1 q2 n2 d2 has p1 p2 W false := by
 unfold R.NF
 obtain ⟨W1, hW1, HB, x0, x1, x2, x3, x4, x5, x6, f1⟩ := R.nbx 1 op v nm q1 n1 d1 q2 n2 d2 has p1 p2 W
 go_enter Tryz.func95, Tryz.ntmps95
 go_wp2
 go_ret
 exact ⟨rfl, by repeat (first | exact HB.out | exact R.nal | apply R.nst)⟩
theorem us_1_2 (op v p1 p2 : Int) (nm : ByteArray) (n1 n2 d1 d2 : Nat) (q1 q2 : Option Addr) (has : Bool) (W : World) (h_v : (v == 0) = true) (h_nm : nm.toList.isEmpty = true) (h_th : (((n1 + 1 : Nat) : Int) == 0) = false) :
 R.NF 95 1 op v nm q1 (n1 + 1) d1 q2 n2 d2 has p1 p2 W false := by
 unfold R.NF
 obtain ⟨W1, hW1, HB, x0, x1, x2, x3, x4, x5, x6, f1⟩ := R.nbx 1 op v nm q1 (n1 + 1) d1 q2 n2 d2 has p1 p2 W
 go_enter Tryz.func95, Tryz.ntmps95
 go_wp2
 go_ret
 exact ⟨rfl, by repeat (first | exact HB.out | exact R.nal | apply R.nst)⟩
theorem us_1_3 (op v p1 p2 : Int) (nm : ByteArray) (n1 n2 d1 d2 : Nat) (q1 q2 : Option Addr) (has : Bool) (W : World) (h_v : (v == 0) = true) (h_nm : nm.toList.isEmpty = true) (h_el : (((n2 + 1 : Nat) : Int) == 0) = false) :
 R.NF 95 1 op v nm q1 0 d1 q2 (n2 + 1) d2 has p1 p2 W false := by
 unfold R.NF
 obtain ⟨W1, hW1, HB, x0, x1, x2, x3, x4, x5, x6, f1⟩ := R.nbx 1 op v nm q1 0 d1 q2 (n2 + 1) d2 has p1 p2 W
 go_enter Tryz.func95, Tryz.ntmps95
 go_wp2
 go_ret
 exact ⟨rfl, by repeat (first | exact HB.out | exact R.nal | apply R.nst)⟩
theorem us_1_4 (op v p1 p2 : Int) (nm : ByteArray) (n1 n2 d1 d2 : Nat) (q1 q2 : Option Addr) (has : Bool) (W : World) (h_v : (v == 0) = true) (h_nm : nm.toList.isEmpty = true) :
 R.NF 95 1 op v nm q1 0 d1 q2 0 d2 true p1 p2 W false := by
 unfold R.NF
 obtain ⟨W1, hW1, HB, x0, x1, x2, x3, x4, x5, x6, f1⟩ := R.nbx 1 op v nm q1 0 d1 q2 0 d2 true p1 p2 W
 go_enter Tryz.func95, Tryz.ntmps95
 go_wp2
 go_ret
 exact ⟨rfl, by repeat (first | exact HB.out | exact R.nal | apply R.nst)⟩
theorem us_1_5 (op v p1 p2 : Int) (nm : ByteArray) (n1 n2 d1 d2 : Nat) (q1 q2 : Option Addr) (has : Bool) (W : World) (h_v : (v == 0) = true) (h_nm : nm.toList.isEmpty = true) :
 R.NF 95 1 op v nm q1 0 d1 q2 0 d2 false p1 p2 W true := by
 unfold R.NF
 obtain ⟨W1, hW1, HB, x0, x1, x2, x3, x4, x5, x6, f1⟩ := R.nbx 1 op v nm q1 0 d1 q2 0 d2 false p1 p2 W
 go_enter Tryz.func95, Tryz.ntmps95
 go_wp2
 go_ret
 exact ⟨rfl, by repeat (first | exact HB.out | exact R.nal | apply R.nst)⟩
theorem us_2_0 (op v p1 p2 : Int) (nm : ByteArray) (n1 n2 d1 d2 : Nat) (q1 q2 : Option Addr) (has : Bool) (W : World) (h_op : (op == 0) = false) :
 R.NF 95 2 op v nm q1 n1 d1 q2 n2 d2 has p1 p2 W false := by
 unfold R.NF
 obtain ⟨W1, hW1, HB, x0, x1, x2, x3, x4, x5, x6, f1⟩ := R.nbx 2 op v nm q1 n1 d1 q2 n2 d2 has p1 p2 W
 go_enter Tryz.func95, Tryz.ntmps95
 go_wp2
 go_ret
 exact ⟨rfl, by repeat (first | exact HB.out | exact R.nal | apply R.nst)⟩
theorem us_2_1 (op v p1 p2 : Int) (nm : ByteArray) (n1 n2 d1 d2 : Nat) (q1 q2 : Option Addr) (has : Bool) (W : World) (h_op : (op == 0) = true) (h_nm : nm.toList.isEmpty = false) :
 R.NF 95 2 op v nm q1 n1 d1 q2 n2 d2 has p1 p2 W false := by
 unfold R.NF
 obtain ⟨W1, hW1, HB, x0, x1, x2, x3, x4, x5, x6, f1⟩ := R.nbx 2 op v nm q1 n1 d1 q2 n2 d2 has p1 p2 W
 go_enter Tryz.func95, Tryz.ntmps95
 go_wp2
 go_ret
 exact ⟨rfl, by repeat (first | exact HB.out | exact R.nal | apply R.nst)⟩
theorem us_2_2 (op v p1 p2 : Int) (nm : ByteArray) (n1 n2 d1 d2 : Nat) (q1 q2 : Option Addr) (has : Bool) (W : World) (h_op : (op == 0) = true) (h_nm : nm.toList.isEmpty = true) (h_th : (((n1 + 1 : Nat) : Int) == 0) = false) :
 R.NF 95 2 op v nm q1 (n1 + 1) d1 q2 n2 d2 has p1 p2 W false := by
 unfold R.NF
 obtain ⟨W1, hW1, HB, x0, x1, x2, x3, x4, x5, x6, f1⟩ := R.nbx 2 op v nm q1 (n1 + 1) d1 q2 n2 d2 has p1 p2 W
 go_enter Tryz.func95, Tryz.ntmps95
 go_wp2
 go_ret
 exact ⟨rfl, by repeat (first | exact HB.out | exact R.nal | apply R.nst)⟩
theorem us_2_3 (op v p1 p2 : Int) (nm : ByteArray) (n1 n2 d1 d2 : Nat) (q1 q2 : Option Addr) (has : Bool) (W : World) (h_op : (op == 0) = true) (h_nm : nm.toList.isEmpty = true) (h_el : (((n2 + 1 : Nat) : Int) == 0) = false) :
 R.NF 95 2 op v nm q1 0 d1 q2 (n2 + 1) d2 has p1 p2 W false := by
 unfold R.NF
 obtain ⟨W1, hW1, HB, x0, x1, x2, x3, x4, x5, x6, f1⟩ := R.nbx 2 op v nm q1 0 d1 q2 (n2 + 1) d2 has p1 p2 W
 go_enter Tryz.func95, Tryz.ntmps95
 go_wp2
 go_ret
 exact ⟨rfl, by repeat (first | exact HB.out | exact R.nal | apply R.nst)⟩
theorem us_2_4 (op v p1 p2 : Int) (nm : ByteArray) (n1 n2 d1 d2 : Nat) (q1 q2 : Option Addr) (has : Bool) (W : World) (h_op : (op == 0) = true) (h_nm : nm.toList.isEmpty = true) :
 R.NF 95 2 op v nm q1 0 d1 q2 0 d2 true p1 p2 W false := by
 unfold R.NF
 obtain ⟨W1, hW1, HB, x0, x1, x2, x3, x4, x5, x6, f1⟩ := R.nbx 2 op v nm q1 0 d1 q2 0 d2 true p1 p2 W
 go_enter Tryz.func95, Tryz.ntmps95
 go_wp2
 go_ret
 exact ⟨rfl, by repeat (first | exact HB.out | exact R.nal | apply R.nst)⟩
theorem us_2_5 (op v p1 p2 : Int) (nm : ByteArray) (n1 n2 d1 d2 : Nat) (q1 q2 : Option Addr) (has : Bool) (W : World) (h_op : (op == 0) = true) (h_nm : nm.toList.isEmpty = true) :
 R.NF 95 2 op v nm q1 0 d1 q2 0 d2 false p1 p2 W true := by
 unfold R.NF
 obtain ⟨W1, hW1, HB, x0, x1, x2, x3, x4, x5, x6, f1⟩ := R.nbx 2 op v nm q1 0 d1 q2 0 d2 false p1 p2 W
 go_enter Tryz.func95, Tryz.ntmps95
 go_wp2
 go_ret
 exact ⟨rfl, by repeat (first | exact HB.out | exact R.nal | apply R.nst)⟩
theorem us_3_0 (op v p1 p2 : Int) (nm : ByteArray) (n1 n2 d1 d2 : Nat) (q1 q2 : Option Addr) (has : Bool) (W : World) (h_op : (op == 0) = false) :
 R.NF 95 3 op v nm q1 n1 d1 q2 n2 d2 has p1 p2 W false := by
 unfold R.NF
 obtain ⟨W1, hW1, HB, x0, x1, x2, x3, x4, x5, x6, f1⟩ := R.nbx 3 op v nm q1 n1 d1 q2 n2 d2 has p1 p2 W
 go_enter Tryz.func95, Tryz.ntmps95
 go_wp2
 go_ret
 exact ⟨rfl, by repeat (first | exact HB.out | exact R.nal | apply R.nst)⟩
theorem us_3_1 (op v p1 p2 : Int) (nm : ByteArray) (n1 n2 d1 d2 : Nat) (q1 q2 : Option Addr) (has : Bool) (W : World) (h_op : (op == 0) = true) (h_v : (v == 0) = false) :
 R.NF 95 3 op v nm q1 n1 d1 q2 n2 d2 has p1 p2 W false := by
 unfold R.NF
 obtain ⟨W1, hW1, HB, x0, x1, x2, x3, x4, x5, x6, f1⟩ := R.nbx 3 op v nm q1 n1 d1 q2 n2 d2 has p1 p2 W
 go_enter Tryz.func95, Tryz.ntmps95
 go_wp2
 go_ret
 exact ⟨rfl, by repeat (first | exact HB.out | exact R.nal | apply R.nst)⟩
theorem us_3_2 (op v p1 p2 : Int) (nm : ByteArray) (n1 n2 d1 d2 : Nat) (q1 q2 : Option Addr) (has : Bool) (W : World) (h_op : (op == 0) = true) (h_v : (v == 0) = true) (h_th : (((n1 + 1 : Nat) : Int) == 0) = false) :
 R.NF 95 3 op v nm q1 (n1 + 1) d1 q2 n2 d2 has p1 p2 W false := by
 unfold R.NF
 obtain ⟨W1, hW1, HB, x0, x1, x2, x3, x4, x5, x6, f1⟩ := R.nbx 3 op v nm q1 (n1 + 1) d1 q2 n2 d2 has p1 p2 W
 go_enter Tryz.func95, Tryz.ntmps95
 go_wp2
 go_ret
 exact ⟨rfl, by repeat (first | exact HB.out | exact R.nal | apply R.nst)⟩
theorem us_3_3 (op v p1 p2 : Int) (nm : ByteArray) (n1 n2 d1 d2 : Nat) (q1 q2 : Option Addr) (has : Bool) (W : World) (h_op : (op == 0) = true) (h_v : (v == 0) = true) (h_el : (((n2 + 1 : Nat) : Int) == 0) = false) :
 R.NF 95 3 op v nm q1 0 d1 q2 (n2 + 1) d2 has p1 p2 W false := by
 unfold R.NF
 obtain ⟨W1, hW1, HB, x0, x1, x2, x3, x4, x5, x6, f1⟩ := R.nbx 3 op v nm q1 0 d1 q2 (n2 + 1) d2 has p1 p2 W
 go_enter Tryz.func95, Tryz.ntmps95
 go_wp2
 go_ret
 exact ⟨rfl, by repeat (first | exact HB.out | exact R.nal | apply R.nst)⟩
theorem us_3_4 (op v p1 p2 : Int) (nm : ByteArray) (n1 n2 d1 d2 : Nat) (q1 q2 : Option Addr) (has : Bool) (W : World) (h_op : (op == 0) = true) (h_v : (v == 0) = true) :
 R.NF 95 3 op v nm q1 0 d1 q2 0 d2 true p1 p2 W false := by
 unfold R.NF
 obtain ⟨W1, hW1, HB, x0, x1, x2, x3, x4, x5, x6, f1⟩ := R.nbx 3 op v nm q1 0 d1 q2 0 d2 true p1 p2 W
 go_enter Tryz.func95, Tryz.ntmps95
 go_wp2
 go_ret
 exact ⟨rfl, by repeat (first | exact HB.out | exact R.nal | apply R.nst)⟩
theorem us_3_5 (op v p1 p2 : Int) (nm : ByteArray) (n1 n2 d1 d2 : Nat) (q1 q2 : Option Addr) (has : Bool) (W : World) (h_op : (op == 0) = true) (h_v : (v == 0) = true) :
 R.NF 95 3 op v nm q1 0 d1 q2 0 d2 false p1 p2 W true := by
 unfold R.NF
 obtain ⟨W1, hW1, HB, x0, x1, x2, x3, x4, x5, x6, f1⟩ := R.nbx 3 op v nm q1 0 d1 q2 0 d2 false p1 p2 W
 go_enter Tryz.func95, Tryz.ntmps95
 go_wp2
 go_ret
 exact ⟨rfl, by repeat (first | exact HB.out | exact R.nal | apply R.nst)⟩
theorem us_4f_0 (op v p1 p2 : Int) (nm : ByteArray) (n1 n2 d1 d2 : Nat) (q1 q2 : Option Addr) (has : Bool) (W : World) (h_op : (op == 0) = false) :
 R.NF 95 4 op v nm q1 n1 d1 q2 n2 d2 false p1 p2 W false := by
 unfold R.NF
 obtain ⟨W1, hW1, HB, x0, x1, x2, x3, x4, x5, x6, f1⟩ := R.nbx 4 op v nm q1 n1 d1 q2 n2 d2 false p1 p2 W
 go_enter Tryz.func95, Tryz.ntmps95
 go_wp2
 go_ret
 exact ⟨rfl, by repeat (first | exact HB.out | exact R.nal | apply R.nst)⟩
theorem us_4f_1 (op v p1 p2 : Int) (nm : ByteArray) (n1 n2 d1 d2 : Nat) (q1 q2 : Option Addr) (has : Bool) (W : World) (h_op : (op == 0) = true) (h_v : (v == 0) = false) :
 R.NF 95 4 op v nm q1 n1 d1 q2 n2 d2 false p1 p2 W false := by
 unfold R.NF
 obtain ⟨W1, hW1, HB, x0, x1, x2, x3, x4, x5, x6, f1⟩ := R.nbx 4 op v nm q1 n1 d1 q2 n2 d2 false p1 p2 W
 go_enter Tryz.func95, Tryz.ntmps95
 go_wp2
 go_ret
 exact ⟨rfl, by repeat (first | exact HB.out | exact R.nal | apply R.nst)⟩
theorem us_4f_2 (op v p1 p2 : Int) (nm : ByteArray) (n1 n2 d1 d2 : Nat) (q1 q2 : Option Addr) (has : Bool) (W : World) (h_op : (op == 0) = true) (h_v : (v == 0) = true) (h_nm : nm.toList.isEmpty = false) :
 R.NF 95 4 op v nm q1 n1 d1 q2 n2 d2 false p1 p2 W false := by
 unfold R.NF
 obtain ⟨W1, hW1, HB, x0, x1, x2, x3, x4, x5, x6, f1⟩ := R.nbx 4 op v nm q1 n1 d1 q2 n2 d2 false p1 p2 W
 go_enter Tryz.func95, Tryz.ntmps95
 go_wp2
 go_ret
 exact ⟨rfl, by repeat (first | exact HB.out | exact R.nal | apply R.nst)⟩
theorem us_4f_3 (op v p1 p2 : Int) (nm : ByteArray) (n1 n2 d1 d2 : Nat) (q1 q2 : Option Addr) (has : Bool) (W : World) (h_op : (op == 0) = true) (h_v : (v == 0) = true) (h_nm : nm.toList.isEmpty = true) (h_el : (((n2 + 1 : Nat) : Int) == 0) = false) :
 R.NF 95 4 op v nm q1 n1 d1 q2 (n2 + 1) d2 false p1 p2 W false := by
 unfold R.NF
 obtain ⟨W1, hW1, HB, x0, x1, x2, x3, x4, x5, x6, f1⟩ := R.nbx 4 op v nm q1 n1 d1 q2 (n2 + 1) d2 false p1 p2 W
 go_enter Tryz.func95, Tryz.ntmps95
 go_wp2
 go_ret
 exact ⟨rfl, by repeat (first | exact HB.out | exact R.nal | apply R.nst)⟩
theorem us_4f_4 (op v p1 p2 : Int) (nm : ByteArray) (n1 n2 d1 d2 : Nat) (q1 q2 : Option Addr) (has : Bool) (W : World) (h_op : (op == 0) = true) (h_v : (v == 0) = true) (h_nm : nm.toList.isEmpty = true) :
 R.NF 95 4 op v nm q1 n1 d1 q2 0 d2 false p1 p2 W true := by
 unfold R.NF
 obtain ⟨W1, hW1, HB, x0, x1, x2, x3, x4, x5, x6, f1⟩ := R.nbx 4 op v nm q1 n1 d1 q2 0 d2 false p1 p2 W
 go_enter Tryz.func95, Tryz.ntmps95
 go_wp2
 go_ret
 exact ⟨rfl, by repeat (first | exact HB.out | exact R.nal | apply R.nst)⟩
theorem us_4t_0 (op v p1 p2 : Int) (nm : ByteArray) (n1 n2 d1 d2 : Nat) (q1 q2 : Option Addr) (has : Bool) (W : World) (h_op : (op == 0) = false) :
 R.NF 95 4 op v nm q1 n1 d1 q2 n2 d2 true p1 p2 W false := by
 unfold R.NF
 obtain ⟨W1, hW1, HB, x0, x1, x2, x3, x4, x5, x6, f1⟩ := R.nbx 4 op v nm q1 n1 d1 q2 n2 d2 true p1 p2 W
 go_enter Tryz.func95, Tryz.ntmps95
 go_wp2
 go_ret
 exact ⟨rfl, by repeat (first | exact HB.out | exact R.nal | apply R.nst)⟩
theorem us_4t_1 (op v p1 p2 : Int) (nm : ByteArray) (n1 n2 d1 d2 : Nat) (q1 q2 : Option Addr) (has : Bool) (W : World) (h_op : (op == 0) = true) (h_v : (v == 0) = false) :
 R.NF 95 4 op v nm q1 n1 d1 q2 n2 d2 true p1 p2 W false := by
 unfold R.NF
 obtain ⟨W1, hW1, HB, x0, x1, x2, x3, x4, x5, x6, f1⟩ := R.nbx 4 op v nm q1 n1 d1 q2 n2 d2 true p1 p2 W
 go_enter Tryz.func95, Tryz.ntmps95
 go_wp2
 go_ret
 exact ⟨rfl, by repeat (first | exact HB.out | exact R.nal | apply R.nst)⟩
theorem us_4t_2 (op v p1 p2 : Int) (nm : ByteArray) (n1 n2 d1 d2 : Nat) (q1 q2 : Option Addr) (has : Bool) (W : World) (h_op : (op == 0) = true) (h_v : (v == 0) = true) (h_nm : nm.toList.isEmpty = false) :
 R.NF 95 4 op v nm q1 n1 d1 q2 n2 d2 true p1 p2 W false := by
 unfold R.NF
 obtain ⟨W1, hW1, HB, x0, x1, x2, x3, x4, x5, x6, f1⟩ := R.nbx 4 op v nm q1 n1 d1 q2 n2 d2 true p1 p2 W
 go_enter Tryz.func95, Tryz.ntmps95
 go_wp2
 go_ret
 exact ⟨rfl, by repeat (first | exact HB.out | exact R.nal | apply R.nst)⟩
theorem us_4t_3 (op v p1 p2 : Int) (nm : ByteArray) (n1 n2 d1 d2 : Nat) (q1 q2 : Option Addr) (has : Bool) (W : World) (h_op : (op == 0) = true) (h_v : (v == 0) = true) (h_nm : nm.toList.isEmpty = true) :
 R.NF 95 4 op v nm q1 n1 d1 q2 n2 d2 true p1 p2 W true := by
 unfold R.NF
 obtain ⟨W1, hW1, HB, x0, x1, x2, x3, x4, x5, x6, f1⟩ := R.nbx 4 op v nm q1 n1 d1 q2 n2 d2 true p1 p2 W
 go_enter Tryz.func95, Tryz.ntmps95
 go_wp2
 go_ret
 exact ⟨rfl, by repeat (first | exact HB.out | exact R.nal | apply R.nst)⟩
theorem us_5_0 (op v p1 p2 : Int) (nm : ByteArray) (n1 n2 d1 d2 : Nat) (q1 q2 : Option Addr) (has : Bool) (W : World) (h_op : (op == 0) = false) :
 R.NF 95 5 op v nm q1 n1 d1 q2 n2 d2 has p1 p2 W false := by
 unfold R.NF
 obtain ⟨W1, hW1, HB, x0, x1, x2, x3, x4, x5, x6, f1⟩ := R.nbx 5 op v nm q1 n1 d1 q2 n2 d2 has p1 p2 W
 go_enter Tryz.func95, Tryz.ntmps95
 go_wp2
 go_ret
 exact ⟨rfl, by repeat (first | exact HB.out | exact R.nal | apply R.nst)⟩
theorem us_5_1 (op v p1 p2 : Int) (nm : ByteArray) (n1 n2 d1 d2 : Nat) (q1 q2 : Option Addr) (has : Bool) (W : World) (h_op : (op == 0) = true) (h_v : (v == 0) = false) :
 R.NF 95 5 op v nm q1 n1 d1 q2 n2 d2 has p1 p2 W false := by
 unfold R.NF
 obtain ⟨W1, hW1, HB, x0, x1, x2, x3, x4, x5, x6, f1⟩ := R.nbx 5 op v nm q1 n1 d1 q2 n2 d2 has p1 p2 W
 go_enter Tryz.func95, Tryz.ntmps95
 go_wp2
 go_ret
 exact ⟨rfl, by repeat (first | exact HB.out | exact R.nal | apply R.nst)⟩
theorem us_5_2 (op v p1 p2 : Int) (nm : ByteArray) (n1 n2 d1 d2 : Nat) (q1 q2 : Option Addr) (has : Bool) (W : World) (h_op : (op == 0) = true) (h_v : (v == 0) = true) (h_nm : nm.toList.isEmpty = false) :
 R.NF 95 5 op v nm q1 n1 d1 q2 n2 d2 has p1 p2 W false := by
 unfold R.NF
 obtain ⟨W1, hW1, HB, x0, x1, x2, x3, x4, x5, x6, f1⟩ := R.nbx 5 op v nm q1 n1 d1 q2 n2 d2 has p1 p2 W
 go_enter Tryz.func95, Tryz.ntmps95
 go_wp2
 go_ret
 exact ⟨rfl, by repeat (first | exact HB.out | exact R.nal | apply R.nst)⟩
theorem us_5_3 (op v p1 p2 : Int) (nm : ByteArray) (n1 n2 d1 d2 : Nat) (q1 q2 : Option Addr) (has : Bool) (W : World) (h_op : (op == 0) = true) (h_v : (v == 0) = true) (h_nm : nm.toList.isEmpty = true) (h_el : (((n2 + 1 : Nat) : Int) == 0) = false) :
 R.NF 95 5 op v nm q1 n1 d1 q2 (n2 + 1) d2 has p1 p2 W false := by
 unfold R.NF
 obtain ⟨W1, hW1, HB, x0, x1, x2, x3, x4, x5, x6, f1⟩ := R.nbx 5 op v nm q1 n1 d1 q2 (n2 + 1) d2 has p1 p2 W
 go_enter Tryz.func95, Tryz.ntmps95
 go_wp2
 go_ret
 exact ⟨rfl, by repeat (first | exact HB.out | exact R.nal | apply R.nst)⟩
theorem us_5_4 (op v p1 p2 : Int) (nm : ByteArray) (n1 n2 d1 d2 : Nat) (q1 q2 : Option Addr) (has : Bool) (W : World) (h_op : (op == 0) = true) (h_v : (v == 0) = true) (h_nm : nm.toList.isEmpty = true) :
 R.NF 95 5 op v nm q1 n1 d1 q2 0 d2 true p1 p2 W false := by
 unfold R.NF
 obtain ⟨W1, hW1, HB, x0, x1, x2, x3, x4, x5, x6, f1⟩ := R.nbx 5 op v nm q1 n1 d1 q2 0 d2 true p1 p2 W
 go_enter Tryz.func95, Tryz.ntmps95
 go_wp2
 go_ret
 exact ⟨rfl, by repeat (first | exact HB.out | exact R.nal | apply R.nst)⟩
theorem us_5_5 (op v p1 p2 : Int) (nm : ByteArray) (n1 n2 d1 d2 : Nat) (q1 q2 : Option Addr) (has : Bool) (W : World) (h_op : (op == 0) = true) (h_v : (v == 0) = true) (h_nm : nm.toList.isEmpty = true) :
 R.NF 95 5 op v nm q1 n1 d1 q2 0 d2 false p1 p2 W true := by
 unfold R.NF
 obtain ⟨W1, hW1, HB, x0, x1, x2, x3, x4, x5, x6, f1⟩ := R.nbx 5 op v nm q1 n1 d1 q2 0 d2 false p1 p2 W
 go_enter Tryz.func95, Tryz.ntmps95
 go_wp2
 go_ret
 exact ⟨rfl, by repeat (first | exact HB.out | exact R.nal | apply R.nst)⟩
theorem us_6_0 (op v p1 p2 : Int) (nm : ByteArray) (n1 n2 d1 d2 : Nat) (q1 q2 : Option Addr) (has : Bool) (W : World) (h_op : (op == 0) = false) :
 R.NF 95 6 op v nm q1 n1 d1 q2 n2 d2 has p1 p2 W false := by
 unfold R.NF
 obtain ⟨W1, hW1, HB, x0, x1, x2, x3, x4, x5, x6, f1⟩ := R.nbx 6 op v nm q1 n1 d1 q2 n2 d2 has p1 p2 W
 go_enter Tryz.func95, Tryz.ntmps95
 go_wp2
 go_ret
 exact ⟨rfl, by repeat (first | exact HB.out | exact R.nal | apply R.nst)⟩
theorem us_6_1 (op v p1 p2 : Int) (nm : ByteArray) (n1 n2 d1 d2 : Nat) (q1 q2 : Option Addr) (has : Bool) (W : World) (h_op : (op == 0) = true) (h_v : (v == 0) = false) :
 R.NF 95 6 op v nm q1 n1 d1 q2 n2 d2 has p1 p2 W false := by
 unfold R.NF
 obtain ⟨W1, hW1, HB, x0, x1, x2, x3, x4, x5, x6, f1⟩ := R.nbx 6 op v nm q1 n1 d1 q2 n2 d2 has p1 p2 W
 go_enter Tryz.func95, Tryz.ntmps95
 go_wp2
 go_ret
 exact ⟨rfl, by repeat (first | exact HB.out | exact R.nal | apply R.nst)⟩
theorem us_6_2 (op v p1 p2 : Int) (nm : ByteArray) (n1 n2 d1 d2 : Nat) (q1 q2 : Option Addr) (has : Bool) (W : World) (h_op : (op == 0) = true) (h_v : (v == 0) = true) (h_nm : nm.toList.isEmpty = false) :
 R.NF 95 6 op v nm q1 n1 d1 q2 n2 d2 has p1 p2 W false := by
 unfold R.NF
 obtain ⟨W1, hW1, HB, x0, x1, x2, x3, x4, x5, x6, f1⟩ := R.nbx 6 op v nm q1 n1 d1 q2 n2 d2 has p1 p2 W
 go_enter Tryz.func95, Tryz.ntmps95
 go_wp2
 go_ret
 exact ⟨rfl, by repeat (first | exact HB.out | exact R.nal | apply R.nst)⟩
theorem us_6_3 (op v p1 p2 : Int) (nm : ByteArray) (n1 n2 d1 d2 : Nat) (q1 q2 : Option Addr) (has : Bool) (W : World) (h_op : (op == 0) = true) (h_v : (v == 0) = true) (h_nm : nm.toList.isEmpty = true) :
 R.NF 95 6 op v nm q1 n1 d1 q2 n2 d2 true p1 p2 W false := by
 unfold R.NF
 obtain ⟨W1, hW1, HB, x0, x1, x2, x3, x4, x5, x6, f1⟩ := R.nbx 6 op v nm q1 n1 d1 q2 n2 d2 true p1 p2 W
 go_enter Tryz.func95, Tryz.ntmps95
 go_wp2
 go_ret
 exact ⟨rfl, by repeat (first | exact HB.out | exact R.nal | apply R.nst)⟩
theorem us_6_4 (op v p1 p2 : Int) (nm : ByteArray) (n1 n2 d1 d2 : Nat) (q1 q2 : Option Addr) (has : Bool) (W : World) (h_op : (op == 0) = true) (h_v : (v == 0) = true) (h_nm : nm.toList.isEmpty = true) :
 R.NF 95 6 op v nm q1 n1 d1 q2 n2 d2 false p1 p2 W true := by
 unfold R.NF
 obtain ⟨W1, hW1, HB, x0, x1, x2, x3, x4, x5, x6, f1⟩ := R.nbx 6 op v nm q1 n1 d1 q2 n2 d2 false p1 p2 W
 go_enter Tryz.func95, Tryz.ntmps95
 go_wp2
 go_ret
 exact ⟨rfl, by repeat (first | exact HB.out | exact R.nal | apply R.nst)⟩
theorem us_7_0 (op v p1 p2 : Int) (nm : ByteArray) (n1 n2 d1 d2 : Nat) (q1 q2 : Option Addr) (has : Bool) (W : World) (h_op : (op == 0) = false) :
 R.NF 95 7 op v nm q1 n1 d1 q2 n2 d2 has p1 p2 W false := by
 unfold R.NF
 obtain ⟨W1, hW1, HB, x0, x1, x2, x3, x4, x5, x6, f1⟩ := R.nbx 7 op v nm q1 n1 d1 q2 n2 d2 has p1 p2 W
 go_enter Tryz.func95, Tryz.ntmps95
 go_wp2
 go_ret
 exact ⟨rfl, by repeat (first | exact HB.out | exact R.nal | apply R.nst)⟩
theorem us_7_1 (op v p1 p2 : Int) (nm : ByteArray) (n1 n2 d1 d2 : Nat) (q1 q2 : Option Addr) (has : Bool) (W : World) (h_op : (op == 0) = true) (h_v : (v == 0) = false) :
 R.NF 95 7 op v nm q1 n1 d1 q2 n2 d2 has p1 p2 W false := by
 unfold R.NF
 obtain ⟨W1, hW1, HB, x0, x1, x2, x3, x4, x5, x6, f1⟩ := R.nbx 7 op v nm q1 n1 d1 q2 n2 d2 has p1 p2 W
 go_enter Tryz.func95, Tryz.ntmps95
 go_wp2
 go_ret
 exact ⟨rfl, by repeat (first | exact HB.out | exact R.nal | apply R.nst)⟩
theorem us_7_2 (op v p1 p2 : Int) (nm : ByteArray) (n1 n2 d1 d2 : Nat) (q1 q2 : Option Addr) (has : Bool) (W : World) (h_op : (op == 0) = true) (h_v : (v == 0) = true) (h_nm : nm.toList.isEmpty = false) :
 R.NF 95 7 op v nm q1 n1 d1 q2 n2 d2 has p1 p2 W false := by
 unfold R.NF
 obtain ⟨W1, hW1, HB, x0, x1, x2, x3, x4, x5, x6, f1⟩ := R.nbx 7 op v nm q1 n1 d1 q2 n2 d2 has p1 p2 W
 go_enter Tryz.func95, Tryz.ntmps95
 go_wp2
 go_ret
 exact ⟨rfl, by repeat (first | exact HB.out | exact R.nal | apply R.nst)⟩
theorem us_7_3 (op v p1 p2 : Int) (nm : ByteArray) (n1 n2 d1 d2 : Nat) (q1 q2 : Option Addr) (has : Bool) (W : World) (h_op : (op == 0) = true) (h_v : (v == 0) = true) (h_nm : nm.toList.isEmpty = true) (h_el : (((n2 + 1 : Nat) : Int) == 0) = false) :
 R.NF 95 7 op v nm q1 n1 d1 q2 (n2 + 1) d2 has p1 p2 W false := by
 unfold R.NF
 obtain ⟨W1, hW1, HB, x0, x1, x2, x3, x4, x5, x6, f1⟩ := R.nbx 7 op v nm q1 n1 d1 q2 (n2 + 1) d2 has p1 p2 W
 go_enter Tryz.func95, Tryz.ntmps95
 go_wp2
 go_ret
 exact ⟨rfl, by repeat (first | exact HB.out | exact R.nal | apply R.nst)⟩
theorem us_7_4 (op v p1 p2 : Int) (nm : ByteArray) (n1 n2 d1 d2 : Nat) (q1 q2 : Option Addr) (has : Bool) (W : World) (h_op : (op == 0) = true) (h_v : (v == 0) = true) (h_nm : nm.toList.isEmpty = true) :
 R.NF 95 7 op v nm q1 n1 d1 q2 0 d2 true p1 p2 W false := by
 unfold R.NF
 obtain ⟨W1, hW1, HB, x0, x1, x2, x3, x4, x5, x6, f1⟩ := R.nbx 7 op v nm q1 n1 d1 q2 0 d2 true p1 p2 W
 go_enter Tryz.func95, Tryz.ntmps95
 go_wp2
 go_ret
 exact ⟨rfl, by repeat (first | exact HB.out | exact R.nal | apply R.nst)⟩
theorem us_7_5 (op v p1 p2 : Int) (nm : ByteArray) (n1 n2 d1 d2 : Nat) (q1 q2 : Option Addr) (has : Bool) (W : World) (h_op : (op == 0) = true) (h_v : (v == 0) = true) (h_nm : nm.toList.isEmpty = true) :
 R.NF 95 7 op v nm q1 n1 d1 q2 0 d2 false p1 p2 W true := by
 unfold R.NF
 obtain ⟨W1, hW1, HB, x0, x1, x2, x3, x4, x5, x6, f1⟩ := R.nbx 7 op v nm q1 n1 d1 q2 0 d2 false p1 p2 W
 go_enter Tryz.func95, Tryz.ntmps95
 go_wp2
 go_ret
 exact ⟨rfl, by repeat (first | exact HB.out | exact R.nal | apply R.nst)⟩
theorem us_8_0 (op v p1 p2 : Int) (nm : ByteArray) (n1 n2 d1 d2 : Nat) (q1 q2 : Option Addr) (has : Bool) (W : World) (h_op : (op == 0) = false) :
 R.NF 95 8 op v nm q1 n1 d1 q2 n2 d2 has p1 p2 W false := by
 unfold R.NF
 obtain ⟨W1, hW1, HB, x0, x1, x2, x3, x4, x5, x6, f1⟩ := R.nbx 8 op v nm q1 n1 d1 q2 n2 d2 has p1 p2 W
 go_enter Tryz.func95, Tryz.ntmps95
 go_wp2
 go_ret
 exact ⟨rfl, by repeat (first | exact HB.out | exact R.nal | apply R.nst)⟩
theorem us_8_1 (op v p1 p2 : Int) (nm : ByteArray) (n1 n2 d1 d2 : Nat) (q1 q2 : Option Addr) (has : Bool) (W : World) (h_op : (op == 0) = true) (h_v : (v == 0) = false) :
 R.NF 95 8 op v nm q1 n1 d1 q2 n2 d2 has p1 p2 W false := by
 unfold R.NF
 obtain ⟨W1, hW1, HB, x0, x1, x2, x3, x4, x5, x6, f1⟩ := R.nbx 8 op v nm q1 n1 d1 q2 n2 d2 has p1 p2 W
 go_enter Tryz.func95, Tryz.ntmps95
 go_wp2
 go_ret
 exact ⟨rfl, by repeat (first | exact HB.out | exact R.nal | apply R.nst)⟩
theorem us_8_2 (op v p1 p2 : Int) (nm : ByteArray) (n1 n2 d1 d2 : Nat) (q1 q2 : Option Addr) (has : Bool) (W : World) (h_op : (op == 0) = true) (h_v : (v == 0) = true) (h_nm : nm.toList.isEmpty = false) :
 R.NF 95 8 op v nm q1 n1 d1 q2 n2 d2 has p1 p2 W false := by
 unfold R.NF
 obtain ⟨W1, hW1, HB, x0, x1, x2, x3, x4, x5, x6, f1⟩ := R.nbx 8 op v nm q1 n1 d1 q2 n2 d2 has p1 p2 W
 go_enter Tryz.func95, Tryz.ntmps95
 go_wp2
 go_ret
 exact ⟨rfl, by repeat (first | exact HB.out | exact R.nal | apply R.nst)⟩
theorem us_8_3 (op v p1 p2 : Int) (nm : ByteArray) (n1 n2 d1 d2 : Nat) (q1 q2 : Option Addr) (has : Bool) (W : World) (h_op : (op == 0) = true) (h_v : (v == 0) = true) (h_nm : nm.toList.isEmpty = true) (h_el : (((n2 + 1 : Nat) : Int) == 0) = false) :
 R.NF 95 8 op v nm q1 n1 d1 q2 (n2 + 1) d2 has p1 p2 W false := by
 unfold R.NF
 obtain ⟨W1, hW1, HB, x0, x1, x2, x3, x4, x5, x6, f1⟩ := R.nbx 8 op v nm q1 n1 d1 q2 (n2 + 1) d2 has p1 p2 W
 go_enter Tryz.func95, Tryz.ntmps95
 go_wp2
 go_ret
 exact ⟨rfl, by repeat (first | exact HB.out | exact R.nal | apply R.nst)⟩
theorem us_8_4 (op v p1 p2 : Int) (nm : ByteArray) (n1 n2 d1 d2 : Nat) (q1 q2 : Option Addr) (has : Bool) (W : World) (h_op : (op == 0) = true) (h_v : (v == 0) = true) (h_nm : nm.toList.isEmpty = true) :
 R.NF 95 8 op v nm q1 n1 d1 q2 0 d2 true p1 p2 W false := by
 unfold R.NF
 obtain ⟨W1, hW1, HB, x0, x1, x2, x3, x4, x5, x6, f1⟩ := R.nbx 8 op v nm q1 n1 d1 q2 0 d2 true p1 p2 W
 go_enter Tryz.func95, Tryz.ntmps95
 go_wp2
 go_ret
 exact ⟨rfl, by repeat (first | exact HB.out | exact R.nal | apply R.nst)⟩
theorem us_8_5 (op v p1 p2 : Int) (nm : ByteArray) (n1 n2 d1 d2 : Nat) (q1 q2 : Option Addr) (has : Bool) (W : World) (h_op : (op == 0) = true) (h_v : (v == 0) = true) (h_nm : nm.toList.isEmpty = true) :
 R.NF 95 8 op v nm q1 n1 d1 q2 0 d2 false p1 p2 W true := by
 unfold R.NF
 obtain ⟨W1, hW1, HB, x0, x1, x2, x3, x4, x5, x6, f1⟩ := R.nbx 8 op v nm q1 n1 d1 q2 0 d2 false p1 p2 W
 go_enter Tryz.func95, Tryz.ntmps95
 go_wp2
 go_ret
 exact ⟨rfl, by repeat (first | exact HB.out | exact R.nal | apply R.nst)⟩
theorem us_9_0 (op v p1 p2 : Int) (nm : ByteArray) (n1 n2 d1 d2 : Nat) (q1 q2 : Option Addr) (has : Bool) (W : World) (h_op : (op == 0) = false) :
 R.NF 95 9 op v nm q1 n1 d1 q2 n2 d2 has p1 p2 W false := by
 unfold R.NF
 obtain ⟨W1, hW1, HB, x0, x1, x2, x3, x4, x5, x6, f1⟩ := R.nbx 9 op v nm q1 n1 d1 q2 n2 d2 has p1 p2 W
 go_enter Tryz.func95, Tryz.ntmps95
 go_wp2
 go_ret
 exact ⟨rfl, by repeat (first | exact HB.out | exact R.nal | apply R.nst)⟩
theorem us_9_1 (op v p1 p2 : Int) (nm : ByteArray) (n1 n2 d1 d2 : Nat) (q1 q2 : Option Addr) (has : Bool) (W : World) (h_op : (op == 0) = true) (h_v : (v == 0) = false) :
 R.NF 95 9 op v nm q1 n1 d1 q2 n2 d2 has p1 p2 W false := by
 unfold R.NF
 obtain ⟨W1, hW1, HB, x0, x1, x2, x3, x4, x5, x6, f1⟩ := R.nbx 9 op v nm q1 n1 d1 q2 n2 d2 has p1 p2 W
 go_enter Tryz.func95, Tryz.ntmps95
 go_wp2
 go_ret
 exact ⟨rfl, by repeat (first | exact HB.out | exact R.nal | apply R.nst)⟩
theorem us_9_2 (op v p1 p2 : Int) (nm : ByteArray) (n1 n2 d1 d2 : Nat) (q1 q2 : Option Addr) (has : Bool) (W : World) (h_op : (op == 0) = true) (h_v : (v == 0) = true) (h_nm : nm.toList.isEmpty = false) :
 R.NF 95 9 op v nm q1 n1 d1 q2 n2 d2 has p1 p2 W false := by
 unfold R.NF
 obtain ⟨W1, hW1, HB, x0, x1, x2, x3, x4, x5, x6, f1⟩ := R.nbx 9 op v nm q1 n1 d1 q2 n2 d2 has p1 p2 W
 go_enter Tryz.func95, Tryz.ntmps95
 go_wp2
 go_ret
 exact ⟨rfl, by repeat (first | exact HB.out | exact R.nal | apply R.nst)⟩
theorem us_9_3 (op v p1 p2 : Int) (nm : ByteArray) (n1 n2 d1 d2 : Nat) (q1 q2 : Option Addr) (has : Bool) (W : World) (h_op : (op == 0) = true) (h_v : (v == 0) = true) (h_nm : nm.toList.isEmpty = true) (h_th : (((n1 + 1 : Nat) : Int) == 0) = false) :
 R.NF 95 9 op v nm q1 (n1 + 1) d1 q2 n2 d2 has p1 p2 W false := by
 unfold R.NF
 obtain ⟨W1, hW1, HB, x0, x1, x2, x3, x4, x5, x6, f1⟩ := R.nbx 9 op v nm q1 (n1 + 1) d1 q2 n2 d2 has p1 p2 W
 go_enter Tryz.func95, Tryz.ntmps95
 go_wp2
 go_ret
 exact ⟨rfl, by repeat (first | exact HB.out | exact R.nal | apply R.nst)⟩
theorem us_9_4 (op v p1 p2 : Int) (nm : ByteArray) (n1 n2 d1 d2 : Nat) (q1 q2 : Option Addr) (has : Bool) (W : World) (h_op : (op == 0) = true) (h_v : (v == 0) = true) (h_nm : nm.toList.isEmpty = true) (h_el : (((n2 + 1 : Nat) : Int) == 0) = false) :
 R.NF 95 9 op v nm q1 0 d1 q2 (n2 + 1) d2 has p1 p2 W false := by
 unfold R.NF
 obtain ⟨W1, hW1, HB, x0, x1, x2, x3, x4, x5, x6, f1⟩ := R.nbx 9 op v nm q1 0 d1 q2 (n2 + 1) d2 has p1 p2 W
 go_enter Tryz.func95, Tryz.ntmps95
 go_wp2
 go_ret
 exact ⟨rfl, by repeat (first | exact HB.out | exact R.nal | apply R.nst)⟩
theorem us_9_5 (op v p1 p2 : Int) (nm : ByteArray) (n1 n2 d1 d2 : Nat) (q1 q2 : Option Addr) (has : Bool) (W : World) (h_op : (op == 0) = true) (h_v : (v == 0) = true) (h_nm : nm.toList.isEmpty = true) :
 R.NF 95 9 op v nm q1 0 d1 q2 0 d2 true p1 p2 W false := by
 unfold R.NF
 obtain ⟨W1, hW1, HB, x0, x1, x2, x3, x4, x5, x6, f1⟩ := R.nbx 9 op v nm q1 0 d1 q2 0 d2 true p1 p2 W
 go_enter Tryz.func95, Tryz.ntmps95
 go_wp2
 go_ret
 exact ⟨rfl, by repeat (first | exact HB.out | exact R.nal | apply R.nst)⟩
theorem us_9_6 (op v p1 p2 : Int) (nm : ByteArray) (n1 n2 d1 d2 : Nat) (q1 q2 : Option Addr) (has : Bool) (W : World) (h_op : (op == 0) = true) (h_v : (v == 0) = true) (h_nm : nm.toList.isEmpty = true) :
 R.NF 95 9 op v nm q1 0 d1 q2 0 d2 false p1 p2 W true := by
 unfold R.NF
 obtain ⟨W1, hW1, HB, x0, x1, x2, x3, x4, x5, x6, f1⟩ := R.nbx 9 op v nm q1 0 d1 q2 0 d2 false p1 p2 W
 go_enter Tryz.func95, Tryz.ntmps95
 go_wp2
 go_ret
 exact ⟨rfl, by repeat (first | exact HB.out | exact R.nal | apply R.nst)⟩
end Go.Proofs.YtlilefhmohkfkaaGreatDoor.R
