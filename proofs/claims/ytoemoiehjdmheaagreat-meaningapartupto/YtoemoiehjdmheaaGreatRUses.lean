import Derived.Test.YtoemoiehjdmheaaGreatRMath
import Derived.Test.YtoemoiehjdmheaaGreatSKit
import Derived.Laws.Strings
namespace Go.Proofs.YtoemoiehjdmheaaGreat.R
open Go.RowKit
open Go.Proofs
open Go.Proofs.YtoemoiehjdmheaaGreat.Y (Nd Df Ps ndc dfc hid)
set_option linter.unusedVariables false
set_option linter.unusedSimpArgs false
set_option maxHeartbeats 2000000
set_option maxRecDepth 100000
theorem toList_inj {a b : ByteArray} (h : a.toList = b.toList) : a = b := by
 rw [ByteArray.toList_eq, ByteArray.toList_eq] at h
 exact ByteArray.ext (by simpa using h)
theorem box_node (n : Nd) (tv ev : Value) (W : World) : ∃ W1, W.alloc (.cells #[.int .i64 n.k, .int .i64 n.op, .int .u16 n.v, .string n.nm, tv, ev, .bool n.has, .int .i64 n.p.1, .int .i64 n.p.2] 90) = W1 /\ Below W.heap.size W W1 /\ W1.heap[W.heap.size]? = some (.cells (ndc n tv ev).toArray 90 (0, 0)) :=
 ⟨_, rfl, (Below.refl _ _).alloc (Nat.le_refl _) _, heap_alloc_new W _⟩
theorem box_def (n : Df) (bv : Value) (W : World) : ∃ W1, W.alloc (.cells #[.int .i64 n.k, .string n.nm, .int .u16 n.v, bv, .int .i64 n.p.1, .int .i64 n.p.2] 60) = W1 /\ Below W.heap.size W W1 /\ W1.heap[W.heap.size]? = some (.cells (dfc n bv).toArray 60 (0, 0)) :=
 ⟨_, rfl, (Below.refl _ _).alloc (Nat.le_refl _) _, heap_alloc_new W _⟩
theorem isDo_any (n : Nd) (q1 q2 : Option Addr) (a1 d1 a2 d2 : Nat) (W : World) :
  Calls Tryz.prog 151 #[.agg (ndc n (.slice q1 a1 d1) (.slice q2 a2 d2)).toArray] W fun e w' => e = .returned (.bool (n.k == 8)) /\ Below W.heap.size W w' := by
 obtain ⟨W1, hW1, hB, hv⟩ := box_node n (.slice q1 a1 d1) (.slice q2 a2 d2) W
 have x0 := S.cell_of W1 _ 0 _ 90 _ hv rfl
 unfold ndc
 have HB := hid hB
 clear hv hB
 go_enter Tryz.func151, Tryz.ntmps151
 go_wp2
 go_ret
 exact ⟨rfl, HB.out⟩
theorem isStructure_any (n : Nd) (q1 q2 : Option Addr) (a1 d1 a2 d2 : Nat) (W : World) :
  Calls Tryz.prog 150 #[.agg (ndc n (.slice q1 a1 d1) (.slice q2 a2 d2)).toArray] W fun e w' => e = .returned (.bool (strc n.k)) /\ Below W.heap.size W w' := by
 obtain ⟨W1, hW1, hB, hv⟩ := box_node n (.slice q1 a1 d1) (.slice q2 a2 d2) W
 have x0 := S.cell_of W1 _ 0 _ 90 _ hv rfl
 unfold ndc strc
 have HB := hid hB
 clear hv hB
 by_cases c : 4 <= n.k
 ·have d : decide (4 <= n.k) = true := decide_eq_true c
  rw [d, Bool.true_and]
  go_enter Tryz.func150, Tryz.ntmps150
  go_wp2
  go_ret
  exact ⟨rfl, HB.out⟩
 ·have d : decide (4 <= n.k) = false := decide_eq_false c
  rw [d, Bool.false_and]
  go_enter Tryz.func150, Tryz.ntmps150
  go_wp2
  go_ret
  exact ⟨rfl, HB.out⟩
theorem isMain_any (n : Df) (q : Option Addr) (a d : Nat) (W : World) :
  Calls Tryz.prog 47 #[.agg (dfc n (.slice q a d)).toArray] W fun e w' => e = .returned (.bool (isMain n)) /\ Below W.heap.size W w' := by
 obtain ⟨W1, hW1, hB, hv⟩ := box_def n (.slice q a d) W
 have x0 := S.cell_of W1 _ 0 _ 60 _ hv rfl
 have x1 := S.cell_of W1 _ 1 _ 60 _ hv rfl
 unfold dfc isMain
 have HB := hid hB
 clear hv hB
 by_cases c : n.k = 1
 ·have c0 : (n.k == 1) = true := by simpa using c
  rw [c0, Bool.true_and]
  clear c
  by_cases m : n.nm = ⟨#[109, 97, 105, 110]⟩
  ·have m0 : decide (n.nm = ⟨#[109, 97, 105, 110]⟩) = true := decide_eq_true m
   rw [m0]
   rw [m] at x1 hW1 ⊢
   clear m m0
   go_enter Tryz.func47, Tryz.ntmps47
   go_wp2
   go_ret
   exact ⟨by simp, HB.out⟩
  ·have m0 : decide (n.nm = ⟨#[109, 97, 105, 110]⟩) = false := decide_eq_false m
   have m1 : ¬ n.nm.toList = (⟨#[109, 97, 105, 110]⟩ : ByteArray).toList := fun c => m (toList_inj c)
   rw [m0]
   go_enter Tryz.func47, Tryz.ntmps47
   go_wp2
   go_ret
   exact ⟨by first | rfl | (simp [m1]; done) | (simpa using m1) | (simpa using m) | (simp [ByteArray.toList_eq] at m1 ⊢; exact m1), HB.out⟩
 ·have c0 : (n.k == 1) = false := by simpa using c
  rw [c0, Bool.false_and]
  go_enter Tryz.func47, Tryz.ntmps47
  go_wp2
  go_ret
  exact ⟨by simp, HB.out⟩
theorem nal {W : World} {o : Obj} : Below W.heap.size W (W.alloc o) := (Below.refl _ _).alloc (Nat.le_refl _) _
theorem nst {W X : World} {i : Nat} {v : Value} (h : Below W.heap.size W X) : Below W.heap.size W (X.setCell ⟨W.heap.size, i, none⟩ v) := h.setCell (Nat.le_refl _) _
theorem nbx (k op v : Int) (nm : ByteArray) (q1 : Option Addr) (n1 d1 : Nat) (q2 : Option Addr) (n2 d2 : Nat) (has : Bool) (p1 p2 : Int) (W : World) : ∃ W1, W.alloc (.cells #[.int .i64 k, .int .i64 op, .int .u16 v, .string nm, .slice q1 n1 d1, .slice q2 n2 d2, .bool has, .int .i64 p1, .int .i64 p2] 90) = W1 /\ Y.Hd (Below W.heap.size W W1) /\ W1.cell? ⟨W.heap.size, 0, none⟩ = some (.int .i64 k) /\ W1.cell? ⟨W.heap.size, 1, none⟩ = some (.int .i64 op) /\ W1.cell? ⟨W.heap.size, 2, none⟩ = some (.int .u16 v) /\ W1.cell? ⟨W.heap.size, 3, none⟩ = some (.string nm) /\ W1.cell? ⟨W.heap.size, 4, none⟩ = some (.slice q1 n1 d1) /\ W1.cell? ⟨W.heap.size, 5, none⟩ = some (.slice q2 n2 d2) /\ W1.cell? ⟨W.heap.size, 6, none⟩ = some (.bool has) /\ ∀ i, W1.frozen? ⟨W.heap.size, i, none⟩ = false := by
 have v1 := heap_alloc_new W (.cells [.int .i64 k, .int .i64 op, .int .u16 v, .string nm, .slice q1 n1 d1, .slice q2 n2 d2, .bool has, .int .i64 p1, .int .i64 p2].toArray 90)
 exact ⟨_, rfl, hid nal, S.cell_of _ _ 0 _ 90 _ v1 rfl, S.cell_of _ _ 1 _ 90 _ v1 rfl, S.cell_of _ _ 2 _ 90 _ v1 rfl, S.cell_of _ _ 3 _ 90 _ v1 rfl, S.cell_of _ _ 4 _ 90 _ v1 rfl, S.cell_of _ _ 5 _ 90 _ v1 rfl, S.cell_of _ _ 6 _ 90 _ v1 rfl, fun i => S.frozen_of _ W.heap.size i _ 90 v1⟩
def NF (f : Nat) (k op v : Int) (nm : ByteArray) (q1 : Option Addr) (n1 d1 : Nat) (q2 : Option Addr) (n2 d2 : Nat) (has : Bool) (p1 p2 : Int) (W : World) (b : Bool) : Prop := Calls Tryz.prog f #[.agg #[.int .i64 k, .int .i64 op, .int .u16 v, .string nm, .slice q1 n1 d1, .slice q2 n2 d2, .bool has, .int .i64 p1, .int .i64 p2]] W fun e w' => e = .returned (.bool b) /\ Below W.heap.size W w'
theorem us_1_0 (op v p1 p2 : Int) (nm : ByteArray) (n1 n2 d1 d2 : Nat) (q1 q2 : Option Addr) (has : Bool) (W : World) (h_v : (v == 0) = false) :
 R.NF 148 1 op v nm q1 n1 d1 q2 n2 d2 has p1 p2 W false := by
 unfold R.NF
 obtain ⟨W1, hW1, HB, x0, x1, x2, x3, x4, x5, x6, f1⟩ := R.nbx 1 op v nm q1 n1 d1 q2 n2 d2 has p1 p2 W
 go_enter Tryz.func148, Tryz.ntmps148
 go_wp2
 go_ret
 exact ⟨rfl, by repeat (first | exact HB.out | exact R.nal | apply R.nst)⟩
theorem us_1_1 (op v p1 p2 : Int) (nm : ByteArray) (n1 n2 d1 d2 : Nat) (q1 q2 : Option Addr) (has : Bool) (W : World) (h_v : (v == 0) = true) (h_nm : nm.toList.isEmpty = false) :
 R.NF 148 1 op v nm q1 n1 d1 q2 n2 d2 has p1 p2 W false := by
 unfold R.NF
 obtain ⟨W1, hW1, HB, x0, x1, x2, x3, x4, x5, x6, f1⟩ := R.nbx 1 op v nm q1 n1 d1 q2 n2 d2 has p1 p2 W
 go_enter Tryz.func148, Tryz.ntmps148
 go_wp2
 go_ret
 exact ⟨rfl, by repeat (first | exact HB.out | exact R.nal | apply R.nst)⟩
theorem us_1_2 (op v p1 p2 : Int) (nm : ByteArray) (n1 n2 d1 d2 : Nat) (q1 q2 : Option Addr) (has : Bool) (W : World) (h_v : (v == 0) = true) (h_nm : nm.toList.isEmpty = true) (h_th : (((n1 + 1 : Nat) : Int) == 0) = false) :
 R.NF 148 1 op v nm q1 (n1 + 1) d1 q2 n2 d2 has p1 p2 W false := by
 unfold R.NF
 obtain ⟨W1, hW1, HB, x0, x1, x2, x3, x4, x5, x6, f1⟩ := R.nbx 1 op v nm q1 (n1 + 1) d1 q2 n2 d2 has p1 p2 W
 go_enter Tryz.func148, Tryz.ntmps148
 go_wp2
 go_ret
 exact ⟨rfl, by repeat (first | exact HB.out | exact R.nal | apply R.nst)⟩
theorem us_1_3 (op v p1 p2 : Int) (nm : ByteArray) (n1 n2 d1 d2 : Nat) (q1 q2 : Option Addr) (has : Bool) (W : World) (h_v : (v == 0) = true) (h_nm : nm.toList.isEmpty = true) (h_el : (((n2 + 1 : Nat) : Int) == 0) = false) :
 R.NF 148 1 op v nm q1 0 d1 q2 (n2 + 1) d2 has p1 p2 W false := by
 unfold R.NF
 obtain ⟨W1, hW1, HB, x0, x1, x2, x3, x4, x5, x6, f1⟩ := R.nbx 1 op v nm q1 0 d1 q2 (n2 + 1) d2 has p1 p2 W
 go_enter Tryz.func148, Tryz.ntmps148
 go_wp2
 go_ret
 exact ⟨rfl, by repeat (first | exact HB.out | exact R.nal | apply R.nst)⟩
theorem us_1_4 (op v p1 p2 : Int) (nm : ByteArray) (n1 n2 d1 d2 : Nat) (q1 q2 : Option Addr) (has : Bool) (W : World) (h_v : (v == 0) = true) (h_nm : nm.toList.isEmpty = true) :
 R.NF 148 1 op v nm q1 0 d1 q2 0 d2 true p1 p2 W false := by
 unfold R.NF
 obtain ⟨W1, hW1, HB, x0, x1, x2, x3, x4, x5, x6, f1⟩ := R.nbx 1 op v nm q1 0 d1 q2 0 d2 true p1 p2 W
 go_enter Tryz.func148, Tryz.ntmps148
 go_wp2
 go_ret
 exact ⟨rfl, by repeat (first | exact HB.out | exact R.nal | apply R.nst)⟩
theorem us_1_5 (op v p1 p2 : Int) (nm : ByteArray) (n1 n2 d1 d2 : Nat) (q1 q2 : Option Addr) (has : Bool) (W : World) (h_v : (v == 0) = true) (h_nm : nm.toList.isEmpty = true) :
 R.NF 148 1 op v nm q1 0 d1 q2 0 d2 false p1 p2 W true := by
 unfold R.NF
 obtain ⟨W1, hW1, HB, x0, x1, x2, x3, x4, x5, x6, f1⟩ := R.nbx 1 op v nm q1 0 d1 q2 0 d2 false p1 p2 W
 go_enter Tryz.func148, Tryz.ntmps148
 go_wp2
 go_ret
 exact ⟨rfl, by repeat (first | exact HB.out | exact R.nal | apply R.nst)⟩
theorem us_2_0 (op v p1 p2 : Int) (nm : ByteArray) (n1 n2 d1 d2 : Nat) (q1 q2 : Option Addr) (has : Bool) (W : World) (h_op : (op == 0) = false) :
 R.NF 148 2 op v nm q1 n1 d1 q2 n2 d2 has p1 p2 W false := by
 unfold R.NF
 obtain ⟨W1, hW1, HB, x0, x1, x2, x3, x4, x5, x6, f1⟩ := R.nbx 2 op v nm q1 n1 d1 q2 n2 d2 has p1 p2 W
 go_enter Tryz.func148, Tryz.ntmps148
 go_wp2
 go_ret
 exact ⟨rfl, by repeat (first | exact HB.out | exact R.nal | apply R.nst)⟩
theorem us_2_1 (op v p1 p2 : Int) (nm : ByteArray) (n1 n2 d1 d2 : Nat) (q1 q2 : Option Addr) (has : Bool) (W : World) (h_op : (op == 0) = true) (h_nm : nm.toList.isEmpty = false) :
 R.NF 148 2 op v nm q1 n1 d1 q2 n2 d2 has p1 p2 W false := by
 unfold R.NF
 obtain ⟨W1, hW1, HB, x0, x1, x2, x3, x4, x5, x6, f1⟩ := R.nbx 2 op v nm q1 n1 d1 q2 n2 d2 has p1 p2 W
 go_enter Tryz.func148, Tryz.ntmps148
 go_wp2
 go_ret
 exact ⟨rfl, by repeat (first | exact HB.out | exact R.nal | apply R.nst)⟩
theorem us_2_2 (op v p1 p2 : Int) (nm : ByteArray) (n1 n2 d1 d2 : Nat) (q1 q2 : Option Addr) (has : Bool) (W : World) (h_op : (op == 0) = true) (h_nm : nm.toList.isEmpty = true) (h_th : (((n1 + 1 : Nat) : Int) == 0) = false) :
 R.NF 148 2 op v nm q1 (n1 + 1) d1 q2 n2 d2 has p1 p2 W false := by
 unfold R.NF
 obtain ⟨W1, hW1, HB, x0, x1, x2, x3, x4, x5, x6, f1⟩ := R.nbx 2 op v nm q1 (n1 + 1) d1 q2 n2 d2 has p1 p2 W
 go_enter Tryz.func148, Tryz.ntmps148
 go_wp2
 go_ret
 exact ⟨rfl, by repeat (first | exact HB.out | exact R.nal | apply R.nst)⟩
theorem us_2_3 (op v p1 p2 : Int) (nm : ByteArray) (n1 n2 d1 d2 : Nat) (q1 q2 : Option Addr) (has : Bool) (W : World) (h_op : (op == 0) = true) (h_nm : nm.toList.isEmpty = true) (h_el : (((n2 + 1 : Nat) : Int) == 0) = false) :
 R.NF 148 2 op v nm q1 0 d1 q2 (n2 + 1) d2 has p1 p2 W false := by
 unfold R.NF
 obtain ⟨W1, hW1, HB, x0, x1, x2, x3, x4, x5, x6, f1⟩ := R.nbx 2 op v nm q1 0 d1 q2 (n2 + 1) d2 has p1 p2 W
 go_enter Tryz.func148, Tryz.ntmps148
 go_wp2
 go_ret
 exact ⟨rfl, by repeat (first | exact HB.out | exact R.nal | apply R.nst)⟩
theorem us_2_4 (op v p1 p2 : Int) (nm : ByteArray) (n1 n2 d1 d2 : Nat) (q1 q2 : Option Addr) (has : Bool) (W : World) (h_op : (op == 0) = true) (h_nm : nm.toList.isEmpty = true) :
 R.NF 148 2 op v nm q1 0 d1 q2 0 d2 true p1 p2 W false := by
 unfold R.NF
 obtain ⟨W1, hW1, HB, x0, x1, x2, x3, x4, x5, x6, f1⟩ := R.nbx 2 op v nm q1 0 d1 q2 0 d2 true p1 p2 W
 go_enter Tryz.func148, Tryz.ntmps148
 go_wp2
 go_ret
 exact ⟨rfl, by repeat (first | exact HB.out | exact R.nal | apply R.nst)⟩
theorem us_2_5 (op v p1 p2 : Int) (nm : ByteArray) (n1 n2 d1 d2 : Nat) (q1 q2 : Option Addr) (has : Bool) (W : World) (h_op : (op == 0) = true) (h_nm : nm.toList.isEmpty = true) :
 R.NF 148 2 op v nm q1 0 d1 q2 0 d2 false p1 p2 W true := by
 unfold R.NF
 obtain ⟨W1, hW1, HB, x0, x1, x2, x3, x4, x5, x6, f1⟩ := R.nbx 2 op v nm q1 0 d1 q2 0 d2 false p1 p2 W
 go_enter Tryz.func148, Tryz.ntmps148
 go_wp2
 go_ret
 exact ⟨rfl, by repeat (first | exact HB.out | exact R.nal | apply R.nst)⟩
theorem us_3_0 (op v p1 p2 : Int) (nm : ByteArray) (n1 n2 d1 d2 : Nat) (q1 q2 : Option Addr) (has : Bool) (W : World) (h_op : (op == 0) = false) :
 R.NF 148 3 op v nm q1 n1 d1 q2 n2 d2 has p1 p2 W false := by
 unfold R.NF
 obtain ⟨W1, hW1, HB, x0, x1, x2, x3, x4, x5, x6, f1⟩ := R.nbx 3 op v nm q1 n1 d1 q2 n2 d2 has p1 p2 W
 go_enter Tryz.func148, Tryz.ntmps148
 go_wp2
 go_ret
 exact ⟨rfl, by repeat (first | exact HB.out | exact R.nal | apply R.nst)⟩
theorem us_3_1 (op v p1 p2 : Int) (nm : ByteArray) (n1 n2 d1 d2 : Nat) (q1 q2 : Option Addr) (has : Bool) (W : World) (h_op : (op == 0) = true) (h_v : (v == 0) = false) :
 R.NF 148 3 op v nm q1 n1 d1 q2 n2 d2 has p1 p2 W false := by
 unfold R.NF
 obtain ⟨W1, hW1, HB, x0, x1, x2, x3, x4, x5, x6, f1⟩ := R.nbx 3 op v nm q1 n1 d1 q2 n2 d2 has p1 p2 W
 go_enter Tryz.func148, Tryz.ntmps148
 go_wp2
 go_ret
 exact ⟨rfl, by repeat (first | exact HB.out | exact R.nal | apply R.nst)⟩
theorem us_3_2 (op v p1 p2 : Int) (nm : ByteArray) (n1 n2 d1 d2 : Nat) (q1 q2 : Option Addr) (has : Bool) (W : World) (h_op : (op == 0) = true) (h_v : (v == 0) = true) (h_th : (((n1 + 1 : Nat) : Int) == 0) = false) :
 R.NF 148 3 op v nm q1 (n1 + 1) d1 q2 n2 d2 has p1 p2 W false := by
 unfold R.NF
 obtain ⟨W1, hW1, HB, x0, x1, x2, x3, x4, x5, x6, f1⟩ := R.nbx 3 op v nm q1 (n1 + 1) d1 q2 n2 d2 has p1 p2 W
 go_enter Tryz.func148, Tryz.ntmps148
 go_wp2
 go_ret
 exact ⟨rfl, by repeat (first | exact HB.out | exact R.nal | apply R.nst)⟩
theorem us_3_3 (op v p1 p2 : Int) (nm : ByteArray) (n1 n2 d1 d2 : Nat) (q1 q2 : Option Addr) (has : Bool) (W : World) (h_op : (op == 0) = true) (h_v : (v == 0) = true) (h_el : (((n2 + 1 : Nat) : Int) == 0) = false) :
 R.NF 148 3 op v nm q1 0 d1 q2 (n2 + 1) d2 has p1 p2 W false := by
 unfold R.NF
 obtain ⟨W1, hW1, HB, x0, x1, x2, x3, x4, x5, x6, f1⟩ := R.nbx 3 op v nm q1 0 d1 q2 (n2 + 1) d2 has p1 p2 W
 go_enter Tryz.func148, Tryz.ntmps148
 go_wp2
 go_ret
 exact ⟨rfl, by repeat (first | exact HB.out | exact R.nal | apply R.nst)⟩
theorem us_3_4 (op v p1 p2 : Int) (nm : ByteArray) (n1 n2 d1 d2 : Nat) (q1 q2 : Option Addr) (has : Bool) (W : World) (h_op : (op == 0) = true) (h_v : (v == 0) = true) :
 R.NF 148 3 op v nm q1 0 d1 q2 0 d2 true p1 p2 W false := by
 unfold R.NF
 obtain ⟨W1, hW1, HB, x0, x1, x2, x3, x4, x5, x6, f1⟩ := R.nbx 3 op v nm q1 0 d1 q2 0 d2 true p1 p2 W
 go_enter Tryz.func148, Tryz.ntmps148
 go_wp2
 go_ret
 exact ⟨rfl, by repeat (first | exact HB.out | exact R.nal | apply R.nst)⟩
theorem us_3_5 (op v p1 p2 : Int) (nm : ByteArray) (n1 n2 d1 d2 : Nat) (q1 q2 : Option Addr) (has : Bool) (W : World) (h_op : (op == 0) = true) (h_v : (v == 0) = true) :
 R.NF 148 3 op v nm q1 0 d1 q2 0 d2 false p1 p2 W true := by
 unfold R.NF
 obtain ⟨W1, hW1, HB, x0, x1, x2, x3, x4, x5, x6, f1⟩ := R.nbx 3 op v nm q1 0 d1 q2 0 d2 false p1 p2 W
 go_enter Tryz.func148, Tryz.ntmps148
 go_wp2
 go_ret
 exact ⟨rfl, by repeat (first | exact HB.out | exact R.nal | apply R.nst)⟩
theorem us_4f_0 (op v p1 p2 : Int) (nm : ByteArray) (n1 n2 d1 d2 : Nat) (q1 q2 : Option Addr) (has : Bool) (W : World) (h_op : (op == 0) = false) :
 R.NF 148 4 op v nm q1 n1 d1 q2 n2 d2 false p1 p2 W false := by
 unfold R.NF
 obtain ⟨W1, hW1, HB, x0, x1, x2, x3, x4, x5, x6, f1⟩ := R.nbx 4 op v nm q1 n1 d1 q2 n2 d2 false p1 p2 W
 go_enter Tryz.func148, Tryz.ntmps148
 go_wp2
 go_ret
 exact ⟨rfl, by repeat (first | exact HB.out | exact R.nal | apply R.nst)⟩
theorem us_4f_1 (op v p1 p2 : Int) (nm : ByteArray) (n1 n2 d1 d2 : Nat) (q1 q2 : Option Addr) (has : Bool) (W : World) (h_op : (op == 0) = true) (h_v : (v == 0) = false) :
 R.NF 148 4 op v nm q1 n1 d1 q2 n2 d2 false p1 p2 W false := by
 unfold R.NF
 obtain ⟨W1, hW1, HB, x0, x1, x2, x3, x4, x5, x6, f1⟩ := R.nbx 4 op v nm q1 n1 d1 q2 n2 d2 false p1 p2 W
 go_enter Tryz.func148, Tryz.ntmps148
 go_wp2
 go_ret
 exact ⟨rfl, by repeat (first | exact HB.out | exact R.nal | apply R.nst)⟩
theorem us_4f_2 (op v p1 p2 : Int) (nm : ByteArray) (n1 n2 d1 d2 : Nat) (q1 q2 : Option Addr) (has : Bool) (W : World) (h_op : (op == 0) = true) (h_v : (v == 0) = true) (h_nm : nm.toList.isEmpty = false) :
 R.NF 148 4 op v nm q1 n1 d1 q2 n2 d2 false p1 p2 W false := by
 unfold R.NF
 obtain ⟨W1, hW1, HB, x0, x1, x2, x3, x4, x5, x6, f1⟩ := R.nbx 4 op v nm q1 n1 d1 q2 n2 d2 false p1 p2 W
 go_enter Tryz.func148, Tryz.ntmps148
 go_wp2
 go_ret
 exact ⟨rfl, by repeat (first | exact HB.out | exact R.nal | apply R.nst)⟩
theorem us_4f_3 (op v p1 p2 : Int) (nm : ByteArray) (n1 n2 d1 d2 : Nat) (q1 q2 : Option Addr) (has : Bool) (W : World) (h_op : (op == 0) = true) (h_v : (v == 0) = true) (h_nm : nm.toList.isEmpty = true) (h_el : (((n2 + 1 : Nat) : Int) == 0) = false) :
 R.NF 148 4 op v nm q1 n1 d1 q2 (n2 + 1) d2 false p1 p2 W false := by
 unfold R.NF
 obtain ⟨W1, hW1, HB, x0, x1, x2, x3, x4, x5, x6, f1⟩ := R.nbx 4 op v nm q1 n1 d1 q2 (n2 + 1) d2 false p1 p2 W
 go_enter Tryz.func148, Tryz.ntmps148
 go_wp2
 go_ret
 exact ⟨rfl, by repeat (first | exact HB.out | exact R.nal | apply R.nst)⟩
theorem us_4f_4 (op v p1 p2 : Int) (nm : ByteArray) (n1 n2 d1 d2 : Nat) (q1 q2 : Option Addr) (has : Bool) (W : World) (h_op : (op == 0) = true) (h_v : (v == 0) = true) (h_nm : nm.toList.isEmpty = true) :
 R.NF 148 4 op v nm q1 n1 d1 q2 0 d2 false p1 p2 W true := by
 unfold R.NF
 obtain ⟨W1, hW1, HB, x0, x1, x2, x3, x4, x5, x6, f1⟩ := R.nbx 4 op v nm q1 n1 d1 q2 0 d2 false p1 p2 W
 go_enter Tryz.func148, Tryz.ntmps148
 go_wp2
 go_ret
 exact ⟨rfl, by repeat (first | exact HB.out | exact R.nal | apply R.nst)⟩
theorem us_4t_0 (op v p1 p2 : Int) (nm : ByteArray) (n1 n2 d1 d2 : Nat) (q1 q2 : Option Addr) (has : Bool) (W : World) (h_op : (op == 0) = false) :
 R.NF 148 4 op v nm q1 n1 d1 q2 n2 d2 true p1 p2 W false := by
 unfold R.NF
 obtain ⟨W1, hW1, HB, x0, x1, x2, x3, x4, x5, x6, f1⟩ := R.nbx 4 op v nm q1 n1 d1 q2 n2 d2 true p1 p2 W
 go_enter Tryz.func148, Tryz.ntmps148
 go_wp2
 go_ret
 exact ⟨rfl, by repeat (first | exact HB.out | exact R.nal | apply R.nst)⟩
theorem us_4t_1 (op v p1 p2 : Int) (nm : ByteArray) (n1 n2 d1 d2 : Nat) (q1 q2 : Option Addr) (has : Bool) (W : World) (h_op : (op == 0) = true) (h_v : (v == 0) = false) :
 R.NF 148 4 op v nm q1 n1 d1 q2 n2 d2 true p1 p2 W false := by
 unfold R.NF
 obtain ⟨W1, hW1, HB, x0, x1, x2, x3, x4, x5, x6, f1⟩ := R.nbx 4 op v nm q1 n1 d1 q2 n2 d2 true p1 p2 W
 go_enter Tryz.func148, Tryz.ntmps148
 go_wp2
 go_ret
 exact ⟨rfl, by repeat (first | exact HB.out | exact R.nal | apply R.nst)⟩
theorem us_4t_2 (op v p1 p2 : Int) (nm : ByteArray) (n1 n2 d1 d2 : Nat) (q1 q2 : Option Addr) (has : Bool) (W : World) (h_op : (op == 0) = true) (h_v : (v == 0) = true) (h_nm : nm.toList.isEmpty = false) :
 R.NF 148 4 op v nm q1 n1 d1 q2 n2 d2 true p1 p2 W false := by
 unfold R.NF
 obtain ⟨W1, hW1, HB, x0, x1, x2, x3, x4, x5, x6, f1⟩ := R.nbx 4 op v nm q1 n1 d1 q2 n2 d2 true p1 p2 W
 go_enter Tryz.func148, Tryz.ntmps148
 go_wp2
 go_ret
 exact ⟨rfl, by repeat (first | exact HB.out | exact R.nal | apply R.nst)⟩
theorem us_4t_3 (op v p1 p2 : Int) (nm : ByteArray) (n1 n2 d1 d2 : Nat) (q1 q2 : Option Addr) (has : Bool) (W : World) (h_op : (op == 0) = true) (h_v : (v == 0) = true) (h_nm : nm.toList.isEmpty = true) :
 R.NF 148 4 op v nm q1 n1 d1 q2 n2 d2 true p1 p2 W true := by
 unfold R.NF
 obtain ⟨W1, hW1, HB, x0, x1, x2, x3, x4, x5, x6, f1⟩ := R.nbx 4 op v nm q1 n1 d1 q2 n2 d2 true p1 p2 W
 go_enter Tryz.func148, Tryz.ntmps148
 go_wp2
 go_ret
 exact ⟨rfl, by repeat (first | exact HB.out | exact R.nal | apply R.nst)⟩
theorem us_5_0 (op v p1 p2 : Int) (nm : ByteArray) (n1 n2 d1 d2 : Nat) (q1 q2 : Option Addr) (has : Bool) (W : World) (h_op : (op == 0) = false) :
 R.NF 148 5 op v nm q1 n1 d1 q2 n2 d2 has p1 p2 W false := by
 unfold R.NF
 obtain ⟨W1, hW1, HB, x0, x1, x2, x3, x4, x5, x6, f1⟩ := R.nbx 5 op v nm q1 n1 d1 q2 n2 d2 has p1 p2 W
 go_enter Tryz.func148, Tryz.ntmps148
 go_wp2
 go_ret
 exact ⟨rfl, by repeat (first | exact HB.out | exact R.nal | apply R.nst)⟩
theorem us_5_1 (op v p1 p2 : Int) (nm : ByteArray) (n1 n2 d1 d2 : Nat) (q1 q2 : Option Addr) (has : Bool) (W : World) (h_op : (op == 0) = true) (h_v : (v == 0) = false) :
 R.NF 148 5 op v nm q1 n1 d1 q2 n2 d2 has p1 p2 W false := by
 unfold R.NF
 obtain ⟨W1, hW1, HB, x0, x1, x2, x3, x4, x5, x6, f1⟩ := R.nbx 5 op v nm q1 n1 d1 q2 n2 d2 has p1 p2 W
 go_enter Tryz.func148, Tryz.ntmps148
 go_wp2
 go_ret
 exact ⟨rfl, by repeat (first | exact HB.out | exact R.nal | apply R.nst)⟩
theorem us_5_2 (op v p1 p2 : Int) (nm : ByteArray) (n1 n2 d1 d2 : Nat) (q1 q2 : Option Addr) (has : Bool) (W : World) (h_op : (op == 0) = true) (h_v : (v == 0) = true) (h_nm : nm.toList.isEmpty = false) :
 R.NF 148 5 op v nm q1 n1 d1 q2 n2 d2 has p1 p2 W false := by
 unfold R.NF
 obtain ⟨W1, hW1, HB, x0, x1, x2, x3, x4, x5, x6, f1⟩ := R.nbx 5 op v nm q1 n1 d1 q2 n2 d2 has p1 p2 W
 go_enter Tryz.func148, Tryz.ntmps148
 go_wp2
 go_ret
 exact ⟨rfl, by repeat (first | exact HB.out | exact R.nal | apply R.nst)⟩
theorem us_5_3 (op v p1 p2 : Int) (nm : ByteArray) (n1 n2 d1 d2 : Nat) (q1 q2 : Option Addr) (has : Bool) (W : World) (h_op : (op == 0) = true) (h_v : (v == 0) = true) (h_nm : nm.toList.isEmpty = true) (h_el : (((n2 + 1 : Nat) : Int) == 0) = false) :
 R.NF 148 5 op v nm q1 n1 d1 q2 (n2 + 1) d2 has p1 p2 W false := by
 unfold R.NF
 obtain ⟨W1, hW1, HB, x0, x1, x2, x3, x4, x5, x6, f1⟩ := R.nbx 5 op v nm q1 n1 d1 q2 (n2 + 1) d2 has p1 p2 W
 go_enter Tryz.func148, Tryz.ntmps148
 go_wp2
 go_ret
 exact ⟨rfl, by repeat (first | exact HB.out | exact R.nal | apply R.nst)⟩
theorem us_5_4 (op v p1 p2 : Int) (nm : ByteArray) (n1 n2 d1 d2 : Nat) (q1 q2 : Option Addr) (has : Bool) (W : World) (h_op : (op == 0) = true) (h_v : (v == 0) = true) (h_nm : nm.toList.isEmpty = true) :
 R.NF 148 5 op v nm q1 n1 d1 q2 0 d2 true p1 p2 W false := by
 unfold R.NF
 obtain ⟨W1, hW1, HB, x0, x1, x2, x3, x4, x5, x6, f1⟩ := R.nbx 5 op v nm q1 n1 d1 q2 0 d2 true p1 p2 W
 go_enter Tryz.func148, Tryz.ntmps148
 go_wp2
 go_ret
 exact ⟨rfl, by repeat (first | exact HB.out | exact R.nal | apply R.nst)⟩
theorem us_5_5 (op v p1 p2 : Int) (nm : ByteArray) (n1 n2 d1 d2 : Nat) (q1 q2 : Option Addr) (has : Bool) (W : World) (h_op : (op == 0) = true) (h_v : (v == 0) = true) (h_nm : nm.toList.isEmpty = true) :
 R.NF 148 5 op v nm q1 n1 d1 q2 0 d2 false p1 p2 W true := by
 unfold R.NF
 obtain ⟨W1, hW1, HB, x0, x1, x2, x3, x4, x5, x6, f1⟩ := R.nbx 5 op v nm q1 n1 d1 q2 0 d2 false p1 p2 W
 go_enter Tryz.func148, Tryz.ntmps148
 go_wp2
 go_ret
 exact ⟨rfl, by repeat (first | exact HB.out | exact R.nal | apply R.nst)⟩
theorem us_6_0 (op v p1 p2 : Int) (nm : ByteArray) (n1 n2 d1 d2 : Nat) (q1 q2 : Option Addr) (has : Bool) (W : World) (h_op : (op == 0) = false) :
 R.NF 148 6 op v nm q1 n1 d1 q2 n2 d2 has p1 p2 W false := by
 unfold R.NF
 obtain ⟨W1, hW1, HB, x0, x1, x2, x3, x4, x5, x6, f1⟩ := R.nbx 6 op v nm q1 n1 d1 q2 n2 d2 has p1 p2 W
 go_enter Tryz.func148, Tryz.ntmps148
 go_wp2
 go_ret
 exact ⟨rfl, by repeat (first | exact HB.out | exact R.nal | apply R.nst)⟩
theorem us_6_1 (op v p1 p2 : Int) (nm : ByteArray) (n1 n2 d1 d2 : Nat) (q1 q2 : Option Addr) (has : Bool) (W : World) (h_op : (op == 0) = true) (h_v : (v == 0) = false) :
 R.NF 148 6 op v nm q1 n1 d1 q2 n2 d2 has p1 p2 W false := by
 unfold R.NF
 obtain ⟨W1, hW1, HB, x0, x1, x2, x3, x4, x5, x6, f1⟩ := R.nbx 6 op v nm q1 n1 d1 q2 n2 d2 has p1 p2 W
 go_enter Tryz.func148, Tryz.ntmps148
 go_wp2
 go_ret
 exact ⟨rfl, by repeat (first | exact HB.out | exact R.nal | apply R.nst)⟩
theorem us_6_2 (op v p1 p2 : Int) (nm : ByteArray) (n1 n2 d1 d2 : Nat) (q1 q2 : Option Addr) (has : Bool) (W : World) (h_op : (op == 0) = true) (h_v : (v == 0) = true) (h_nm : nm.toList.isEmpty = false) :
 R.NF 148 6 op v nm q1 n1 d1 q2 n2 d2 has p1 p2 W false := by
 unfold R.NF
 obtain ⟨W1, hW1, HB, x0, x1, x2, x3, x4, x5, x6, f1⟩ := R.nbx 6 op v nm q1 n1 d1 q2 n2 d2 has p1 p2 W
 go_enter Tryz.func148, Tryz.ntmps148
 go_wp2
 go_ret
 exact ⟨rfl, by repeat (first | exact HB.out | exact R.nal | apply R.nst)⟩
theorem us_6_3 (op v p1 p2 : Int) (nm : ByteArray) (n1 n2 d1 d2 : Nat) (q1 q2 : Option Addr) (has : Bool) (W : World) (h_op : (op == 0) = true) (h_v : (v == 0) = true) (h_nm : nm.toList.isEmpty = true) :
 R.NF 148 6 op v nm q1 n1 d1 q2 n2 d2 true p1 p2 W false := by
 unfold R.NF
 obtain ⟨W1, hW1, HB, x0, x1, x2, x3, x4, x5, x6, f1⟩ := R.nbx 6 op v nm q1 n1 d1 q2 n2 d2 true p1 p2 W
 go_enter Tryz.func148, Tryz.ntmps148
 go_wp2
 go_ret
 exact ⟨rfl, by repeat (first | exact HB.out | exact R.nal | apply R.nst)⟩
theorem us_6_4 (op v p1 p2 : Int) (nm : ByteArray) (n1 n2 d1 d2 : Nat) (q1 q2 : Option Addr) (has : Bool) (W : World) (h_op : (op == 0) = true) (h_v : (v == 0) = true) (h_nm : nm.toList.isEmpty = true) :
 R.NF 148 6 op v nm q1 n1 d1 q2 n2 d2 false p1 p2 W true := by
 unfold R.NF
 obtain ⟨W1, hW1, HB, x0, x1, x2, x3, x4, x5, x6, f1⟩ := R.nbx 6 op v nm q1 n1 d1 q2 n2 d2 false p1 p2 W
 go_enter Tryz.func148, Tryz.ntmps148
 go_wp2
 go_ret
 exact ⟨rfl, by repeat (first | exact HB.out | exact R.nal | apply R.nst)⟩
theorem us_7_0 (op v p1 p2 : Int) (nm : ByteArray) (n1 n2 d1 d2 : Nat) (q1 q2 : Option Addr) (has : Bool) (W : World) (h_op : (op == 0) = false) :
 R.NF 148 7 op v nm q1 n1 d1 q2 n2 d2 has p1 p2 W false := by
 unfold R.NF
 obtain ⟨W1, hW1, HB, x0, x1, x2, x3, x4, x5, x6, f1⟩ := R.nbx 7 op v nm q1 n1 d1 q2 n2 d2 has p1 p2 W
 go_enter Tryz.func148, Tryz.ntmps148
 go_wp2
 go_ret
 exact ⟨rfl, by repeat (first | exact HB.out | exact R.nal | apply R.nst)⟩
theorem us_7_1 (op v p1 p2 : Int) (nm : ByteArray) (n1 n2 d1 d2 : Nat) (q1 q2 : Option Addr) (has : Bool) (W : World) (h_op : (op == 0) = true) (h_v : (v == 0) = false) :
 R.NF 148 7 op v nm q1 n1 d1 q2 n2 d2 has p1 p2 W false := by
 unfold R.NF
 obtain ⟨W1, hW1, HB, x0, x1, x2, x3, x4, x5, x6, f1⟩ := R.nbx 7 op v nm q1 n1 d1 q2 n2 d2 has p1 p2 W
 go_enter Tryz.func148, Tryz.ntmps148
 go_wp2
 go_ret
 exact ⟨rfl, by repeat (first | exact HB.out | exact R.nal | apply R.nst)⟩
theorem us_7_2 (op v p1 p2 : Int) (nm : ByteArray) (n1 n2 d1 d2 : Nat) (q1 q2 : Option Addr) (has : Bool) (W : World) (h_op : (op == 0) = true) (h_v : (v == 0) = true) (h_nm : nm.toList.isEmpty = false) :
 R.NF 148 7 op v nm q1 n1 d1 q2 n2 d2 has p1 p2 W false := by
 unfold R.NF
 obtain ⟨W1, hW1, HB, x0, x1, x2, x3, x4, x5, x6, f1⟩ := R.nbx 7 op v nm q1 n1 d1 q2 n2 d2 has p1 p2 W
 go_enter Tryz.func148, Tryz.ntmps148
 go_wp2
 go_ret
 exact ⟨rfl, by repeat (first | exact HB.out | exact R.nal | apply R.nst)⟩
theorem us_7_3 (op v p1 p2 : Int) (nm : ByteArray) (n1 n2 d1 d2 : Nat) (q1 q2 : Option Addr) (has : Bool) (W : World) (h_op : (op == 0) = true) (h_v : (v == 0) = true) (h_nm : nm.toList.isEmpty = true) (h_el : (((n2 + 1 : Nat) : Int) == 0) = false) :
 R.NF 148 7 op v nm q1 n1 d1 q2 (n2 + 1) d2 has p1 p2 W false := by
 unfold R.NF
 obtain ⟨W1, hW1, HB, x0, x1, x2, x3, x4, x5, x6, f1⟩ := R.nbx 7 op v nm q1 n1 d1 q2 (n2 + 1) d2 has p1 p2 W
 go_enter Tryz.func148, Tryz.ntmps148
 go_wp2
 go_ret
 exact ⟨rfl, by repeat (first | exact HB.out | exact R.nal | apply R.nst)⟩
theorem us_7_4 (op v p1 p2 : Int) (nm : ByteArray) (n1 n2 d1 d2 : Nat) (q1 q2 : Option Addr) (has : Bool) (W : World) (h_op : (op == 0) = true) (h_v : (v == 0) = true) (h_nm : nm.toList.isEmpty = true) :
 R.NF 148 7 op v nm q1 n1 d1 q2 0 d2 true p1 p2 W false := by
 unfold R.NF
 obtain ⟨W1, hW1, HB, x0, x1, x2, x3, x4, x5, x6, f1⟩ := R.nbx 7 op v nm q1 n1 d1 q2 0 d2 true p1 p2 W
 go_enter Tryz.func148, Tryz.ntmps148
 go_wp2
 go_ret
 exact ⟨rfl, by repeat (first | exact HB.out | exact R.nal | apply R.nst)⟩
theorem us_7_5 (op v p1 p2 : Int) (nm : ByteArray) (n1 n2 d1 d2 : Nat) (q1 q2 : Option Addr) (has : Bool) (W : World) (h_op : (op == 0) = true) (h_v : (v == 0) = true) (h_nm : nm.toList.isEmpty = true) :
 R.NF 148 7 op v nm q1 n1 d1 q2 0 d2 false p1 p2 W true := by
 unfold R.NF
 obtain ⟨W1, hW1, HB, x0, x1, x2, x3, x4, x5, x6, f1⟩ := R.nbx 7 op v nm q1 n1 d1 q2 0 d2 false p1 p2 W
 go_enter Tryz.func148, Tryz.ntmps148
 go_wp2
 go_ret
 exact ⟨rfl, by repeat (first | exact HB.out | exact R.nal | apply R.nst)⟩
theorem us_8_0 (op v p1 p2 : Int) (nm : ByteArray) (n1 n2 d1 d2 : Nat) (q1 q2 : Option Addr) (has : Bool) (W : World) (h_op : (op == 0) = false) :
 R.NF 148 8 op v nm q1 n1 d1 q2 n2 d2 has p1 p2 W false := by
 unfold R.NF
 obtain ⟨W1, hW1, HB, x0, x1, x2, x3, x4, x5, x6, f1⟩ := R.nbx 8 op v nm q1 n1 d1 q2 n2 d2 has p1 p2 W
 go_enter Tryz.func148, Tryz.ntmps148
 go_wp2
 go_ret
 exact ⟨rfl, by repeat (first | exact HB.out | exact R.nal | apply R.nst)⟩
theorem us_8_1 (op v p1 p2 : Int) (nm : ByteArray) (n1 n2 d1 d2 : Nat) (q1 q2 : Option Addr) (has : Bool) (W : World) (h_op : (op == 0) = true) (h_v : (v == 0) = false) :
 R.NF 148 8 op v nm q1 n1 d1 q2 n2 d2 has p1 p2 W false := by
 unfold R.NF
 obtain ⟨W1, hW1, HB, x0, x1, x2, x3, x4, x5, x6, f1⟩ := R.nbx 8 op v nm q1 n1 d1 q2 n2 d2 has p1 p2 W
 go_enter Tryz.func148, Tryz.ntmps148
 go_wp2
 go_ret
 exact ⟨rfl, by repeat (first | exact HB.out | exact R.nal | apply R.nst)⟩
theorem us_8_2 (op v p1 p2 : Int) (nm : ByteArray) (n1 n2 d1 d2 : Nat) (q1 q2 : Option Addr) (has : Bool) (W : World) (h_op : (op == 0) = true) (h_v : (v == 0) = true) (h_nm : nm.toList.isEmpty = false) :
 R.NF 148 8 op v nm q1 n1 d1 q2 n2 d2 has p1 p2 W false := by
 unfold R.NF
 obtain ⟨W1, hW1, HB, x0, x1, x2, x3, x4, x5, x6, f1⟩ := R.nbx 8 op v nm q1 n1 d1 q2 n2 d2 has p1 p2 W
 go_enter Tryz.func148, Tryz.ntmps148
 go_wp2
 go_ret
 exact ⟨rfl, by repeat (first | exact HB.out | exact R.nal | apply R.nst)⟩
theorem us_8_3 (op v p1 p2 : Int) (nm : ByteArray) (n1 n2 d1 d2 : Nat) (q1 q2 : Option Addr) (has : Bool) (W : World) (h_op : (op == 0) = true) (h_v : (v == 0) = true) (h_nm : nm.toList.isEmpty = true) (h_el : (((n2 + 1 : Nat) : Int) == 0) = false) :
 R.NF 148 8 op v nm q1 n1 d1 q2 (n2 + 1) d2 has p1 p2 W false := by
 unfold R.NF
 obtain ⟨W1, hW1, HB, x0, x1, x2, x3, x4, x5, x6, f1⟩ := R.nbx 8 op v nm q1 n1 d1 q2 (n2 + 1) d2 has p1 p2 W
 go_enter Tryz.func148, Tryz.ntmps148
 go_wp2
 go_ret
 exact ⟨rfl, by repeat (first | exact HB.out | exact R.nal | apply R.nst)⟩
theorem us_8_4 (op v p1 p2 : Int) (nm : ByteArray) (n1 n2 d1 d2 : Nat) (q1 q2 : Option Addr) (has : Bool) (W : World) (h_op : (op == 0) = true) (h_v : (v == 0) = true) (h_nm : nm.toList.isEmpty = true) :
 R.NF 148 8 op v nm q1 n1 d1 q2 0 d2 true p1 p2 W false := by
 unfold R.NF
 obtain ⟨W1, hW1, HB, x0, x1, x2, x3, x4, x5, x6, f1⟩ := R.nbx 8 op v nm q1 n1 d1 q2 0 d2 true p1 p2 W
 go_enter Tryz.func148, Tryz.ntmps148
 go_wp2
 go_ret
 exact ⟨rfl, by repeat (first | exact HB.out | exact R.nal | apply R.nst)⟩
theorem us_8_5 (op v p1 p2 : Int) (nm : ByteArray) (n1 n2 d1 d2 : Nat) (q1 q2 : Option Addr) (has : Bool) (W : World) (h_op : (op == 0) = true) (h_v : (v == 0) = true) (h_nm : nm.toList.isEmpty = true) :
 R.NF 148 8 op v nm q1 n1 d1 q2 0 d2 false p1 p2 W true := by
 unfold R.NF
 obtain ⟨W1, hW1, HB, x0, x1, x2, x3, x4, x5, x6, f1⟩ := R.nbx 8 op v nm q1 n1 d1 q2 0 d2 false p1 p2 W
 go_enter Tryz.func148, Tryz.ntmps148
 go_wp2
 go_ret
 exact ⟨rfl, by repeat (first | exact HB.out | exact R.nal | apply R.nst)⟩
theorem us_9_0 (op v p1 p2 : Int) (nm : ByteArray) (n1 n2 d1 d2 : Nat) (q1 q2 : Option Addr) (has : Bool) (W : World) (h_op : (op == 0) = false) :
 R.NF 148 9 op v nm q1 n1 d1 q2 n2 d2 has p1 p2 W false := by
 unfold R.NF
 obtain ⟨W1, hW1, HB, x0, x1, x2, x3, x4, x5, x6, f1⟩ := R.nbx 9 op v nm q1 n1 d1 q2 n2 d2 has p1 p2 W
 go_enter Tryz.func148, Tryz.ntmps148
 go_wp2
 go_ret
 exact ⟨rfl, by repeat (first | exact HB.out | exact R.nal | apply R.nst)⟩
theorem us_9_1 (op v p1 p2 : Int) (nm : ByteArray) (n1 n2 d1 d2 : Nat) (q1 q2 : Option Addr) (has : Bool) (W : World) (h_op : (op == 0) = true) (h_v : (v == 0) = false) :
 R.NF 148 9 op v nm q1 n1 d1 q2 n2 d2 has p1 p2 W false := by
 unfold R.NF
 obtain ⟨W1, hW1, HB, x0, x1, x2, x3, x4, x5, x6, f1⟩ := R.nbx 9 op v nm q1 n1 d1 q2 n2 d2 has p1 p2 W
 go_enter Tryz.func148, Tryz.ntmps148
 go_wp2
 go_ret
 exact ⟨rfl, by repeat (first | exact HB.out | exact R.nal | apply R.nst)⟩
theorem us_9_2 (op v p1 p2 : Int) (nm : ByteArray) (n1 n2 d1 d2 : Nat) (q1 q2 : Option Addr) (has : Bool) (W : World) (h_op : (op == 0) = true) (h_v : (v == 0) = true) (h_nm : nm.toList.isEmpty = false) :
 R.NF 148 9 op v nm q1 n1 d1 q2 n2 d2 has p1 p2 W false := by
 unfold R.NF
 obtain ⟨W1, hW1, HB, x0, x1, x2, x3, x4, x5, x6, f1⟩ := R.nbx 9 op v nm q1 n1 d1 q2 n2 d2 has p1 p2 W
 go_enter Tryz.func148, Tryz.ntmps148
 go_wp2
 go_ret
 exact ⟨rfl, by repeat (first | exact HB.out | exact R.nal | apply R.nst)⟩
theorem us_9_3 (op v p1 p2 : Int) (nm : ByteArray) (n1 n2 d1 d2 : Nat) (q1 q2 : Option Addr) (has : Bool) (W : World) (h_op : (op == 0) = true) (h_v : (v == 0) = true) (h_nm : nm.toList.isEmpty = true) (h_th : (((n1 + 1 : Nat) : Int) == 0) = false) :
 R.NF 148 9 op v nm q1 (n1 + 1) d1 q2 n2 d2 has p1 p2 W false := by
 unfold R.NF
 obtain ⟨W1, hW1, HB, x0, x1, x2, x3, x4, x5, x6, f1⟩ := R.nbx 9 op v nm q1 (n1 + 1) d1 q2 n2 d2 has p1 p2 W
 go_enter Tryz.func148, Tryz.ntmps148
 go_wp2
 go_ret
 exact ⟨rfl, by repeat (first | exact HB.out | exact R.nal | apply R.nst)⟩
theorem us_9_4 (op v p1 p2 : Int) (nm : ByteArray) (n1 n2 d1 d2 : Nat) (q1 q2 : Option Addr) (has : Bool) (W : World) (h_op : (op == 0) = true) (h_v : (v == 0) = true) (h_nm : nm.toList.isEmpty = true) (h_el : (((n2 + 1 : Nat) : Int) == 0) = false) :
 R.NF 148 9 op v nm q1 0 d1 q2 (n2 + 1) d2 has p1 p2 W false := by
 unfold R.NF
 obtain ⟨W1, hW1, HB, x0, x1, x2, x3, x4, x5, x6, f1⟩ := R.nbx 9 op v nm q1 0 d1 q2 (n2 + 1) d2 has p1 p2 W
 go_enter Tryz.func148, Tryz.ntmps148
 go_wp2
 go_ret
 exact ⟨rfl, by repeat (first | exact HB.out | exact R.nal | apply R.nst)⟩
theorem us_9_5 (op v p1 p2 : Int) (nm : ByteArray) (n1 n2 d1 d2 : Nat) (q1 q2 : Option Addr) (has : Bool) (W : World) (h_op : (op == 0) = true) (h_v : (v == 0) = true) (h_nm : nm.toList.isEmpty = true) :
 R.NF 148 9 op v nm q1 0 d1 q2 0 d2 true p1 p2 W false := by
 unfold R.NF
 obtain ⟨W1, hW1, HB, x0, x1, x2, x3, x4, x5, x6, f1⟩ := R.nbx 9 op v nm q1 0 d1 q2 0 d2 true p1 p2 W
 go_enter Tryz.func148, Tryz.ntmps148
 go_wp2
 go_ret
 exact ⟨rfl, by repeat (first | exact HB.out | exact R.nal | apply R.nst)⟩
theorem us_9_6 (op v p1 p2 : Int) (nm : ByteArray) (n1 n2 d1 d2 : Nat) (q1 q2 : Option Addr) (has : Bool) (W : World) (h_op : (op == 0) = true) (h_v : (v == 0) = true) (h_nm : nm.toList.isEmpty = true) :
 R.NF 148 9 op v nm q1 0 d1 q2 0 d2 false p1 p2 W true := by
 unfold R.NF
 obtain ⟨W1, hW1, HB, x0, x1, x2, x3, x4, x5, x6, f1⟩ := R.nbx 9 op v nm q1 0 d1 q2 0 d2 false p1 p2 W
 go_enter Tryz.func148, Tryz.ntmps148
 go_wp2
 go_ret
 exact ⟨rfl, by repeat (first | exact HB.out | exact R.nal | apply R.nst)⟩
set_option maxHeartbeats 2000000
set_option maxRecDepth 100000
theorem len_ne (n : Nat) : (((n + 1 : Nat) : Int) == 0) = false := by
 rw [Bool.eq_false_iff]; intro c; have := eq_of_beq c; omega
theorem uses_1 (op v p1 p2 : Int) (nm : ByteArray) (th el : List Nd) (d1 d2 : Nat) (q1 q2 : Option Addr) (has : Bool) (W : World) :
  Calls Tryz.prog 148 #[.agg #[.int .i64 1, .int .i64 op, .int .u16 v, .string nm, .slice q1 th.length d1, .slice q2 el.length d2, .bool has, .int .i64 p1, .int .i64 p2]] W fun e w' => e = .returned (.bool (usesF 1 op v nm th.isEmpty el.isEmpty has)) /\ Below W.heap.size W w' := by
 cases h_v : (v == 0)
 ·
  have E : usesF 1 op v nm (th).isEmpty (el).isEmpty has = false := by unfold usesF strc; simp [h_v]
  rw [E]
  exact us_1_0 op v p1 p2 nm ((th).length) ((el).length) d1 d2 q1 q2 has W h_v
 ·
  cases h_nm : (nm.toList.isEmpty)
  ·
   have E : usesF 1 op v nm (th).isEmpty (el).isEmpty has = false := by unfold usesF strc; simp [h_v, h_nm]
   rw [E]
   exact us_1_1 op v p1 p2 nm ((th).length) ((el).length) d1 d2 q1 q2 has W h_v h_nm
  ·
   rcases th with _ | ⟨th_a, th_r⟩
   ·
    rcases el with _ | ⟨el_a, el_r⟩
    ·
     cases has
     ·
      have E : usesF 1 op v nm (([] : List Nd)).isEmpty (([] : List Nd)).isEmpty false = true := by unfold usesF strc; simp [h_v, h_nm]
      rw [E]
      exact us_1_5 op v p1 p2 nm ((([] : List Nd)).length) ((([] : List Nd)).length) d1 d2 q1 q2 false W h_v h_nm
     ·
      have E : usesF 1 op v nm (([] : List Nd)).isEmpty (([] : List Nd)).isEmpty true = false := by unfold usesF strc; simp [h_v, h_nm]
      rw [E]
      exact us_1_4 op v p1 p2 nm ((([] : List Nd)).length) ((([] : List Nd)).length) d1 d2 q1 q2 true W h_v h_nm
    ·
     have E : usesF 1 op v nm (([] : List Nd)).isEmpty ((el_a :: el_r)).isEmpty has = false := by unfold usesF strc; simp [h_v, h_nm]
     rw [E]
     exact us_1_3 op v p1 p2 nm ((([] : List Nd)).length) (el_r.length) d1 d2 q1 q2 has W h_v h_nm (len_ne _)
   ·
    have E : usesF 1 op v nm ((th_a :: th_r)).isEmpty (el).isEmpty has = false := by unfold usesF strc; simp [h_v, h_nm]
    rw [E]
    exact us_1_2 op v p1 p2 nm (th_r.length) ((el).length) d1 d2 q1 q2 has W h_v h_nm (len_ne _)
theorem uses_2 (op v p1 p2 : Int) (nm : ByteArray) (th el : List Nd) (d1 d2 : Nat) (q1 q2 : Option Addr) (has : Bool) (W : World) :
  Calls Tryz.prog 148 #[.agg #[.int .i64 2, .int .i64 op, .int .u16 v, .string nm, .slice q1 th.length d1, .slice q2 el.length d2, .bool has, .int .i64 p1, .int .i64 p2]] W fun e w' => e = .returned (.bool (usesF 2 op v nm th.isEmpty el.isEmpty has)) /\ Below W.heap.size W w' := by
 cases h_op : (op == 0)
 ·
  have E : usesF 2 op v nm (th).isEmpty (el).isEmpty has = false := by unfold usesF strc; simp [h_op]
  rw [E]
  exact us_2_0 op v p1 p2 nm ((th).length) ((el).length) d1 d2 q1 q2 has W h_op
 ·
  cases h_nm : (nm.toList.isEmpty)
  ·
   have E : usesF 2 op v nm (th).isEmpty (el).isEmpty has = false := by unfold usesF strc; simp [h_op, h_nm]
   rw [E]
   exact us_2_1 op v p1 p2 nm ((th).length) ((el).length) d1 d2 q1 q2 has W h_op h_nm
  ·
   rcases th with _ | ⟨th_a, th_r⟩
   ·
    rcases el with _ | ⟨el_a, el_r⟩
    ·
     cases has
     ·
      have E : usesF 2 op v nm (([] : List Nd)).isEmpty (([] : List Nd)).isEmpty false = true := by unfold usesF strc; simp [h_op, h_nm]
      rw [E]
      exact us_2_5 op v p1 p2 nm ((([] : List Nd)).length) ((([] : List Nd)).length) d1 d2 q1 q2 false W h_op h_nm
     ·
      have E : usesF 2 op v nm (([] : List Nd)).isEmpty (([] : List Nd)).isEmpty true = false := by unfold usesF strc; simp [h_op, h_nm]
      rw [E]
      exact us_2_4 op v p1 p2 nm ((([] : List Nd)).length) ((([] : List Nd)).length) d1 d2 q1 q2 true W h_op h_nm
    ·
     have E : usesF 2 op v nm (([] : List Nd)).isEmpty ((el_a :: el_r)).isEmpty has = false := by unfold usesF strc; simp [h_op, h_nm]
     rw [E]
     exact us_2_3 op v p1 p2 nm ((([] : List Nd)).length) (el_r.length) d1 d2 q1 q2 has W h_op h_nm (len_ne _)
   ·
    have E : usesF 2 op v nm ((th_a :: th_r)).isEmpty (el).isEmpty has = false := by unfold usesF strc; simp [h_op, h_nm]
    rw [E]
    exact us_2_2 op v p1 p2 nm (th_r.length) ((el).length) d1 d2 q1 q2 has W h_op h_nm (len_ne _)
theorem uses_3 (op v p1 p2 : Int) (nm : ByteArray) (th el : List Nd) (d1 d2 : Nat) (q1 q2 : Option Addr) (has : Bool) (W : World) :
  Calls Tryz.prog 148 #[.agg #[.int .i64 3, .int .i64 op, .int .u16 v, .string nm, .slice q1 th.length d1, .slice q2 el.length d2, .bool has, .int .i64 p1, .int .i64 p2]] W fun e w' => e = .returned (.bool (usesF 3 op v nm th.isEmpty el.isEmpty has)) /\ Below W.heap.size W w' := by
 cases h_op : (op == 0)
 ·
  have E : usesF 3 op v nm (th).isEmpty (el).isEmpty has = false := by unfold usesF strc; simp [h_op]
  rw [E]
  exact us_3_0 op v p1 p2 nm ((th).length) ((el).length) d1 d2 q1 q2 has W h_op
 ·
  cases h_v : (v == 0)
  ·
   have E : usesF 3 op v nm (th).isEmpty (el).isEmpty has = false := by unfold usesF strc; simp [h_op, h_v]
   rw [E]
   exact us_3_1 op v p1 p2 nm ((th).length) ((el).length) d1 d2 q1 q2 has W h_op h_v
  ·
   rcases th with _ | ⟨th_a, th_r⟩
   ·
    rcases el with _ | ⟨el_a, el_r⟩
    ·
     cases has
     ·
      have E : usesF 3 op v nm (([] : List Nd)).isEmpty (([] : List Nd)).isEmpty false = true := by unfold usesF strc; simp [h_op, h_v]
      rw [E]
      exact us_3_5 op v p1 p2 nm ((([] : List Nd)).length) ((([] : List Nd)).length) d1 d2 q1 q2 false W h_op h_v
     ·
      have E : usesF 3 op v nm (([] : List Nd)).isEmpty (([] : List Nd)).isEmpty true = false := by unfold usesF strc; simp [h_op, h_v]
      rw [E]
      exact us_3_4 op v p1 p2 nm ((([] : List Nd)).length) ((([] : List Nd)).length) d1 d2 q1 q2 true W h_op h_v
    ·
     have E : usesF 3 op v nm (([] : List Nd)).isEmpty ((el_a :: el_r)).isEmpty has = false := by unfold usesF strc; simp [h_op, h_v]
     rw [E]
     exact us_3_3 op v p1 p2 nm ((([] : List Nd)).length) (el_r.length) d1 d2 q1 q2 has W h_op h_v (len_ne _)
   ·
    have E : usesF 3 op v nm ((th_a :: th_r)).isEmpty (el).isEmpty has = false := by unfold usesF strc; simp [h_op, h_v]
    rw [E]
    exact us_3_2 op v p1 p2 nm (th_r.length) ((el).length) d1 d2 q1 q2 has W h_op h_v (len_ne _)
theorem uses_4f (op v p1 p2 : Int) (nm : ByteArray) (th el : List Nd) (d1 d2 : Nat) (q1 q2 : Option Addr) (has : Bool) (W : World) :
  Calls Tryz.prog 148 #[.agg #[.int .i64 4, .int .i64 op, .int .u16 v, .string nm, .slice q1 th.length d1, .slice q2 el.length d2, .bool false, .int .i64 p1, .int .i64 p2]] W fun e w' => e = .returned (.bool (usesF 4 op v nm th.isEmpty el.isEmpty false)) /\ Below W.heap.size W w' := by
 cases h_op : (op == 0)
 ·
  have E : usesF 4 op v nm (th).isEmpty (el).isEmpty false = false := by unfold usesF strc; simp [h_op]
  rw [E]
  exact us_4f_0 op v p1 p2 nm ((th).length) ((el).length) d1 d2 q1 q2 false W h_op
 ·
  cases h_v : (v == 0)
  ·
   have E : usesF 4 op v nm (th).isEmpty (el).isEmpty false = false := by unfold usesF strc; simp [h_op, h_v]
   rw [E]
   exact us_4f_1 op v p1 p2 nm ((th).length) ((el).length) d1 d2 q1 q2 false W h_op h_v
  ·
   cases h_nm : (nm.toList.isEmpty)
   ·
    have E : usesF 4 op v nm (th).isEmpty (el).isEmpty false = false := by unfold usesF strc; simp [h_op, h_v, h_nm]
    rw [E]
    exact us_4f_2 op v p1 p2 nm ((th).length) ((el).length) d1 d2 q1 q2 false W h_op h_v h_nm
   ·
    rcases el with _ | ⟨el_a, el_r⟩
    ·
     have E : usesF 4 op v nm (th).isEmpty (([] : List Nd)).isEmpty false = true := by unfold usesF strc; simp [h_op, h_v, h_nm]
     rw [E]
     exact us_4f_4 op v p1 p2 nm ((th).length) ((([] : List Nd)).length) d1 d2 q1 q2 false W h_op h_v h_nm
    ·
     have E : usesF 4 op v nm (th).isEmpty ((el_a :: el_r)).isEmpty false = false := by unfold usesF strc; simp [h_op, h_v, h_nm]
     rw [E]
     exact us_4f_3 op v p1 p2 nm ((th).length) (el_r.length) d1 d2 q1 q2 false W h_op h_v h_nm (len_ne _)
theorem uses_4t (op v p1 p2 : Int) (nm : ByteArray) (th el : List Nd) (d1 d2 : Nat) (q1 q2 : Option Addr) (has : Bool) (W : World) :
  Calls Tryz.prog 148 #[.agg #[.int .i64 4, .int .i64 op, .int .u16 v, .string nm, .slice q1 th.length d1, .slice q2 el.length d2, .bool true, .int .i64 p1, .int .i64 p2]] W fun e w' => e = .returned (.bool (usesF 4 op v nm th.isEmpty el.isEmpty true)) /\ Below W.heap.size W w' := by
 cases h_op : (op == 0)
 ·
  have E : usesF 4 op v nm (th).isEmpty (el).isEmpty true = false := by unfold usesF strc; simp [h_op]
  rw [E]
  exact us_4t_0 op v p1 p2 nm ((th).length) ((el).length) d1 d2 q1 q2 true W h_op
 ·
  cases h_v : (v == 0)
  ·
   have E : usesF 4 op v nm (th).isEmpty (el).isEmpty true = false := by unfold usesF strc; simp [h_op, h_v]
   rw [E]
   exact us_4t_1 op v p1 p2 nm ((th).length) ((el).length) d1 d2 q1 q2 true W h_op h_v
  ·
   cases h_nm : (nm.toList.isEmpty)
   ·
    have E : usesF 4 op v nm (th).isEmpty (el).isEmpty true = false := by unfold usesF strc; simp [h_op, h_v, h_nm]
    rw [E]
    exact us_4t_2 op v p1 p2 nm ((th).length) ((el).length) d1 d2 q1 q2 true W h_op h_v h_nm
   ·
    have E : usesF 4 op v nm (th).isEmpty (el).isEmpty true = true := by unfold usesF strc; simp [h_op, h_v, h_nm]
    rw [E]
    exact us_4t_3 op v p1 p2 nm ((th).length) ((el).length) d1 d2 q1 q2 true W h_op h_v h_nm
theorem uses_5 (op v p1 p2 : Int) (nm : ByteArray) (th el : List Nd) (d1 d2 : Nat) (q1 q2 : Option Addr) (has : Bool) (W : World) :
  Calls Tryz.prog 148 #[.agg #[.int .i64 5, .int .i64 op, .int .u16 v, .string nm, .slice q1 th.length d1, .slice q2 el.length d2, .bool has, .int .i64 p1, .int .i64 p2]] W fun e w' => e = .returned (.bool (usesF 5 op v nm th.isEmpty el.isEmpty has)) /\ Below W.heap.size W w' := by
 cases h_op : (op == 0)
 ·
  have E : usesF 5 op v nm (th).isEmpty (el).isEmpty has = false := by unfold usesF strc; simp [h_op]
  rw [E]
  exact us_5_0 op v p1 p2 nm ((th).length) ((el).length) d1 d2 q1 q2 has W h_op
 ·
  cases h_v : (v == 0)
  ·
   have E : usesF 5 op v nm (th).isEmpty (el).isEmpty has = false := by unfold usesF strc; simp [h_op, h_v]
   rw [E]
   exact us_5_1 op v p1 p2 nm ((th).length) ((el).length) d1 d2 q1 q2 has W h_op h_v
  ·
   cases h_nm : (nm.toList.isEmpty)
   ·
    have E : usesF 5 op v nm (th).isEmpty (el).isEmpty has = false := by unfold usesF strc; simp [h_op, h_v, h_nm]
    rw [E]
    exact us_5_2 op v p1 p2 nm ((th).length) ((el).length) d1 d2 q1 q2 has W h_op h_v h_nm
   ·
    rcases el with _ | ⟨el_a, el_r⟩
    ·
     cases has
     ·
      have E : usesF 5 op v nm (th).isEmpty (([] : List Nd)).isEmpty false = true := by unfold usesF strc; simp [h_op, h_v, h_nm]
      rw [E]
      exact us_5_5 op v p1 p2 nm ((th).length) ((([] : List Nd)).length) d1 d2 q1 q2 false W h_op h_v h_nm
     ·
      have E : usesF 5 op v nm (th).isEmpty (([] : List Nd)).isEmpty true = false := by unfold usesF strc; simp [h_op, h_v, h_nm]
      rw [E]
      exact us_5_4 op v p1 p2 nm ((th).length) ((([] : List Nd)).length) d1 d2 q1 q2 true W h_op h_v h_nm
    ·
     have E : usesF 5 op v nm (th).isEmpty ((el_a :: el_r)).isEmpty has = false := by unfold usesF strc; simp [h_op, h_v, h_nm]
     rw [E]
     exact us_5_3 op v p1 p2 nm ((th).length) (el_r.length) d1 d2 q1 q2 has W h_op h_v h_nm (len_ne _)
theorem uses_6 (op v p1 p2 : Int) (nm : ByteArray) (th el : List Nd) (d1 d2 : Nat) (q1 q2 : Option Addr) (has : Bool) (W : World) :
  Calls Tryz.prog 148 #[.agg #[.int .i64 6, .int .i64 op, .int .u16 v, .string nm, .slice q1 th.length d1, .slice q2 el.length d2, .bool has, .int .i64 p1, .int .i64 p2]] W fun e w' => e = .returned (.bool (usesF 6 op v nm th.isEmpty el.isEmpty has)) /\ Below W.heap.size W w' := by
 cases h_op : (op == 0)
 ·
  have E : usesF 6 op v nm (th).isEmpty (el).isEmpty has = false := by unfold usesF strc; simp [h_op]
  rw [E]
  exact us_6_0 op v p1 p2 nm ((th).length) ((el).length) d1 d2 q1 q2 has W h_op
 ·
  cases h_v : (v == 0)
  ·
   have E : usesF 6 op v nm (th).isEmpty (el).isEmpty has = false := by unfold usesF strc; simp [h_op, h_v]
   rw [E]
   exact us_6_1 op v p1 p2 nm ((th).length) ((el).length) d1 d2 q1 q2 has W h_op h_v
  ·
   cases h_nm : (nm.toList.isEmpty)
   ·
    have E : usesF 6 op v nm (th).isEmpty (el).isEmpty has = false := by unfold usesF strc; simp [h_op, h_v, h_nm]
    rw [E]
    exact us_6_2 op v p1 p2 nm ((th).length) ((el).length) d1 d2 q1 q2 has W h_op h_v h_nm
   ·
    cases has
    ·
     have E : usesF 6 op v nm (th).isEmpty (el).isEmpty false = true := by unfold usesF strc; simp [h_op, h_v, h_nm]
     rw [E]
     exact us_6_4 op v p1 p2 nm ((th).length) ((el).length) d1 d2 q1 q2 false W h_op h_v h_nm
    ·
     have E : usesF 6 op v nm (th).isEmpty (el).isEmpty true = false := by unfold usesF strc; simp [h_op, h_v, h_nm]
     rw [E]
     exact us_6_3 op v p1 p2 nm ((th).length) ((el).length) d1 d2 q1 q2 true W h_op h_v h_nm
theorem uses_7 (op v p1 p2 : Int) (nm : ByteArray) (th el : List Nd) (d1 d2 : Nat) (q1 q2 : Option Addr) (has : Bool) (W : World) :
  Calls Tryz.prog 148 #[.agg #[.int .i64 7, .int .i64 op, .int .u16 v, .string nm, .slice q1 th.length d1, .slice q2 el.length d2, .bool has, .int .i64 p1, .int .i64 p2]] W fun e w' => e = .returned (.bool (usesF 7 op v nm th.isEmpty el.isEmpty has)) /\ Below W.heap.size W w' := by
 cases h_op : (op == 0)
 ·
  have E : usesF 7 op v nm (th).isEmpty (el).isEmpty has = false := by unfold usesF strc; simp [h_op]
  rw [E]
  exact us_7_0 op v p1 p2 nm ((th).length) ((el).length) d1 d2 q1 q2 has W h_op
 ·
  cases h_v : (v == 0)
  ·
   have E : usesF 7 op v nm (th).isEmpty (el).isEmpty has = false := by unfold usesF strc; simp [h_op, h_v]
   rw [E]
   exact us_7_1 op v p1 p2 nm ((th).length) ((el).length) d1 d2 q1 q2 has W h_op h_v
  ·
   cases h_nm : (nm.toList.isEmpty)
   ·
    have E : usesF 7 op v nm (th).isEmpty (el).isEmpty has = false := by unfold usesF strc; simp [h_op, h_v, h_nm]
    rw [E]
    exact us_7_2 op v p1 p2 nm ((th).length) ((el).length) d1 d2 q1 q2 has W h_op h_v h_nm
   ·
    rcases el with _ | ⟨el_a, el_r⟩
    ·
     cases has
     ·
      have E : usesF 7 op v nm (th).isEmpty (([] : List Nd)).isEmpty false = true := by unfold usesF strc; simp [h_op, h_v, h_nm]
      rw [E]
      exact us_7_5 op v p1 p2 nm ((th).length) ((([] : List Nd)).length) d1 d2 q1 q2 false W h_op h_v h_nm
     ·
      have E : usesF 7 op v nm (th).isEmpty (([] : List Nd)).isEmpty true = false := by unfold usesF strc; simp [h_op, h_v, h_nm]
      rw [E]
      exact us_7_4 op v p1 p2 nm ((th).length) ((([] : List Nd)).length) d1 d2 q1 q2 true W h_op h_v h_nm
    ·
     have E : usesF 7 op v nm (th).isEmpty ((el_a :: el_r)).isEmpty has = false := by unfold usesF strc; simp [h_op, h_v, h_nm]
     rw [E]
     exact us_7_3 op v p1 p2 nm ((th).length) (el_r.length) d1 d2 q1 q2 has W h_op h_v h_nm (len_ne _)
theorem uses_8 (op v p1 p2 : Int) (nm : ByteArray) (th el : List Nd) (d1 d2 : Nat) (q1 q2 : Option Addr) (has : Bool) (W : World) :
  Calls Tryz.prog 148 #[.agg #[.int .i64 8, .int .i64 op, .int .u16 v, .string nm, .slice q1 th.length d1, .slice q2 el.length d2, .bool has, .int .i64 p1, .int .i64 p2]] W fun e w' => e = .returned (.bool (usesF 8 op v nm th.isEmpty el.isEmpty has)) /\ Below W.heap.size W w' := by
 cases h_op : (op == 0)
 ·
  have E : usesF 8 op v nm (th).isEmpty (el).isEmpty has = false := by unfold usesF strc; simp [h_op]
  rw [E]
  exact us_8_0 op v p1 p2 nm ((th).length) ((el).length) d1 d2 q1 q2 has W h_op
 ·
  cases h_v : (v == 0)
  ·
   have E : usesF 8 op v nm (th).isEmpty (el).isEmpty has = false := by unfold usesF strc; simp [h_op, h_v]
   rw [E]
   exact us_8_1 op v p1 p2 nm ((th).length) ((el).length) d1 d2 q1 q2 has W h_op h_v
  ·
   cases h_nm : (nm.toList.isEmpty)
   ·
    have E : usesF 8 op v nm (th).isEmpty (el).isEmpty has = false := by unfold usesF strc; simp [h_op, h_v, h_nm]
    rw [E]
    exact us_8_2 op v p1 p2 nm ((th).length) ((el).length) d1 d2 q1 q2 has W h_op h_v h_nm
   ·
    rcases el with _ | ⟨el_a, el_r⟩
    ·
     cases has
     ·
      have E : usesF 8 op v nm (th).isEmpty (([] : List Nd)).isEmpty false = true := by unfold usesF strc; simp [h_op, h_v, h_nm]
      rw [E]
      exact us_8_5 op v p1 p2 nm ((th).length) ((([] : List Nd)).length) d1 d2 q1 q2 false W h_op h_v h_nm
     ·
      have E : usesF 8 op v nm (th).isEmpty (([] : List Nd)).isEmpty true = false := by unfold usesF strc; simp [h_op, h_v, h_nm]
      rw [E]
      exact us_8_4 op v p1 p2 nm ((th).length) ((([] : List Nd)).length) d1 d2 q1 q2 true W h_op h_v h_nm
    ·
     have E : usesF 8 op v nm (th).isEmpty ((el_a :: el_r)).isEmpty has = false := by unfold usesF strc; simp [h_op, h_v, h_nm]
     rw [E]
     exact us_8_3 op v p1 p2 nm ((th).length) (el_r.length) d1 d2 q1 q2 has W h_op h_v h_nm (len_ne _)
theorem uses_9 (op v p1 p2 : Int) (nm : ByteArray) (th el : List Nd) (d1 d2 : Nat) (q1 q2 : Option Addr) (has : Bool) (W : World) :
  Calls Tryz.prog 148 #[.agg #[.int .i64 9, .int .i64 op, .int .u16 v, .string nm, .slice q1 th.length d1, .slice q2 el.length d2, .bool has, .int .i64 p1, .int .i64 p2]] W fun e w' => e = .returned (.bool (usesF 9 op v nm th.isEmpty el.isEmpty has)) /\ Below W.heap.size W w' := by
 cases h_op : (op == 0)
 ·
  have E : usesF 9 op v nm (th).isEmpty (el).isEmpty has = false := by unfold usesF strc; simp [h_op]
  rw [E]
  exact us_9_0 op v p1 p2 nm ((th).length) ((el).length) d1 d2 q1 q2 has W h_op
 ·
  cases h_v : (v == 0)
  ·
   have E : usesF 9 op v nm (th).isEmpty (el).isEmpty has = false := by unfold usesF strc; simp [h_op, h_v]
   rw [E]
   exact us_9_1 op v p1 p2 nm ((th).length) ((el).length) d1 d2 q1 q2 has W h_op h_v
  ·
   cases h_nm : (nm.toList.isEmpty)
   ·
    have E : usesF 9 op v nm (th).isEmpty (el).isEmpty has = false := by unfold usesF strc; simp [h_op, h_v, h_nm]
    rw [E]
    exact us_9_2 op v p1 p2 nm ((th).length) ((el).length) d1 d2 q1 q2 has W h_op h_v h_nm
   ·
    rcases th with _ | ⟨th_a, th_r⟩
    ·
     rcases el with _ | ⟨el_a, el_r⟩
     ·
      cases has
      ·
       have E : usesF 9 op v nm (([] : List Nd)).isEmpty (([] : List Nd)).isEmpty false = true := by unfold usesF strc; simp [h_op, h_v, h_nm]
       rw [E]
       exact us_9_6 op v p1 p2 nm ((([] : List Nd)).length) ((([] : List Nd)).length) d1 d2 q1 q2 false W h_op h_v h_nm
      ·
       have E : usesF 9 op v nm (([] : List Nd)).isEmpty (([] : List Nd)).isEmpty true = false := by unfold usesF strc; simp [h_op, h_v, h_nm]
       rw [E]
       exact us_9_5 op v p1 p2 nm ((([] : List Nd)).length) ((([] : List Nd)).length) d1 d2 q1 q2 true W h_op h_v h_nm
     ·
      have E : usesF 9 op v nm (([] : List Nd)).isEmpty ((el_a :: el_r)).isEmpty has = false := by unfold usesF strc; simp [h_op, h_v, h_nm]
      rw [E]
      exact us_9_4 op v p1 p2 nm ((([] : List Nd)).length) (el_r.length) d1 d2 q1 q2 has W h_op h_v h_nm (len_ne _)
    ·
     have E : usesF 9 op v nm ((th_a :: th_r)).isEmpty (el).isEmpty has = false := by unfold usesF strc; simp [h_op, h_v, h_nm]
     rw [E]
     exact us_9_3 op v p1 p2 nm (th_r.length) ((el).length) d1 d2 q1 q2 has W h_op h_v h_nm (len_ne _)
theorem uses_r (k : Int) (hk : ¬ k = 1 /\ ¬ k = 2 /\ ¬ k = 3 /\ ¬ k = 4 /\ ¬ k = 5 /\ ¬ k = 6 /\ ¬ k = 7 /\ ¬ k = 8 /\ ¬ k = 9) (op v p1 p2 : Int) (nm : ByteArray) (th el : List Nd) (d1 d2 : Nat) (q1 q2 : Option Addr) (has : Bool) (W : World) :
  Calls Tryz.prog 148 #[.agg #[.int .i64 k, .int .i64 op, .int .u16 v, .string nm, .slice q1 th.length d1, .slice q2 el.length d2, .bool has, .int .i64 p1, .int .i64 p2]] W fun e w' => e = .returned (.bool (usesF k op v nm th.isEmpty el.isEmpty has)) /\ Below W.heap.size W w' := by
 obtain ⟨n1, n2, n3, n4, n5, n6, n7, n8, n9⟩ := hk
 have E : usesF k op v nm th.isEmpty el.isEmpty has = false := by
  unfold usesF
  by_cases a : 1 <= k
  ·have b : ¬ k <= 9 := by omega
   simp [b]
  ·simp [a]
 rw [E]
 have b1 : (k == 1) = false := by rw [Bool.eq_false_iff]; intro c; exact n1 (by simpa using c)
 have b2 : (k == 2) = false := by rw [Bool.eq_false_iff]; intro c; exact n2 (by simpa using c)
 have b3 : (k == 3) = false := by rw [Bool.eq_false_iff]; intro c; exact n3 (by simpa using c)
 have b4 : (k == 4) = false := by rw [Bool.eq_false_iff]; intro c; exact n4 (by simpa using c)
 have b5 : (k == 5) = false := by rw [Bool.eq_false_iff]; intro c; exact n5 (by simpa using c)
 have b6 : (k == 6) = false := by rw [Bool.eq_false_iff]; intro c; exact n6 (by simpa using c)
 have b7 : (k == 7) = false := by rw [Bool.eq_false_iff]; intro c; exact n7 (by simpa using c)
 have b8 : (k == 8) = false := by rw [Bool.eq_false_iff]; intro c; exact n8 (by simpa using c)
 have b9 : (k == 9) = false := by rw [Bool.eq_false_iff]; intro c; exact n9 (by simpa using c)
 clear n1 n2 n3 n4 n5 n6 n7 n8 n9 E
 obtain ⟨W1, hW1⟩ : ∃ W1, W.alloc (.cells #[.int .i64 k, .int .i64 op, .int .u16 v, .string nm, .slice q1 th.length d1, .slice q2 el.length d2, .bool has, .int .i64 p1, .int .i64 p2] 90) = W1 := ⟨_, rfl⟩
 have v1 : W1.heap[W.heap.size]? = some (.cells [.int .i64 k, .int .i64 op, .int .u16 v, .string nm, .slice q1 th.length d1, .slice q2 el.length d2, .bool has, .int .i64 p1, .int .i64 p2].toArray 90 (0, 0)) := by rw [<- hW1]; exact heap_alloc_new W _
 have HB := hid (show Below W.heap.size W W1 by rw [<- hW1]; exact (Below.refl _ _).alloc (Nat.le_refl _) _)
 have x0 := S.cell_of W1 _ 0 _ 90 _ v1 rfl
 clear v1
 go_enter Tryz.func148, Tryz.ntmps148
 go_wp2
 go_ret
 exact ⟨rfl, HB.out⟩
theorem usesAll_any (n : Nd) (d1 d2 : Nat) (q1 q2 : Option Addr) (W : World) :
  Calls Tryz.prog 148 #[.agg (ndc n (.slice q1 n.th.length d1) (.slice q2 n.el.length d2)).toArray] W fun e w' => e = .returned (.bool (uses n)) /\ Below W.heap.size W w' := by
 obtain ⟨k, op, v, nm, th, el, has, p⟩ := n
 unfold ndc uses
 simp only
 by_cases c1 : k = 1
 ·subst c1; exact uses_1 op v p.1 p.2 nm th el d1 d2 q1 q2 has W
 by_cases c2 : k = 2
 ·subst c2; exact uses_2 op v p.1 p.2 nm th el d1 d2 q1 q2 has W
 by_cases c3 : k = 3
 ·subst c3; exact uses_3 op v p.1 p.2 nm th el d1 d2 q1 q2 has W
 by_cases c4 : k = 4
 ·subst c4; cases has
  ·exact uses_4f op v p.1 p.2 nm th el d1 d2 q1 q2 false W
  ·exact uses_4t op v p.1 p.2 nm th el d1 d2 q1 q2 true W
 by_cases c5 : k = 5
 ·subst c5; exact uses_5 op v p.1 p.2 nm th el d1 d2 q1 q2 has W
 by_cases c6 : k = 6
 ·subst c6; exact uses_6 op v p.1 p.2 nm th el d1 d2 q1 q2 has W
 by_cases c7 : k = 7
 ·subst c7; exact uses_7 op v p.1 p.2 nm th el d1 d2 q1 q2 has W
 by_cases c8 : k = 8
 ·subst c8; exact uses_8 op v p.1 p.2 nm th el d1 d2 q1 q2 has W
 by_cases c9 : k = 9
 ·subst c9; exact uses_9 op v p.1 p.2 nm th el d1 d2 q1 q2 has W
 exact uses_r k ⟨c1, c2, c3, c4, c5, c6, c7, c8, c9⟩ op v p.1 p.2 nm th el d1 d2 q1 q2 has W
theorem ff_1 (v p1 p2 : Int) (nm : ByteArray) (m c : Nat) (q : Option Addr) (W : World)  :
  Calls Tryz.prog 80 #[.agg #[.int .i64 1, .string nm, .int .u16 v, .slice q m c, .int .i64 p1, .int .i64 p2]] W fun e w' => e = .returned (.bool (v == 0)) /\ Below W.heap.size W w' := by
 obtain ⟨W1, hW1⟩ : ∃ W1, W.alloc (.cells #[.int .i64 1, .string nm, .int .u16 v, .slice q m c, .int .i64 p1, .int .i64 p2] 60) = W1 := ⟨_, rfl⟩
 have v1 : W1.heap[W.heap.size]? = some (.cells [.int .i64 1, .string nm, .int .u16 v, .slice q m c, .int .i64 p1, .int .i64 p2].toArray 60 (0, 0)) := by rw [<- hW1]; exact heap_alloc_new W _
 have HB := hid (show Below W.heap.size W W1 by rw [<- hW1]; exact (Below.refl _ _).alloc (Nat.le_refl _) _)
 have x0 := S.cell_of W1 _ 0 _ 60 _ v1 rfl
 have x2 := S.cell_of W1 _ 2 _ 60 _ v1 rfl
 have x3 := S.cell_of W1 _ 3 _ 60 _ v1 rfl
 clear v1
 go_enter Tryz.func80, Tryz.ntmps80
 go_wp2
 go_ret
 exact ⟨rfl, HB.out⟩
theorem ff_20 (v p1 p2 : Int) (nm : ByteArray) (m c : Nat) (q : Option Addr) (W : World)  :
  Calls Tryz.prog 80 #[.agg #[.int .i64 2, .string nm, .int .u16 v, .slice q 0 c, .int .i64 p1, .int .i64 p2]] W fun e w' => e = .returned (.bool true) /\ Below W.heap.size W w' := by
 obtain ⟨W1, hW1⟩ : ∃ W1, W.alloc (.cells #[.int .i64 2, .string nm, .int .u16 v, .slice q 0 c, .int .i64 p1, .int .i64 p2] 60) = W1 := ⟨_, rfl⟩
 have v1 : W1.heap[W.heap.size]? = some (.cells [.int .i64 2, .string nm, .int .u16 v, .slice q 0 c, .int .i64 p1, .int .i64 p2].toArray 60 (0, 0)) := by rw [<- hW1]; exact heap_alloc_new W _
 have HB := hid (show Below W.heap.size W W1 by rw [<- hW1]; exact (Below.refl _ _).alloc (Nat.le_refl _) _)
 have x0 := S.cell_of W1 _ 0 _ 60 _ v1 rfl
 have x2 := S.cell_of W1 _ 2 _ 60 _ v1 rfl
 have x3 := S.cell_of W1 _ 3 _ 60 _ v1 rfl
 clear v1
 go_enter Tryz.func80, Tryz.ntmps80
 go_wp2
 go_ret
 exact ⟨rfl, HB.out⟩
theorem ff_21 (v p1 p2 : Int) (nm : ByteArray) (m c : Nat) (q : Option Addr) (W : World) (h : (((m + 1 : Nat) : Int) == 0) = false) :
  Calls Tryz.prog 80 #[.agg #[.int .i64 2, .string nm, .int .u16 v, .slice q (m + 1) c, .int .i64 p1, .int .i64 p2]] W fun e w' => e = .returned (.bool false) /\ Below W.heap.size W w' := by
 obtain ⟨W1, hW1⟩ : ∃ W1, W.alloc (.cells #[.int .i64 2, .string nm, .int .u16 v, .slice q (m + 1) c, .int .i64 p1, .int .i64 p2] 60) = W1 := ⟨_, rfl⟩
 have v1 : W1.heap[W.heap.size]? = some (.cells [.int .i64 2, .string nm, .int .u16 v, .slice q (m + 1) c, .int .i64 p1, .int .i64 p2].toArray 60 (0, 0)) := by rw [<- hW1]; exact heap_alloc_new W _
 have HB := hid (show Below W.heap.size W W1 by rw [<- hW1]; exact (Below.refl _ _).alloc (Nat.le_refl _) _)
 have x0 := S.cell_of W1 _ 0 _ 60 _ v1 rfl
 have x2 := S.cell_of W1 _ 2 _ 60 _ v1 rfl
 have x3 := S.cell_of W1 _ 3 _ 60 _ v1 rfl
 clear v1
 go_enter Tryz.func80, Tryz.ntmps80
 go_wp2
 go_ret
 exact ⟨rfl, HB.out⟩
theorem ff_30 (v p1 p2 : Int) (nm : ByteArray) (m c : Nat) (q : Option Addr) (W : World)  :
  Calls Tryz.prog 80 #[.agg #[.int .i64 3, .string nm, .int .u16 v, .slice q 0 c, .int .i64 p1, .int .i64 p2]] W fun e w' => e = .returned (.bool true) /\ Below W.heap.size W w' := by
 obtain ⟨W1, hW1⟩ : ∃ W1, W.alloc (.cells #[.int .i64 3, .string nm, .int .u16 v, .slice q 0 c, .int .i64 p1, .int .i64 p2] 60) = W1 := ⟨_, rfl⟩
 have v1 : W1.heap[W.heap.size]? = some (.cells [.int .i64 3, .string nm, .int .u16 v, .slice q 0 c, .int .i64 p1, .int .i64 p2].toArray 60 (0, 0)) := by rw [<- hW1]; exact heap_alloc_new W _
 have HB := hid (show Below W.heap.size W W1 by rw [<- hW1]; exact (Below.refl _ _).alloc (Nat.le_refl _) _)
 have x0 := S.cell_of W1 _ 0 _ 60 _ v1 rfl
 have x2 := S.cell_of W1 _ 2 _ 60 _ v1 rfl
 have x3 := S.cell_of W1 _ 3 _ 60 _ v1 rfl
 clear v1
 go_enter Tryz.func80, Tryz.ntmps80
 go_wp2
 go_ret
 exact ⟨rfl, HB.out⟩
theorem ff_31 (v p1 p2 : Int) (nm : ByteArray) (m c : Nat) (q : Option Addr) (W : World) (h : (((m + 1 : Nat) : Int) == 0) = false) :
  Calls Tryz.prog 80 #[.agg #[.int .i64 3, .string nm, .int .u16 v, .slice q (m + 1) c, .int .i64 p1, .int .i64 p2]] W fun e w' => e = .returned (.bool false) /\ Below W.heap.size W w' := by
 obtain ⟨W1, hW1⟩ : ∃ W1, W.alloc (.cells #[.int .i64 3, .string nm, .int .u16 v, .slice q (m + 1) c, .int .i64 p1, .int .i64 p2] 60) = W1 := ⟨_, rfl⟩
 have v1 : W1.heap[W.heap.size]? = some (.cells [.int .i64 3, .string nm, .int .u16 v, .slice q (m + 1) c, .int .i64 p1, .int .i64 p2].toArray 60 (0, 0)) := by rw [<- hW1]; exact heap_alloc_new W _
 have HB := hid (show Below W.heap.size W W1 by rw [<- hW1]; exact (Below.refl _ _).alloc (Nat.le_refl _) _)
 have x0 := S.cell_of W1 _ 0 _ 60 _ v1 rfl
 have x2 := S.cell_of W1 _ 2 _ 60 _ v1 rfl
 have x3 := S.cell_of W1 _ 3 _ 60 _ v1 rfl
 clear v1
 go_enter Tryz.func80, Tryz.ntmps80
 go_wp2
 go_ret
 exact ⟨rfl, HB.out⟩
theorem ff_r (v p1 p2 : Int) (nm : ByteArray) (m c : Nat) (q : Option Addr) (W : World) (k : Int) (b1 : (k == 1) = false) (b2 : (k == 2) = false) (b3 : (k == 3) = false) :
  Calls Tryz.prog 80 #[.agg #[.int .i64 k, .string nm, .int .u16 v, .slice q m c, .int .i64 p1, .int .i64 p2]] W fun e w' => e = .returned (.bool false) /\ Below W.heap.size W w' := by
 obtain ⟨W1, hW1⟩ : ∃ W1, W.alloc (.cells #[.int .i64 k, .string nm, .int .u16 v, .slice q m c, .int .i64 p1, .int .i64 p2] 60) = W1 := ⟨_, rfl⟩
 have v1 : W1.heap[W.heap.size]? = some (.cells [.int .i64 k, .string nm, .int .u16 v, .slice q m c, .int .i64 p1, .int .i64 p2].toArray 60 (0, 0)) := by rw [<- hW1]; exact heap_alloc_new W _
 have HB := hid (show Below W.heap.size W W1 by rw [<- hW1]; exact (Below.refl _ _).alloc (Nat.le_refl _) _)
 have x0 := S.cell_of W1 _ 0 _ 60 _ v1 rfl
 have x2 := S.cell_of W1 _ 2 _ 60 _ v1 rfl
 have x3 := S.cell_of W1 _ 3 _ 60 _ v1 rfl
 clear v1
 go_enter Tryz.func80, Tryz.ntmps80
 go_wp2
 go_ret
 exact ⟨rfl, HB.out⟩
theorem fieldsFit_any (d : Df) (q : Option Addr) (c : Nat) (W : World) :
  Calls Tryz.prog 80 #[.agg (dfc d (.slice q d.body.length c)).toArray] W fun e w' => e = .returned (.bool (fieldsF d.k d.v d.body.isEmpty)) /\ Below W.heap.size W w' := by
 obtain ⟨k, nm, v, body, p⟩ := d
 unfold dfc fieldsF
 simp only
 by_cases c1 : k = 1
 ·subst c1; rw [if_pos rfl]; exact ff_1 v p.1 p.2 nm body.length c q W
 ·rw [if_neg c1]
  by_cases c2 : k = 2
  ·subst c2
   rw [if_pos (Or.inl rfl)]
   rcases body with _ | ⟨a, r⟩
   ·exact ff_20 v p.1 p.2 nm 0 c q W
   ·exact ff_21 v p.1 p.2 nm r.length c q W (len_ne _)
  ·by_cases c3 : k = 3
   ·subst c3
    rw [if_pos (Or.inr rfl)]
    rcases body with _ | ⟨a, r⟩
    ·exact ff_30 v p.1 p.2 nm 0 c q W
    ·exact ff_31 v p.1 p.2 nm r.length c q W (len_ne _)
   ·rw [if_neg (by omega)]
    exact ff_r v p.1 p.2 nm body.length c q W k (by simpa using c1) (by simpa using c2) (by simpa using c3)
end Go.Proofs.YtoemoiehjdmheaaGreat.R
