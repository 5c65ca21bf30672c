import Derived.Test.YtlilefhmohkfkaaGreatDoorVIn
namespace Go.Proofs.YtlilefhmohkfkaaGreatDoor.V
open Go.RowKit
open Go.Proofs
open Go.Proofs.YtlilefhmohkfkaaGreatDoor.Y (Nd Df Ps ndc dfc hid)
open R (usesF strc uses len_ne)
set_option linter.unusedVariables false
set_option linter.unusedSimpArgs false
set_option maxHeartbeats 2000000
set_option maxRecDepth 100000
theorem ho_1_0 (op v p1 p2 : Int) (nm : ByteArray) (n1 n2 d1 d2 : Nat) (q1 q2 : Option Addr) (has : Bool) (W : World) (h_v : (v == 0) = false) :
  Calls Tryz.prog 62 #[.agg #[.int .i64 1, .int .i64 op, .int .u16 v, .string nm, .slice q1 n1 d1, .slice q2 n2 d2, .bool has, .int .i64 p1, .int .i64 p2]] W fun e w' => e = .returned (.bool false) /\ Below W.heap.size W w' := by
 have g_v : ¬ v = 0 := by simpa using h_v
 obtain ⟨W1, hW1⟩ : ∃ W1, W.alloc (.cells #[.int .i64 1, .int .i64 op, .int .u16 v, .string nm, .slice q1 n1 d1, .slice q2 n2 d2, .bool has, .int .i64 p1, .int .i64 p2] 30) = W1 := ⟨_, rfl⟩
 have v1 : W1.heap[W.heap.size]? = some (.cells [.int .i64 1, .int .i64 op, .int .u16 v, .string nm, .slice q1 n1 d1, .slice q2 n2 d2, .bool has, .int .i64 p1, .int .i64 p2].toArray 30 (0, 0)) := by rw [<- hW1]; exact heap_alloc_new W _
 have HB := hid (show Below W.heap.size W W1 by rw [<- hW1]; exact (Below.refl _ _).alloc (Nat.le_refl _) _)
 have x0 := S.cell_of W1 _ 0 _ 30 _ v1 rfl
 have x1 := S.cell_of W1 _ 1 _ 30 _ v1 rfl
 have x2 := S.cell_of W1 _ 2 _ 30 _ v1 rfl
 have x3 := S.cell_of W1 _ 3 _ 30 _ v1 rfl
 have x4 := S.cell_of W1 _ 4 _ 30 _ v1 rfl
 have x5 := S.cell_of W1 _ 5 _ 30 _ v1 rfl
 have x6 := S.cell_of W1 _ 6 _ 30 _ v1 rfl
 have f1 : ∀ i, W1.frozen? ⟨W.heap.size, i, none⟩ = false := fun i => S.frozen_of W1 W.heap.size i _ 30 v1
 have HV := hid v1
 clear v1
 go_enter Tryz.func62, Tryz.ntmps62
 go_wp2
 go_ret
 refine ⟨rfl, ?_⟩
 first | exact HB.out | exact (Below.refl _ _).alloc (Nat.le_refl _) _ | exact HB.out.setCell (Nat.le_refl _) _ | exact (HB.out.setCell (p := ⟨W.heap.size, _, none⟩) (Nat.le_refl _) _).setCell (p := ⟨W.heap.size, _, none⟩) (Nat.le_refl _) _ | exact ((HB.out.setCell (p := ⟨W.heap.size, _, none⟩) (Nat.le_refl _) _).setCell (p := ⟨W.heap.size, _, none⟩) (Nat.le_refl _) _).setCell (p := ⟨W.heap.size, _, none⟩) (Nat.le_refl _) _
theorem ho_1_1 (op v p1 p2 : Int) (nm : ByteArray) (n1 n2 d1 d2 : Nat) (q1 q2 : Option Addr) (has : Bool) (W : World) (h_v : (v == 0) = true) (h_nm : nm.toList.isEmpty = false) :
  Calls Tryz.prog 62 #[.agg #[.int .i64 1, .int .i64 op, .int .u16 v, .string nm, .slice q1 n1 d1, .slice q2 n2 d2, .bool has, .int .i64 p1, .int .i64 p2]] W fun e w' => e = .returned (.bool false) /\ Below W.heap.size W w' := by
 have g_v : v = 0 := by simpa using h_v
 have g_nm : ¬ nm.toList = [] := by simpa using h_nm
 obtain ⟨W1, hW1⟩ : ∃ W1, W.alloc (.cells #[.int .i64 1, .int .i64 op, .int .u16 v, .string nm, .slice q1 n1 d1, .slice q2 n2 d2, .bool has, .int .i64 p1, .int .i64 p2] 30) = W1 := ⟨_, rfl⟩
 have v1 : W1.heap[W.heap.size]? = some (.cells [.int .i64 1, .int .i64 op, .int .u16 v, .string nm, .slice q1 n1 d1, .slice q2 n2 d2, .bool has, .int .i64 p1, .int .i64 p2].toArray 30 (0, 0)) := by rw [<- hW1]; exact heap_alloc_new W _
 have HB := hid (show Below W.heap.size W W1 by rw [<- hW1]; exact (Below.refl _ _).alloc (Nat.le_refl _) _)
 have x0 := S.cell_of W1 _ 0 _ 30 _ v1 rfl
 have x1 := S.cell_of W1 _ 1 _ 30 _ v1 rfl
 have x2 := S.cell_of W1 _ 2 _ 30 _ v1 rfl
 have x3 := S.cell_of W1 _ 3 _ 30 _ v1 rfl
 have x4 := S.cell_of W1 _ 4 _ 30 _ v1 rfl
 have x5 := S.cell_of W1 _ 5 _ 30 _ v1 rfl
 have x6 := S.cell_of W1 _ 6 _ 30 _ v1 rfl
 have f1 : ∀ i, W1.frozen? ⟨W.heap.size, i, none⟩ = false := fun i => S.frozen_of W1 W.heap.size i _ 30 v1
 have HV := hid v1
 clear v1
 go_enter Tryz.func62, Tryz.ntmps62
 go_wp2
 go_ret
 refine ⟨rfl, ?_⟩
 first | exact HB.out | exact (Below.refl _ _).alloc (Nat.le_refl _) _ | exact HB.out.setCell (Nat.le_refl _) _ | exact (HB.out.setCell (p := ⟨W.heap.size, _, none⟩) (Nat.le_refl _) _).setCell (p := ⟨W.heap.size, _, none⟩) (Nat.le_refl _) _ | exact ((HB.out.setCell (p := ⟨W.heap.size, _, none⟩) (Nat.le_refl _) _).setCell (p := ⟨W.heap.size, _, none⟩) (Nat.le_refl _) _).setCell (p := ⟨W.heap.size, _, none⟩) (Nat.le_refl _) _
theorem ho_1_2 (op v p1 p2 : Int) (nm : ByteArray) (n1 n2 d1 d2 : Nat) (q1 q2 : Option Addr) (has : Bool) (W : World) (h_v : (v == 0) = true) (h_nm : nm.toList.isEmpty = true) :
  Calls Tryz.prog 62 #[.agg #[.int .i64 1, .int .i64 op, .int .u16 v, .string nm, .slice q1 n1 d1, .slice q2 n2 d2, .bool true, .int .i64 p1, .int .i64 p2]] W fun e w' => e = .returned (.bool false) /\ Below W.heap.size W w' := by
 have g_v : v = 0 := by simpa using h_v
 have g_nm : nm.toList = [] := by simpa using h_nm
 obtain ⟨W1, hW1⟩ : ∃ W1, W.alloc (.cells #[.int .i64 1, .int .i64 op, .int .u16 v, .string nm, .slice q1 n1 d1, .slice q2 n2 d2, .bool true, .int .i64 p1, .int .i64 p2] 30) = W1 := ⟨_, rfl⟩
 have v1 : W1.heap[W.heap.size]? = some (.cells [.int .i64 1, .int .i64 op, .int .u16 v, .string nm, .slice q1 n1 d1, .slice q2 n2 d2, .bool true, .int .i64 p1, .int .i64 p2].toArray 30 (0, 0)) := by rw [<- hW1]; exact heap_alloc_new W _
 have HB := hid (show Below W.heap.size W W1 by rw [<- hW1]; exact (Below.refl _ _).alloc (Nat.le_refl _) _)
 have x0 := S.cell_of W1 _ 0 _ 30 _ v1 rfl
 have x1 := S.cell_of W1 _ 1 _ 30 _ v1 rfl
 have x2 := S.cell_of W1 _ 2 _ 30 _ v1 rfl
 have x3 := S.cell_of W1 _ 3 _ 30 _ v1 rfl
 have x4 := S.cell_of W1 _ 4 _ 30 _ v1 rfl
 have x5 := S.cell_of W1 _ 5 _ 30 _ v1 rfl
 have x6 := S.cell_of W1 _ 6 _ 30 _ v1 rfl
 have f1 : ∀ i, W1.frozen? ⟨W.heap.size, i, none⟩ = false := fun i => S.frozen_of W1 W.heap.size i _ 30 v1
 have HV := hid v1
 clear v1
 go_enter Tryz.func62, Tryz.ntmps62
 go_wp2
 go_ret
 refine ⟨rfl, ?_⟩
 first | exact HB.out | exact (Below.refl _ _).alloc (Nat.le_refl _) _ | exact HB.out.setCell (Nat.le_refl _) _ | exact (HB.out.setCell (p := ⟨W.heap.size, _, none⟩) (Nat.le_refl _) _).setCell (p := ⟨W.heap.size, _, none⟩) (Nat.le_refl _) _ | exact ((HB.out.setCell (p := ⟨W.heap.size, _, none⟩) (Nat.le_refl _) _).setCell (p := ⟨W.heap.size, _, none⟩) (Nat.le_refl _) _).setCell (p := ⟨W.heap.size, _, none⟩) (Nat.le_refl _) _
theorem ho_1_3 (op v p1 p2 : Int) (nm : ByteArray) (n1 n2 d1 d2 : Nat) (q1 q2 : Option Addr) (has : Bool) (W : World) (h_v : (v == 0) = true) (h_nm : nm.toList.isEmpty = true) (h_th : (((n1 + 1 : Nat) : Int) == 0) = false) :
  Calls Tryz.prog 62 #[.agg #[.int .i64 1, .int .i64 op, .int .u16 v, .string nm, .slice q1 (n1 + 1) d1, .slice q2 n2 d2, .bool false, .int .i64 p1, .int .i64 p2]] W fun e w' => e = .returned (.bool false) /\ Below W.heap.size W w' := by
 have g_v : v = 0 := by simpa using h_v
 have g_nm : nm.toList = [] := by simpa using h_nm
 obtain ⟨W1, hW1⟩ : ∃ W1, W.alloc (.cells #[.int .i64 1, .int .i64 op, .int .u16 v, .string nm, .slice q1 (n1 + 1) d1, .slice q2 n2 d2, .bool false, .int .i64 p1, .int .i64 p2] 30) = W1 := ⟨_, rfl⟩
 have v1 : W1.heap[W.heap.size]? = some (.cells [.int .i64 1, .int .i64 op, .int .u16 v, .string nm, .slice q1 (n1 + 1) d1, .slice q2 n2 d2, .bool false, .int .i64 p1, .int .i64 p2].toArray 30 (0, 0)) := by rw [<- hW1]; exact heap_alloc_new W _
 have HB := hid (show Below W.heap.size W W1 by rw [<- hW1]; exact (Below.refl _ _).alloc (Nat.le_refl _) _)
 have x0 := S.cell_of W1 _ 0 _ 30 _ v1 rfl
 have x1 := S.cell_of W1 _ 1 _ 30 _ v1 rfl
 have x2 := S.cell_of W1 _ 2 _ 30 _ v1 rfl
 have x3 := S.cell_of W1 _ 3 _ 30 _ v1 rfl
 have x4 := S.cell_of W1 _ 4 _ 30 _ v1 rfl
 have x5 := S.cell_of W1 _ 5 _ 30 _ v1 rfl
 have x6 := S.cell_of W1 _ 6 _ 30 _ v1 rfl
 have f1 : ∀ i, W1.frozen? ⟨W.heap.size, i, none⟩ = false := fun i => S.frozen_of W1 W.heap.size i _ 30 v1
 have HV := hid v1
 clear v1
 go_enter Tryz.func62, Tryz.ntmps62
 go_wp2
 go_ret
 refine ⟨rfl, ?_⟩
 first | exact HB.out | exact (Below.refl _ _).alloc (Nat.le_refl _) _ | exact HB.out.setCell (Nat.le_refl _) _ | exact (HB.out.setCell (p := ⟨W.heap.size, _, none⟩) (Nat.le_refl _) _).setCell (p := ⟨W.heap.size, _, none⟩) (Nat.le_refl _) _ | exact ((HB.out.setCell (p := ⟨W.heap.size, _, none⟩) (Nat.le_refl _) _).setCell (p := ⟨W.heap.size, _, none⟩) (Nat.le_refl _) _).setCell (p := ⟨W.heap.size, _, none⟩) (Nat.le_refl _) _
theorem ho_1_4 (op v p1 p2 : Int) (nm : ByteArray) (n1 n2 d1 d2 : Nat) (q1 q2 : Option Addr) (has : Bool) (W : World) (h_v : (v == 0) = true) (h_nm : nm.toList.isEmpty = true) (h_el : (((n2 + 1 : Nat) : Int) == 0) = false) :
  Calls Tryz.prog 62 #[.agg #[.int .i64 1, .int .i64 op, .int .u16 v, .string nm, .slice q1 0 d1, .slice q2 (n2 + 1) d2, .bool false, .int .i64 p1, .int .i64 p2]] W fun e w' => e = .returned (.bool false) /\ Below W.heap.size W w' := by
 have g_v : v = 0 := by simpa using h_v
 have g_nm : nm.toList = [] := by simpa using h_nm
 obtain ⟨W1, hW1⟩ : ∃ W1, W.alloc (.cells #[.int .i64 1, .int .i64 op, .int .u16 v, .string nm, .slice q1 0 d1, .slice q2 (n2 + 1) d2, .bool false, .int .i64 p1, .int .i64 p2] 30) = W1 := ⟨_, rfl⟩
 have v1 : W1.heap[W.heap.size]? = some (.cells [.int .i64 1, .int .i64 op, .int .u16 v, .string nm, .slice q1 0 d1, .slice q2 (n2 + 1) d2, .bool false, .int .i64 p1, .int .i64 p2].toArray 30 (0, 0)) := by rw [<- hW1]; exact heap_alloc_new W _
 have HB := hid (show Below W.heap.size W W1 by rw [<- hW1]; exact (Below.refl _ _).alloc (Nat.le_refl _) _)
 have x0 := S.cell_of W1 _ 0 _ 30 _ v1 rfl
 have x1 := S.cell_of W1 _ 1 _ 30 _ v1 rfl
 have x2 := S.cell_of W1 _ 2 _ 30 _ v1 rfl
 have x3 := S.cell_of W1 _ 3 _ 30 _ v1 rfl
 have x4 := S.cell_of W1 _ 4 _ 30 _ v1 rfl
 have x5 := S.cell_of W1 _ 5 _ 30 _ v1 rfl
 have x6 := S.cell_of W1 _ 6 _ 30 _ v1 rfl
 have f1 : ∀ i, W1.frozen? ⟨W.heap.size, i, none⟩ = false := fun i => S.frozen_of W1 W.heap.size i _ 30 v1
 have HV := hid v1
 clear v1
 go_enter Tryz.func62, Tryz.ntmps62
 go_wp2
 go_ret
 refine ⟨rfl, ?_⟩
 first | exact HB.out | exact (Below.refl _ _).alloc (Nat.le_refl _) _ | exact HB.out.setCell (Nat.le_refl _) _ | exact (HB.out.setCell (p := ⟨W.heap.size, _, none⟩) (Nat.le_refl _) _).setCell (p := ⟨W.heap.size, _, none⟩) (Nat.le_refl _) _ | exact ((HB.out.setCell (p := ⟨W.heap.size, _, none⟩) (Nat.le_refl _) _).setCell (p := ⟨W.heap.size, _, none⟩) (Nat.le_refl _) _).setCell (p := ⟨W.heap.size, _, none⟩) (Nat.le_refl _) _
theorem ho_1_5 (op v p1 p2 : Int) (nm : ByteArray) (n1 n2 d1 d2 : Nat) (q1 q2 : Option Addr) (has : Bool) (W : World) (h_v : (v == 0) = true) (h_nm : nm.toList.isEmpty = true) :
  Calls Tryz.prog 62 #[.agg #[.int .i64 1, .int .i64 op, .int .u16 v, .string nm, .slice q1 0 d1, .slice q2 0 d2, .bool false, .int .i64 p1, .int .i64 p2]] W fun e w' => e = .returned (.bool true) /\ Below W.heap.size W w' := by
 have g_v : v = 0 := by simpa using h_v
 have g_nm : nm.toList = [] := by simpa using h_nm
 obtain ⟨W1, hW1⟩ : ∃ W1, W.alloc (.cells #[.int .i64 1, .int .i64 op, .int .u16 v, .string nm, .slice q1 0 d1, .slice q2 0 d2, .bool false, .int .i64 p1, .int .i64 p2] 30) = W1 := ⟨_, rfl⟩
 have v1 : W1.heap[W.heap.size]? = some (.cells [.int .i64 1, .int .i64 op, .int .u16 v, .string nm, .slice q1 0 d1, .slice q2 0 d2, .bool false, .int .i64 p1, .int .i64 p2].toArray 30 (0, 0)) := by rw [<- hW1]; exact heap_alloc_new W _
 have HB := hid (show Below W.heap.size W W1 by rw [<- hW1]; exact (Below.refl _ _).alloc (Nat.le_refl _) _)
 have x0 := S.cell_of W1 _ 0 _ 30 _ v1 rfl
 have x1 := S.cell_of W1 _ 1 _ 30 _ v1 rfl
 have x2 := S.cell_of W1 _ 2 _ 30 _ v1 rfl
 have x3 := S.cell_of W1 _ 3 _ 30 _ v1 rfl
 have x4 := S.cell_of W1 _ 4 _ 30 _ v1 rfl
 have x5 := S.cell_of W1 _ 5 _ 30 _ v1 rfl
 have x6 := S.cell_of W1 _ 6 _ 30 _ v1 rfl
 have f1 : ∀ i, W1.frozen? ⟨W.heap.size, i, none⟩ = false := fun i => S.frozen_of W1 W.heap.size i _ 30 v1
 have HV := hid v1
 clear v1
 go_enter Tryz.func62, Tryz.ntmps62
 go_wp2
 go_ret
 refine ⟨rfl, ?_⟩
 first | exact HB.out | exact (Below.refl _ _).alloc (Nat.le_refl _) _ | exact HB.out.setCell (Nat.le_refl _) _ | exact (HB.out.setCell (p := ⟨W.heap.size, _, none⟩) (Nat.le_refl _) _).setCell (p := ⟨W.heap.size, _, none⟩) (Nat.le_refl _) _ | exact ((HB.out.setCell (p := ⟨W.heap.size, _, none⟩) (Nat.le_refl _) _).setCell (p := ⟨W.heap.size, _, none⟩) (Nat.le_refl _) _).setCell (p := ⟨W.heap.size, _, none⟩) (Nat.le_refl _) _
theorem ho_2_0 (op v p1 p2 : Int) (nm : ByteArray) (n1 n2 d1 d2 : Nat) (q1 q2 : Option Addr) (has : Bool) (W : World) (h_op : (op == 0) = false) :
  Calls Tryz.prog 62 #[.agg #[.int .i64 2, .int .i64 op, .int .u16 v, .string nm, .slice q1 n1 d1, .slice q2 n2 d2, .bool has, .int .i64 p1, .int .i64 p2]] W fun e w' => e = .returned (.bool false) /\ Below W.heap.size W w' := by
 have g_op : ¬ op = 0 := by simpa using h_op
 obtain ⟨W1, hW1⟩ : ∃ W1, W.alloc (.cells #[.int .i64 2, .int .i64 op, .int .u16 v, .string nm, .slice q1 n1 d1, .slice q2 n2 d2, .bool has, .int .i64 p1, .int .i64 p2] 30) = W1 := ⟨_, rfl⟩
 have v1 : W1.heap[W.heap.size]? = some (.cells [.int .i64 2, .int .i64 op, .int .u16 v, .string nm, .slice q1 n1 d1, .slice q2 n2 d2, .bool has, .int .i64 p1, .int .i64 p2].toArray 30 (0, 0)) := by rw [<- hW1]; exact heap_alloc_new W _
 have HB := hid (show Below W.heap.size W W1 by rw [<- hW1]; exact (Below.refl _ _).alloc (Nat.le_refl _) _)
 have x0 := S.cell_of W1 _ 0 _ 30 _ v1 rfl
 have x1 := S.cell_of W1 _ 1 _ 30 _ v1 rfl
 have x2 := S.cell_of W1 _ 2 _ 30 _ v1 rfl
 have x3 := S.cell_of W1 _ 3 _ 30 _ v1 rfl
 have x4 := S.cell_of W1 _ 4 _ 30 _ v1 rfl
 have x5 := S.cell_of W1 _ 5 _ 30 _ v1 rfl
 have x6 := S.cell_of W1 _ 6 _ 30 _ v1 rfl
 have f1 : ∀ i, W1.frozen? ⟨W.heap.size, i, none⟩ = false := fun i => S.frozen_of W1 W.heap.size i _ 30 v1
 have HV := hid v1
 clear v1
 go_enter Tryz.func62, Tryz.ntmps62
 go_wp2
 go_ret
 refine ⟨rfl, ?_⟩
 first | exact HB.out | exact (Below.refl _ _).alloc (Nat.le_refl _) _ | exact HB.out.setCell (Nat.le_refl _) _ | exact (HB.out.setCell (p := ⟨W.heap.size, _, none⟩) (Nat.le_refl _) _).setCell (p := ⟨W.heap.size, _, none⟩) (Nat.le_refl _) _ | exact ((HB.out.setCell (p := ⟨W.heap.size, _, none⟩) (Nat.le_refl _) _).setCell (p := ⟨W.heap.size, _, none⟩) (Nat.le_refl _) _).setCell (p := ⟨W.heap.size, _, none⟩) (Nat.le_refl _) _
theorem ho_2_1 (op v p1 p2 : Int) (nm : ByteArray) (n1 n2 d1 d2 : Nat) (q1 q2 : Option Addr) (has : Bool) (W : World) (h_op : (op == 0) = true) (h_nm : nm.toList.isEmpty = false) :
  Calls Tryz.prog 62 #[.agg #[.int .i64 2, .int .i64 op, .int .u16 v, .string nm, .slice q1 n1 d1, .slice q2 n2 d2, .bool has, .int .i64 p1, .int .i64 p2]] W fun e w' => e = .returned (.bool false) /\ Below W.heap.size W w' := by
 have g_op : op = 0 := by simpa using h_op
 have g_nm : ¬ nm.toList = [] := by simpa using h_nm
 obtain ⟨W1, hW1⟩ : ∃ W1, W.alloc (.cells #[.int .i64 2, .int .i64 op, .int .u16 v, .string nm, .slice q1 n1 d1, .slice q2 n2 d2, .bool has, .int .i64 p1, .int .i64 p2] 30) = W1 := ⟨_, rfl⟩
 have v1 : W1.heap[W.heap.size]? = some (.cells [.int .i64 2, .int .i64 op, .int .u16 v, .string nm, .slice q1 n1 d1, .slice q2 n2 d2, .bool has, .int .i64 p1, .int .i64 p2].toArray 30 (0, 0)) := by rw [<- hW1]; exact heap_alloc_new W _
 have HB := hid (show Below W.heap.size W W1 by rw [<- hW1]; exact (Below.refl _ _).alloc (Nat.le_refl _) _)
 have x0 := S.cell_of W1 _ 0 _ 30 _ v1 rfl
 have x1 := S.cell_of W1 _ 1 _ 30 _ v1 rfl
 have x2 := S.cell_of W1 _ 2 _ 30 _ v1 rfl
 have x3 := S.cell_of W1 _ 3 _ 30 _ v1 rfl
 have x4 := S.cell_of W1 _ 4 _ 30 _ v1 rfl
 have x5 := S.cell_of W1 _ 5 _ 30 _ v1 rfl
 have x6 := S.cell_of W1 _ 6 _ 30 _ v1 rfl
 have f1 : ∀ i, W1.frozen? ⟨W.heap.size, i, none⟩ = false := fun i => S.frozen_of W1 W.heap.size i _ 30 v1
 have HV := hid v1
 clear v1
 go_enter Tryz.func62, Tryz.ntmps62
 go_wp2
 go_ret
 refine ⟨rfl, ?_⟩
 first | exact HB.out | exact (Below.refl _ _).alloc (Nat.le_refl _) _ | exact HB.out.setCell (Nat.le_refl _) _ | exact (HB.out.setCell (p := ⟨W.heap.size, _, none⟩) (Nat.le_refl _) _).setCell (p := ⟨W.heap.size, _, none⟩) (Nat.le_refl _) _ | exact ((HB.out.setCell (p := ⟨W.heap.size, _, none⟩) (Nat.le_refl _) _).setCell (p := ⟨W.heap.size, _, none⟩) (Nat.le_refl _) _).setCell (p := ⟨W.heap.size, _, none⟩) (Nat.le_refl _) _
theorem ho_2_2 (op v p1 p2 : Int) (nm : ByteArray) (n1 n2 d1 d2 : Nat) (q1 q2 : Option Addr) (has : Bool) (W : World) (h_op : (op == 0) = true) (h_nm : nm.toList.isEmpty = true) :
  Calls Tryz.prog 62 #[.agg #[.int .i64 2, .int .i64 op, .int .u16 v, .string nm, .slice q1 n1 d1, .slice q2 n2 d2, .bool true, .int .i64 p1, .int .i64 p2]] W fun e w' => e = .returned (.bool false) /\ Below W.heap.size W w' := by
 have g_op : op = 0 := by simpa using h_op
 have g_nm : nm.toList = [] := by simpa using h_nm
 obtain ⟨W1, hW1⟩ : ∃ W1, W.alloc (.cells #[.int .i64 2, .int .i64 op, .int .u16 v, .string nm, .slice q1 n1 d1, .slice q2 n2 d2, .bool true, .int .i64 p1, .int .i64 p2] 30) = W1 := ⟨_, rfl⟩
 have v1 : W1.heap[W.heap.size]? = some (.cells [.int .i64 2, .int .i64 op, .int .u16 v, .string nm, .slice q1 n1 d1, .slice q2 n2 d2, .bool true, .int .i64 p1, .int .i64 p2].toArray 30 (0, 0)) := by rw [<- hW1]; exact heap_alloc_new W _
 have HB := hid (show Below W.heap.size W W1 by rw [<- hW1]; exact (Below.refl _ _).alloc (Nat.le_refl _) _)
 have x0 := S.cell_of W1 _ 0 _ 30 _ v1 rfl
 have x1 := S.cell_of W1 _ 1 _ 30 _ v1 rfl
 have x2 := S.cell_of W1 _ 2 _ 30 _ v1 rfl
 have x3 := S.cell_of W1 _ 3 _ 30 _ v1 rfl
 have x4 := S.cell_of W1 _ 4 _ 30 _ v1 rfl
 have x5 := S.cell_of W1 _ 5 _ 30 _ v1 rfl
 have x6 := S.cell_of W1 _ 6 _ 30 _ v1 rfl
 have f1 : ∀ i, W1.frozen? ⟨W.heap.size, i, none⟩ = false := fun i => S.frozen_of W1 W.heap.size i _ 30 v1
 have HV := hid v1
 clear v1
 go_enter Tryz.func62, Tryz.ntmps62
 go_wp2
 go_ret
 refine ⟨rfl, ?_⟩
 first | exact HB.out | exact (Below.refl _ _).alloc (Nat.le_refl _) _ | exact HB.out.setCell (Nat.le_refl _) _ | exact (HB.out.setCell (p := ⟨W.heap.size, _, none⟩) (Nat.le_refl _) _).setCell (p := ⟨W.heap.size, _, none⟩) (Nat.le_refl _) _ | exact ((HB.out.setCell (p := ⟨W.heap.size, _, none⟩) (Nat.le_refl _) _).setCell (p := ⟨W.heap.size, _, none⟩) (Nat.le_refl _) _).setCell (p := ⟨W.heap.size, _, none⟩) (Nat.le_refl _) _
theorem ho_2_3 (op v p1 p2 : Int) (nm : ByteArray) (n1 n2 d1 d2 : Nat) (q1 q2 : Option Addr) (has : Bool) (W : World) (h_op : (op == 0) = true) (h_nm : nm.toList.isEmpty = true) (h_th : (((n1 + 1 : Nat) : Int) == 0) = false) :
  Calls Tryz.prog 62 #[.agg #[.int .i64 2, .int .i64 op, .int .u16 v, .string nm, .slice q1 (n1 + 1) d1, .slice q2 n2 d2, .bool false, .int .i64 p1, .int .i64 p2]] W fun e w' => e = .returned (.bool false) /\ Below W.heap.size W w' := by
 have g_op : op = 0 := by simpa using h_op
 have g_nm : nm.toList = [] := by simpa using h_nm
 obtain ⟨W1, hW1⟩ : ∃ W1, W.alloc (.cells #[.int .i64 2, .int .i64 op, .int .u16 v, .string nm, .slice q1 (n1 + 1) d1, .slice q2 n2 d2, .bool false, .int .i64 p1, .int .i64 p2] 30) = W1 := ⟨_, rfl⟩
 have v1 : W1.heap[W.heap.size]? = some (.cells [.int .i64 2, .int .i64 op, .int .u16 v, .string nm, .slice q1 (n1 + 1) d1, .slice q2 n2 d2, .bool false, .int .i64 p1, .int .i64 p2].toArray 30 (0, 0)) := by rw [<- hW1]; exact heap_alloc_new W _
 have HB := hid (show Below W.heap.size W W1 by rw [<- hW1]; exact (Below.refl _ _).alloc (Nat.le_refl _) _)
 have x0 := S.cell_of W1 _ 0 _ 30 _ v1 rfl
 have x1 := S.cell_of W1 _ 1 _ 30 _ v1 rfl
 have x2 := S.cell_of W1 _ 2 _ 30 _ v1 rfl
 have x3 := S.cell_of W1 _ 3 _ 30 _ v1 rfl
 have x4 := S.cell_of W1 _ 4 _ 30 _ v1 rfl
 have x5 := S.cell_of W1 _ 5 _ 30 _ v1 rfl
 have x6 := S.cell_of W1 _ 6 _ 30 _ v1 rfl
 have f1 : ∀ i, W1.frozen? ⟨W.heap.size, i, none⟩ = false := fun i => S.frozen_of W1 W.heap.size i _ 30 v1
 have HV := hid v1
 clear v1
 go_enter Tryz.func62, Tryz.ntmps62
 go_wp2
 go_ret
 refine ⟨rfl, ?_⟩
 first | exact HB.out | exact (Below.refl _ _).alloc (Nat.le_refl _) _ | exact HB.out.setCell (Nat.le_refl _) _ | exact (HB.out.setCell (p := ⟨W.heap.size, _, none⟩) (Nat.le_refl _) _).setCell (p := ⟨W.heap.size, _, none⟩) (Nat.le_refl _) _ | exact ((HB.out.setCell (p := ⟨W.heap.size, _, none⟩) (Nat.le_refl _) _).setCell (p := ⟨W.heap.size, _, none⟩) (Nat.le_refl _) _).setCell (p := ⟨W.heap.size, _, none⟩) (Nat.le_refl _) _
theorem ho_2_4 (op v p1 p2 : Int) (nm : ByteArray) (n1 n2 d1 d2 : Nat) (q1 q2 : Option Addr) (has : Bool) (W : World) (h_op : (op == 0) = true) (h_nm : nm.toList.isEmpty = true) (h_el : (((n2 + 1 : Nat) : Int) == 0) = false) :
  Calls Tryz.prog 62 #[.agg #[.int .i64 2, .int .i64 op, .int .u16 v, .string nm, .slice q1 0 d1, .slice q2 (n2 + 1) d2, .bool false, .int .i64 p1, .int .i64 p2]] W fun e w' => e = .returned (.bool false) /\ Below W.heap.size W w' := by
 have g_op : op = 0 := by simpa using h_op
 have g_nm : nm.toList = [] := by simpa using h_nm
 obtain ⟨W1, hW1⟩ : ∃ W1, W.alloc (.cells #[.int .i64 2, .int .i64 op, .int .u16 v, .string nm, .slice q1 0 d1, .slice q2 (n2 + 1) d2, .bool false, .int .i64 p1, .int .i64 p2] 30) = W1 := ⟨_, rfl⟩
 have v1 : W1.heap[W.heap.size]? = some (.cells [.int .i64 2, .int .i64 op, .int .u16 v, .string nm, .slice q1 0 d1, .slice q2 (n2 + 1) d2, .bool false, .int .i64 p1, .int .i64 p2].toArray 30 (0, 0)) := by rw [<- hW1]; exact heap_alloc_new W _
 have HB := hid (show Below W.heap.size W W1 by rw [<- hW1]; exact (Below.refl _ _).alloc (Nat.le_refl _) _)
 have x0 := S.cell_of W1 _ 0 _ 30 _ v1 rfl
 have x1 := S.cell_of W1 _ 1 _ 30 _ v1 rfl
 have x2 := S.cell_of W1 _ 2 _ 30 _ v1 rfl
 have x3 := S.cell_of W1 _ 3 _ 30 _ v1 rfl
 have x4 := S.cell_of W1 _ 4 _ 30 _ v1 rfl
 have x5 := S.cell_of W1 _ 5 _ 30 _ v1 rfl
 have x6 := S.cell_of W1 _ 6 _ 30 _ v1 rfl
 have f1 : ∀ i, W1.frozen? ⟨W.heap.size, i, none⟩ = false := fun i => S.frozen_of W1 W.heap.size i _ 30 v1
 have HV := hid v1
 clear v1
 go_enter Tryz.func62, Tryz.ntmps62
 go_wp2
 go_ret
 refine ⟨rfl, ?_⟩
 first | exact HB.out | exact (Below.refl _ _).alloc (Nat.le_refl _) _ | exact HB.out.setCell (Nat.le_refl _) _ | exact (HB.out.setCell (p := ⟨W.heap.size, _, none⟩) (Nat.le_refl _) _).setCell (p := ⟨W.heap.size, _, none⟩) (Nat.le_refl _) _ | exact ((HB.out.setCell (p := ⟨W.heap.size, _, none⟩) (Nat.le_refl _) _).setCell (p := ⟨W.heap.size, _, none⟩) (Nat.le_refl _) _).setCell (p := ⟨W.heap.size, _, none⟩) (Nat.le_refl _) _
theorem ho_2_5 (op v p1 p2 : Int) (nm : ByteArray) (n1 n2 d1 d2 : Nat) (q1 q2 : Option Addr) (has : Bool) (W : World) (h_op : (op == 0) = true) (h_nm : nm.toList.isEmpty = true) :
  Calls Tryz.prog 62 #[.agg #[.int .i64 2, .int .i64 op, .int .u16 v, .string nm, .slice q1 0 d1, .slice q2 0 d2, .bool false, .int .i64 p1, .int .i64 p2]] W fun e w' => e = .returned (.bool true) /\ Below W.heap.size W w' := by
 have g_op : op = 0 := by simpa using h_op
 have g_nm : nm.toList = [] := by simpa using h_nm
 obtain ⟨W1, hW1⟩ : ∃ W1, W.alloc (.cells #[.int .i64 2, .int .i64 op, .int .u16 v, .string nm, .slice q1 0 d1, .slice q2 0 d2, .bool false, .int .i64 p1, .int .i64 p2] 30) = W1 := ⟨_, rfl⟩
 have v1 : W1.heap[W.heap.size]? = some (.cells [.int .i64 2, .int .i64 op, .int .u16 v, .string nm, .slice q1 0 d1, .slice q2 0 d2, .bool false, .int .i64 p1, .int .i64 p2].toArray 30 (0, 0)) := by rw [<- hW1]; exact heap_alloc_new W _
 have HB := hid (show Below W.heap.size W W1 by rw [<- hW1]; exact (Below.refl _ _).alloc (Nat.le_refl _) _)
 have x0 := S.cell_of W1 _ 0 _ 30 _ v1 rfl
 have x1 := S.cell_of W1 _ 1 _ 30 _ v1 rfl
 have x2 := S.cell_of W1 _ 2 _ 30 _ v1 rfl
 have x3 := S.cell_of W1 _ 3 _ 30 _ v1 rfl
 have x4 := S.cell_of W1 _ 4 _ 30 _ v1 rfl
 have x5 := S.cell_of W1 _ 5 _ 30 _ v1 rfl
 have x6 := S.cell_of W1 _ 6 _ 30 _ v1 rfl
 have f1 : ∀ i, W1.frozen? ⟨W.heap.size, i, none⟩ = false := fun i => S.frozen_of W1 W.heap.size i _ 30 v1
 have HV := hid v1
 clear v1
 go_enter Tryz.func62, Tryz.ntmps62
 go_wp2
 go_ret
 refine ⟨rfl, ?_⟩
 first | exact HB.out | exact (Below.refl _ _).alloc (Nat.le_refl _) _ | exact HB.out.setCell (Nat.le_refl _) _ | exact (HB.out.setCell (p := ⟨W.heap.size, _, none⟩) (Nat.le_refl _) _).setCell (p := ⟨W.heap.size, _, none⟩) (Nat.le_refl _) _ | exact ((HB.out.setCell (p := ⟨W.heap.size, _, none⟩) (Nat.le_refl _) _).setCell (p := ⟨W.heap.size, _, none⟩) (Nat.le_refl _) _).setCell (p := ⟨W.heap.size, _, none⟩) (Nat.le_refl _) _
theorem ho_3_0 (op v p1 p2 : Int) (nm : ByteArray) (n1 n2 d1 d2 : Nat) (q1 q2 : Option Addr) (has : Bool) (W : World) (h_op : (op == 0) = false) :
  Calls Tryz.prog 62 #[.agg #[.int .i64 3, .int .i64 op, .int .u16 v, .string nm, .slice q1 n1 d1, .slice q2 n2 d2, .bool has, .int .i64 p1, .int .i64 p2]] W fun e w' => e = .returned (.bool false) /\ Below W.heap.size W w' := by
 have g_op : ¬ op = 0 := by simpa using h_op
 obtain ⟨W1, hW1⟩ : ∃ W1, W.alloc (.cells #[.int .i64 3, .int .i64 op, .int .u16 v, .string nm, .slice q1 n1 d1, .slice q2 n2 d2, .bool has, .int .i64 p1, .int .i64 p2] 30) = W1 := ⟨_, rfl⟩
 have v1 : W1.heap[W.heap.size]? = some (.cells [.int .i64 3, .int .i64 op, .int .u16 v, .string nm, .slice q1 n1 d1, .slice q2 n2 d2, .bool has, .int .i64 p1, .int .i64 p2].toArray 30 (0, 0)) := by rw [<- hW1]; exact heap_alloc_new W _
 have HB := hid (show Below W.heap.size W W1 by rw [<- hW1]; exact (Below.refl _ _).alloc (Nat.le_refl _) _)
 have x0 := S.cell_of W1 _ 0 _ 30 _ v1 rfl
 have x1 := S.cell_of W1 _ 1 _ 30 _ v1 rfl
 have x2 := S.cell_of W1 _ 2 _ 30 _ v1 rfl
 have x3 := S.cell_of W1 _ 3 _ 30 _ v1 rfl
 have x4 := S.cell_of W1 _ 4 _ 30 _ v1 rfl
 have x5 := S.cell_of W1 _ 5 _ 30 _ v1 rfl
 have x6 := S.cell_of W1 _ 6 _ 30 _ v1 rfl
 have f1 : ∀ i, W1.frozen? ⟨W.heap.size, i, none⟩ = false := fun i => S.frozen_of W1 W.heap.size i _ 30 v1
 have HV := hid v1
 clear v1
 go_enter Tryz.func62, Tryz.ntmps62
 go_wp2
 go_ret
 refine ⟨rfl, ?_⟩
 first | exact HB.out | exact (Below.refl _ _).alloc (Nat.le_refl _) _ | exact HB.out.setCell (Nat.le_refl _) _ | exact (HB.out.setCell (p := ⟨W.heap.size, _, none⟩) (Nat.le_refl _) _).setCell (p := ⟨W.heap.size, _, none⟩) (Nat.le_refl _) _ | exact ((HB.out.setCell (p := ⟨W.heap.size, _, none⟩) (Nat.le_refl _) _).setCell (p := ⟨W.heap.size, _, none⟩) (Nat.le_refl _) _).setCell (p := ⟨W.heap.size, _, none⟩) (Nat.le_refl _) _
theorem ho_3_1 (op v p1 p2 : Int) (nm : ByteArray) (n1 n2 d1 d2 : Nat) (q1 q2 : Option Addr) (has : Bool) (W : World) (h_op : (op == 0) = true) (h_v : (v == 0) = false) :
  Calls Tryz.prog 62 #[.agg #[.int .i64 3, .int .i64 op, .int .u16 v, .string nm, .slice q1 n1 d1, .slice q2 n2 d2, .bool has, .int .i64 p1, .int .i64 p2]] W fun e w' => e = .returned (.bool false) /\ Below W.heap.size W w' := by
 have g_op : op = 0 := by simpa using h_op
 have g_v : ¬ v = 0 := by simpa using h_v
 obtain ⟨W1, hW1⟩ : ∃ W1, W.alloc (.cells #[.int .i64 3, .int .i64 op, .int .u16 v, .string nm, .slice q1 n1 d1, .slice q2 n2 d2, .bool has, .int .i64 p1, .int .i64 p2] 30) = W1 := ⟨_, rfl⟩
 have v1 : W1.heap[W.heap.size]? = some (.cells [.int .i64 3, .int .i64 op, .int .u16 v, .string nm, .slice q1 n1 d1, .slice q2 n2 d2, .bool has, .int .i64 p1, .int .i64 p2].toArray 30 (0, 0)) := by rw [<- hW1]; exact heap_alloc_new W _
 have HB := hid (show Below W.heap.size W W1 by rw [<- hW1]; exact (Below.refl _ _).alloc (Nat.le_refl _) _)
 have x0 := S.cell_of W1 _ 0 _ 30 _ v1 rfl
 have x1 := S.cell_of W1 _ 1 _ 30 _ v1 rfl
 have x2 := S.cell_of W1 _ 2 _ 30 _ v1 rfl
 have x3 := S.cell_of W1 _ 3 _ 30 _ v1 rfl
 have x4 := S.cell_of W1 _ 4 _ 30 _ v1 rfl
 have x5 := S.cell_of W1 _ 5 _ 30 _ v1 rfl
 have x6 := S.cell_of W1 _ 6 _ 30 _ v1 rfl
 have f1 : ∀ i, W1.frozen? ⟨W.heap.size, i, none⟩ = false := fun i => S.frozen_of W1 W.heap.size i _ 30 v1
 have HV := hid v1
 clear v1
 go_enter Tryz.func62, Tryz.ntmps62
 go_wp2
 go_ret
 refine ⟨rfl, ?_⟩
 first | exact HB.out | exact (Below.refl _ _).alloc (Nat.le_refl _) _ | exact HB.out.setCell (Nat.le_refl _) _ | exact (HB.out.setCell (p := ⟨W.heap.size, _, none⟩) (Nat.le_refl _) _).setCell (p := ⟨W.heap.size, _, none⟩) (Nat.le_refl _) _ | exact ((HB.out.setCell (p := ⟨W.heap.size, _, none⟩) (Nat.le_refl _) _).setCell (p := ⟨W.heap.size, _, none⟩) (Nat.le_refl _) _).setCell (p := ⟨W.heap.size, _, none⟩) (Nat.le_refl _) _
theorem ho_3_2 (op v p1 p2 : Int) (nm : ByteArray) (n1 n2 d1 d2 : Nat) (q1 q2 : Option Addr) (has : Bool) (W : World) (h_op : (op == 0) = true) (h_v : (v == 0) = true) :
  Calls Tryz.prog 62 #[.agg #[.int .i64 3, .int .i64 op, .int .u16 v, .string nm, .slice q1 n1 d1, .slice q2 n2 d2, .bool true, .int .i64 p1, .int .i64 p2]] W fun e w' => e = .returned (.bool false) /\ Below W.heap.size W w' := by
 have g_op : op = 0 := by simpa using h_op
 have g_v : v = 0 := by simpa using h_v
 obtain ⟨W1, hW1⟩ : ∃ W1, W.alloc (.cells #[.int .i64 3, .int .i64 op, .int .u16 v, .string nm, .slice q1 n1 d1, .slice q2 n2 d2, .bool true, .int .i64 p1, .int .i64 p2] 30) = W1 := ⟨_, rfl⟩
 have v1 : W1.heap[W.heap.size]? = some (.cells [.int .i64 3, .int .i64 op, .int .u16 v, .string nm, .slice q1 n1 d1, .slice q2 n2 d2, .bool true, .int .i64 p1, .int .i64 p2].toArray 30 (0, 0)) := by rw [<- hW1]; exact heap_alloc_new W _
 have HB := hid (show Below W.heap.size W W1 by rw [<- hW1]; exact (Below.refl _ _).alloc (Nat.le_refl _) _)
 have x0 := S.cell_of W1 _ 0 _ 30 _ v1 rfl
 have x1 := S.cell_of W1 _ 1 _ 30 _ v1 rfl
 have x2 := S.cell_of W1 _ 2 _ 30 _ v1 rfl
 have x3 := S.cell_of W1 _ 3 _ 30 _ v1 rfl
 have x4 := S.cell_of W1 _ 4 _ 30 _ v1 rfl
 have x5 := S.cell_of W1 _ 5 _ 30 _ v1 rfl
 have x6 := S.cell_of W1 _ 6 _ 30 _ v1 rfl
 have f1 : ∀ i, W1.frozen? ⟨W.heap.size, i, none⟩ = false := fun i => S.frozen_of W1 W.heap.size i _ 30 v1
 have HV := hid v1
 clear v1
 go_enter Tryz.func62, Tryz.ntmps62
 go_wp2
 go_ret
 refine ⟨rfl, ?_⟩
 first | exact HB.out | exact (Below.refl _ _).alloc (Nat.le_refl _) _ | exact HB.out.setCell (Nat.le_refl _) _ | exact (HB.out.setCell (p := ⟨W.heap.size, _, none⟩) (Nat.le_refl _) _).setCell (p := ⟨W.heap.size, _, none⟩) (Nat.le_refl _) _ | exact ((HB.out.setCell (p := ⟨W.heap.size, _, none⟩) (Nat.le_refl _) _).setCell (p := ⟨W.heap.size, _, none⟩) (Nat.le_refl _) _).setCell (p := ⟨W.heap.size, _, none⟩) (Nat.le_refl _) _
theorem ho_3_3 (op v p1 p2 : Int) (nm : ByteArray) (n1 n2 d1 d2 : Nat) (q1 q2 : Option Addr) (has : Bool) (W : World) (h_op : (op == 0) = true) (h_v : (v == 0) = true) (h_th : (((n1 + 1 : Nat) : Int) == 0) = false) :
  Calls Tryz.prog 62 #[.agg #[.int .i64 3, .int .i64 op, .int .u16 v, .string nm, .slice q1 (n1 + 1) d1, .slice q2 n2 d2, .bool false, .int .i64 p1, .int .i64 p2]] W fun e w' => e = .returned (.bool false) /\ Below W.heap.size W w' := by
 have g_op : op = 0 := by simpa using h_op
 have g_v : v = 0 := by simpa using h_v
 obtain ⟨W1, hW1⟩ : ∃ W1, W.alloc (.cells #[.int .i64 3, .int .i64 op, .int .u16 v, .string nm, .slice q1 (n1 + 1) d1, .slice q2 n2 d2, .bool false, .int .i64 p1, .int .i64 p2] 30) = W1 := ⟨_, rfl⟩
 have v1 : W1.heap[W.heap.size]? = some (.cells [.int .i64 3, .int .i64 op, .int .u16 v, .string nm, .slice q1 (n1 + 1) d1, .slice q2 n2 d2, .bool false, .int .i64 p1, .int .i64 p2].toArray 30 (0, 0)) := by rw [<- hW1]; exact heap_alloc_new W _
 have HB := hid (show Below W.heap.size W W1 by rw [<- hW1]; exact (Below.refl _ _).alloc (Nat.le_refl _) _)
 have x0 := S.cell_of W1 _ 0 _ 30 _ v1 rfl
 have x1 := S.cell_of W1 _ 1 _ 30 _ v1 rfl
 have x2 := S.cell_of W1 _ 2 _ 30 _ v1 rfl
 have x3 := S.cell_of W1 _ 3 _ 30 _ v1 rfl
 have x4 := S.cell_of W1 _ 4 _ 30 _ v1 rfl
 have x5 := S.cell_of W1 _ 5 _ 30 _ v1 rfl
 have x6 := S.cell_of W1 _ 6 _ 30 _ v1 rfl
 have f1 : ∀ i, W1.frozen? ⟨W.heap.size, i, none⟩ = false := fun i => S.frozen_of W1 W.heap.size i _ 30 v1
 have HV := hid v1
 clear v1
 go_enter Tryz.func62, Tryz.ntmps62
 go_wp2
 go_ret
 refine ⟨rfl, ?_⟩
 first | exact HB.out | exact (Below.refl _ _).alloc (Nat.le_refl _) _ | exact HB.out.setCell (Nat.le_refl _) _ | exact (HB.out.setCell (p := ⟨W.heap.size, _, none⟩) (Nat.le_refl _) _).setCell (p := ⟨W.heap.size, _, none⟩) (Nat.le_refl _) _ | exact ((HB.out.setCell (p := ⟨W.heap.size, _, none⟩) (Nat.le_refl _) _).setCell (p := ⟨W.heap.size, _, none⟩) (Nat.le_refl _) _).setCell (p := ⟨W.heap.size, _, none⟩) (Nat.le_refl _) _
theorem ho_3_4 (op v p1 p2 : Int) (nm : ByteArray) (n1 n2 d1 d2 : Nat) (q1 q2 : Option Addr) (has : Bool) (W : World) (h_op : (op == 0) = true) (h_v : (v == 0) = true) (h_el : (((n2 + 1 : Nat) : Int) == 0) = false) :
  Calls Tryz.prog 62 #[.agg #[.int .i64 3, .int .i64 op, .int .u16 v, .string nm, .slice q1 0 d1, .slice q2 (n2 + 1) d2, .bool false, .int .i64 p1, .int .i64 p2]] W fun e w' => e = .returned (.bool false) /\ Below W.heap.size W w' := by
 have g_op : op = 0 := by simpa using h_op
 have g_v : v = 0 := by simpa using h_v
 obtain ⟨W1, hW1⟩ : ∃ W1, W.alloc (.cells #[.int .i64 3, .int .i64 op, .int .u16 v, .string nm, .slice q1 0 d1, .slice q2 (n2 + 1) d2, .bool false, .int .i64 p1, .int .i64 p2] 30) = W1 := ⟨_, rfl⟩
 have v1 : W1.heap[W.heap.size]? = some (.cells [.int .i64 3, .int .i64 op, .int .u16 v, .string nm, .slice q1 0 d1, .slice q2 (n2 + 1) d2, .bool false, .int .i64 p1, .int .i64 p2].toArray 30 (0, 0)) := by rw [<- hW1]; exact heap_alloc_new W _
 have HB := hid (show Below W.heap.size W W1 by rw [<- hW1]; exact (Below.refl _ _).alloc (Nat.le_refl _) _)
 have x0 := S.cell_of W1 _ 0 _ 30 _ v1 rfl
 have x1 := S.cell_of W1 _ 1 _ 30 _ v1 rfl
 have x2 := S.cell_of W1 _ 2 _ 30 _ v1 rfl
 have x3 := S.cell_of W1 _ 3 _ 30 _ v1 rfl
 have x4 := S.cell_of W1 _ 4 _ 30 _ v1 rfl
 have x5 := S.cell_of W1 _ 5 _ 30 _ v1 rfl
 have x6 := S.cell_of W1 _ 6 _ 30 _ v1 rfl
 have f1 : ∀ i, W1.frozen? ⟨W.heap.size, i, none⟩ = false := fun i => S.frozen_of W1 W.heap.size i _ 30 v1
 have HV := hid v1
 clear v1
 go_enter Tryz.func62, Tryz.ntmps62
 go_wp2
 go_ret
 refine ⟨rfl, ?_⟩
 first | exact HB.out | exact (Below.refl _ _).alloc (Nat.le_refl _) _ | exact HB.out.setCell (Nat.le_refl _) _ | exact (HB.out.setCell (p := ⟨W.heap.size, _, none⟩) (Nat.le_refl _) _).setCell (p := ⟨W.heap.size, _, none⟩) (Nat.le_refl _) _ | exact ((HB.out.setCell (p := ⟨W.heap.size, _, none⟩) (Nat.le_refl _) _).setCell (p := ⟨W.heap.size, _, none⟩) (Nat.le_refl _) _).setCell (p := ⟨W.heap.size, _, none⟩) (Nat.le_refl _) _
theorem ho_3_5 (op v p1 p2 : Int) (nm : ByteArray) (n1 n2 d1 d2 : Nat) (q1 q2 : Option Addr) (has : Bool) (W : World) (h_op : (op == 0) = true) (h_v : (v == 0) = true) :
  Calls Tryz.prog 62 #[.agg #[.int .i64 3, .int .i64 op, .int .u16 v, .string nm, .slice q1 0 d1, .slice q2 0 d2, .bool false, .int .i64 p1, .int .i64 p2]] W fun e w' => e = .returned (.bool true) /\ Below W.heap.size W w' := by
 have g_op : op = 0 := by simpa using h_op
 have g_v : v = 0 := by simpa using h_v
 obtain ⟨W1, hW1⟩ : ∃ W1, W.alloc (.cells #[.int .i64 3, .int .i64 op, .int .u16 v, .string nm, .slice q1 0 d1, .slice q2 0 d2, .bool false, .int .i64 p1, .int .i64 p2] 30) = W1 := ⟨_, rfl⟩
 have v1 : W1.heap[W.heap.size]? = some (.cells [.int .i64 3, .int .i64 op, .int .u16 v, .string nm, .slice q1 0 d1, .slice q2 0 d2, .bool false, .int .i64 p1, .int .i64 p2].toArray 30 (0, 0)) := by rw [<- hW1]; exact heap_alloc_new W _
 have HB := hid (show Below W.heap.size W W1 by rw [<- hW1]; exact (Below.refl _ _).alloc (Nat.le_refl _) _)
 have x0 := S.cell_of W1 _ 0 _ 30 _ v1 rfl
 have x1 := S.cell_of W1 _ 1 _ 30 _ v1 rfl
 have x2 := S.cell_of W1 _ 2 _ 30 _ v1 rfl
 have x3 := S.cell_of W1 _ 3 _ 30 _ v1 rfl
 have x4 := S.cell_of W1 _ 4 _ 30 _ v1 rfl
 have x5 := S.cell_of W1 _ 5 _ 30 _ v1 rfl
 have x6 := S.cell_of W1 _ 6 _ 30 _ v1 rfl
 have f1 : ∀ i, W1.frozen? ⟨W.heap.size, i, none⟩ = false := fun i => S.frozen_of W1 W.heap.size i _ 30 v1
 have HV := hid v1
 clear v1
 go_enter Tryz.func62, Tryz.ntmps62
 go_wp2
 go_ret
 refine ⟨rfl, ?_⟩
 first | exact HB.out | exact (Below.refl _ _).alloc (Nat.le_refl _) _ | exact HB.out.setCell (Nat.le_refl _) _ | exact (HB.out.setCell (p := ⟨W.heap.size, _, none⟩) (Nat.le_refl _) _).setCell (p := ⟨W.heap.size, _, none⟩) (Nat.le_refl _) _ | exact ((HB.out.setCell (p := ⟨W.heap.size, _, none⟩) (Nat.le_refl _) _).setCell (p := ⟨W.heap.size, _, none⟩) (Nat.le_refl _) _).setCell (p := ⟨W.heap.size, _, none⟩) (Nat.le_refl _) _
theorem ho_4f_0 (op v p1 p2 : Int) (nm : ByteArray) (n1 n2 d1 d2 : Nat) (q1 q2 : Option Addr) (has : Bool) (W : World) (h_op : (op == 0) = false) :
  Calls Tryz.prog 62 #[.agg #[.int .i64 4, .int .i64 op, .int .u16 v, .string nm, .slice q1 n1 d1, .slice q2 n2 d2, .bool false, .int .i64 p1, .int .i64 p2]] W fun e w' => e = .returned (.bool false) /\ Below W.heap.size W w' := by
 have g_op : ¬ op = 0 := by simpa using h_op
 obtain ⟨W1, hW1⟩ : ∃ W1, W.alloc (.cells #[.int .i64 4, .int .i64 op, .int .u16 v, .string nm, .slice q1 n1 d1, .slice q2 n2 d2, .bool false, .int .i64 p1, .int .i64 p2] 30) = W1 := ⟨_, rfl⟩
 have v1 : W1.heap[W.heap.size]? = some (.cells [.int .i64 4, .int .i64 op, .int .u16 v, .string nm, .slice q1 n1 d1, .slice q2 n2 d2, .bool false, .int .i64 p1, .int .i64 p2].toArray 30 (0, 0)) := by rw [<- hW1]; exact heap_alloc_new W _
 have HB := hid (show Below W.heap.size W W1 by rw [<- hW1]; exact (Below.refl _ _).alloc (Nat.le_refl _) _)
 have x0 := S.cell_of W1 _ 0 _ 30 _ v1 rfl
 have x1 := S.cell_of W1 _ 1 _ 30 _ v1 rfl
 have x2 := S.cell_of W1 _ 2 _ 30 _ v1 rfl
 have x3 := S.cell_of W1 _ 3 _ 30 _ v1 rfl
 have x4 := S.cell_of W1 _ 4 _ 30 _ v1 rfl
 have x5 := S.cell_of W1 _ 5 _ 30 _ v1 rfl
 have x6 := S.cell_of W1 _ 6 _ 30 _ v1 rfl
 have f1 : ∀ i, W1.frozen? ⟨W.heap.size, i, none⟩ = false := fun i => S.frozen_of W1 W.heap.size i _ 30 v1
 have HV := hid v1
 clear v1
 go_enter Tryz.func62, Tryz.ntmps62
 go_wp2
 go_ret
 refine ⟨rfl, ?_⟩
 first | exact HB.out | exact (Below.refl _ _).alloc (Nat.le_refl _) _ | exact HB.out.setCell (Nat.le_refl _) _ | exact (HB.out.setCell (p := ⟨W.heap.size, _, none⟩) (Nat.le_refl _) _).setCell (p := ⟨W.heap.size, _, none⟩) (Nat.le_refl _) _ | exact ((HB.out.setCell (p := ⟨W.heap.size, _, none⟩) (Nat.le_refl _) _).setCell (p := ⟨W.heap.size, _, none⟩) (Nat.le_refl _) _).setCell (p := ⟨W.heap.size, _, none⟩) (Nat.le_refl _) _
theorem ho_4f_1 (op v p1 p2 : Int) (nm : ByteArray) (n1 n2 d1 d2 : Nat) (q1 q2 : Option Addr) (has : Bool) (W : World) (h_op : (op == 0) = true) (h_v : (v == 0) = false) :
  Calls Tryz.prog 62 #[.agg #[.int .i64 4, .int .i64 op, .int .u16 v, .string nm, .slice q1 n1 d1, .slice q2 n2 d2, .bool false, .int .i64 p1, .int .i64 p2]] W fun e w' => e = .returned (.bool false) /\ Below W.heap.size W w' := by
 have g_op : op = 0 := by simpa using h_op
 have g_v : ¬ v = 0 := by simpa using h_v
 obtain ⟨W1, hW1⟩ : ∃ W1, W.alloc (.cells #[.int .i64 4, .int .i64 op, .int .u16 v, .string nm, .slice q1 n1 d1, .slice q2 n2 d2, .bool false, .int .i64 p1, .int .i64 p2] 30) = W1 := ⟨_, rfl⟩
 have v1 : W1.heap[W.heap.size]? = some (.cells [.int .i64 4, .int .i64 op, .int .u16 v, .string nm, .slice q1 n1 d1, .slice q2 n2 d2, .bool false, .int .i64 p1, .int .i64 p2].toArray 30 (0, 0)) := by rw [<- hW1]; exact heap_alloc_new W _
 have HB := hid (show Below W.heap.size W W1 by rw [<- hW1]; exact (Below.refl _ _).alloc (Nat.le_refl _) _)
 have x0 := S.cell_of W1 _ 0 _ 30 _ v1 rfl
 have x1 := S.cell_of W1 _ 1 _ 30 _ v1 rfl
 have x2 := S.cell_of W1 _ 2 _ 30 _ v1 rfl
 have x3 := S.cell_of W1 _ 3 _ 30 _ v1 rfl
 have x4 := S.cell_of W1 _ 4 _ 30 _ v1 rfl
 have x5 := S.cell_of W1 _ 5 _ 30 _ v1 rfl
 have x6 := S.cell_of W1 _ 6 _ 30 _ v1 rfl
 have f1 : ∀ i, W1.frozen? ⟨W.heap.size, i, none⟩ = false := fun i => S.frozen_of W1 W.heap.size i _ 30 v1
 have HV := hid v1
 clear v1
 go_enter Tryz.func62, Tryz.ntmps62
 go_wp2
 go_ret
 refine ⟨rfl, ?_⟩
 first | exact HB.out | exact (Below.refl _ _).alloc (Nat.le_refl _) _ | exact HB.out.setCell (Nat.le_refl _) _ | exact (HB.out.setCell (p := ⟨W.heap.size, _, none⟩) (Nat.le_refl _) _).setCell (p := ⟨W.heap.size, _, none⟩) (Nat.le_refl _) _ | exact ((HB.out.setCell (p := ⟨W.heap.size, _, none⟩) (Nat.le_refl _) _).setCell (p := ⟨W.heap.size, _, none⟩) (Nat.le_refl _) _).setCell (p := ⟨W.heap.size, _, none⟩) (Nat.le_refl _) _
theorem ho_4f_2 (op v p1 p2 : Int) (nm : ByteArray) (n1 n2 d1 d2 : Nat) (q1 q2 : Option Addr) (has : Bool) (W : World) (h_op : (op == 0) = true) (h_v : (v == 0) = true) (h_nm : nm.toList.isEmpty = false) :
  Calls Tryz.prog 62 #[.agg #[.int .i64 4, .int .i64 op, .int .u16 v, .string nm, .slice q1 n1 d1, .slice q2 n2 d2, .bool false, .int .i64 p1, .int .i64 p2]] W fun e w' => e = .returned (.bool false) /\ Below W.heap.size W w' := by
 have g_op : op = 0 := by simpa using h_op
 have g_v : v = 0 := by simpa using h_v
 have g_nm : ¬ nm.toList = [] := by simpa using h_nm
 obtain ⟨W1, hW1⟩ : ∃ W1, W.alloc (.cells #[.int .i64 4, .int .i64 op, .int .u16 v, .string nm, .slice q1 n1 d1, .slice q2 n2 d2, .bool false, .int .i64 p1, .int .i64 p2] 30) = W1 := ⟨_, rfl⟩
 have v1 : W1.heap[W.heap.size]? = some (.cells [.int .i64 4, .int .i64 op, .int .u16 v, .string nm, .slice q1 n1 d1, .slice q2 n2 d2, .bool false, .int .i64 p1, .int .i64 p2].toArray 30 (0, 0)) := by rw [<- hW1]; exact heap_alloc_new W _
 have HB := hid (show Below W.heap.size W W1 by rw [<- hW1]; exact (Below.refl _ _).alloc (Nat.le_refl _) _)
 have x0 := S.cell_of W1 _ 0 _ 30 _ v1 rfl
 have x1 := S.cell_of W1 _ 1 _ 30 _ v1 rfl
 have x2 := S.cell_of W1 _ 2 _ 30 _ v1 rfl
 have x3 := S.cell_of W1 _ 3 _ 30 _ v1 rfl
 have x4 := S.cell_of W1 _ 4 _ 30 _ v1 rfl
 have x5 := S.cell_of W1 _ 5 _ 30 _ v1 rfl
 have x6 := S.cell_of W1 _ 6 _ 30 _ v1 rfl
 have f1 : ∀ i, W1.frozen? ⟨W.heap.size, i, none⟩ = false := fun i => S.frozen_of W1 W.heap.size i _ 30 v1
 have HV := hid v1
 clear v1
 go_enter Tryz.func62, Tryz.ntmps62
 go_wp2
 go_ret
 refine ⟨rfl, ?_⟩
 first | exact HB.out | exact (Below.refl _ _).alloc (Nat.le_refl _) _ | exact HB.out.setCell (Nat.le_refl _) _ | exact (HB.out.setCell (p := ⟨W.heap.size, _, none⟩) (Nat.le_refl _) _).setCell (p := ⟨W.heap.size, _, none⟩) (Nat.le_refl _) _ | exact ((HB.out.setCell (p := ⟨W.heap.size, _, none⟩) (Nat.le_refl _) _).setCell (p := ⟨W.heap.size, _, none⟩) (Nat.le_refl _) _).setCell (p := ⟨W.heap.size, _, none⟩) (Nat.le_refl _) _
theorem ho_4f_3 (op v p1 p2 : Int) (nm : ByteArray) (n1 n2 d1 d2 : Nat) (q1 q2 : Option Addr) (has : Bool) (W : World) (h_op : (op == 0) = true) (h_v : (v == 0) = true) (h_nm : nm.toList.isEmpty = true) (h_el : (((n2 + 1 : Nat) : Int) == 0) = false) :
  Calls Tryz.prog 62 #[.agg #[.int .i64 4, .int .i64 op, .int .u16 v, .string nm, .slice q1 n1 d1, .slice q2 (n2 + 1) d2, .bool false, .int .i64 p1, .int .i64 p2]] W fun e w' => e = .returned (.bool false) /\ Below W.heap.size W w' := by
 have g_op : op = 0 := by simpa using h_op
 have g_v : v = 0 := by simpa using h_v
 have g_nm : nm.toList = [] := by simpa using h_nm
 obtain ⟨W1, hW1⟩ : ∃ W1, W.alloc (.cells #[.int .i64 4, .int .i64 op, .int .u16 v, .string nm, .slice q1 n1 d1, .slice q2 (n2 + 1) d2, .bool false, .int .i64 p1, .int .i64 p2] 30) = W1 := ⟨_, rfl⟩
 have v1 : W1.heap[W.heap.size]? = some (.cells [.int .i64 4, .int .i64 op, .int .u16 v, .string nm, .slice q1 n1 d1, .slice q2 (n2 + 1) d2, .bool false, .int .i64 p1, .int .i64 p2].toArray 30 (0, 0)) := by rw [<- hW1]; exact heap_alloc_new W _
 have HB := hid (show Below W.heap.size W W1 by rw [<- hW1]; exact (Below.refl _ _).alloc (Nat.le_refl _) _)
 have x0 := S.cell_of W1 _ 0 _ 30 _ v1 rfl
 have x1 := S.cell_of W1 _ 1 _ 30 _ v1 rfl
 have x2 := S.cell_of W1 _ 2 _ 30 _ v1 rfl
 have x3 := S.cell_of W1 _ 3 _ 30 _ v1 rfl
 have x4 := S.cell_of W1 _ 4 _ 30 _ v1 rfl
 have x5 := S.cell_of W1 _ 5 _ 30 _ v1 rfl
 have x6 := S.cell_of W1 _ 6 _ 30 _ v1 rfl
 have f1 : ∀ i, W1.frozen? ⟨W.heap.size, i, none⟩ = false := fun i => S.frozen_of W1 W.heap.size i _ 30 v1
 have HV := hid v1
 clear v1
 go_enter Tryz.func62, Tryz.ntmps62
 go_wp2
 go_ret
 refine ⟨rfl, ?_⟩
 first | exact HB.out | exact (Below.refl _ _).alloc (Nat.le_refl _) _ | exact HB.out.setCell (Nat.le_refl _) _ | exact (HB.out.setCell (p := ⟨W.heap.size, _, none⟩) (Nat.le_refl _) _).setCell (p := ⟨W.heap.size, _, none⟩) (Nat.le_refl _) _ | exact ((HB.out.setCell (p := ⟨W.heap.size, _, none⟩) (Nat.le_refl _) _).setCell (p := ⟨W.heap.size, _, none⟩) (Nat.le_refl _) _).setCell (p := ⟨W.heap.size, _, none⟩) (Nat.le_refl _) _
theorem ho_4f_4 (op v p1 p2 : Int) (nm : ByteArray) (n1 n2 d1 d2 : Nat) (q1 q2 : Option Addr) (has : Bool) (W : World) (h_op : (op == 0) = true) (h_v : (v == 0) = true) (h_nm : nm.toList.isEmpty = true) :
  Calls Tryz.prog 62 #[.agg #[.int .i64 4, .int .i64 op, .int .u16 v, .string nm, .slice q1 n1 d1, .slice q2 0 d2, .bool false, .int .i64 p1, .int .i64 p2]] W fun e w' => e = .returned (.bool true) /\ Below W.heap.size W w' := by
 have g_op : op = 0 := by simpa using h_op
 have g_v : v = 0 := by simpa using h_v
 have g_nm : nm.toList = [] := by simpa using h_nm
 obtain ⟨W1, hW1⟩ : ∃ W1, W.alloc (.cells #[.int .i64 4, .int .i64 op, .int .u16 v, .string nm, .slice q1 n1 d1, .slice q2 0 d2, .bool false, .int .i64 p1, .int .i64 p2] 30) = W1 := ⟨_, rfl⟩
 have v1 : W1.heap[W.heap.size]? = some (.cells [.int .i64 4, .int .i64 op, .int .u16 v, .string nm, .slice q1 n1 d1, .slice q2 0 d2, .bool false, .int .i64 p1, .int .i64 p2].toArray 30 (0, 0)) := by rw [<- hW1]; exact heap_alloc_new W _
 have HB := hid (show Below W.heap.size W W1 by rw [<- hW1]; exact (Below.refl _ _).alloc (Nat.le_refl _) _)
 have x0 := S.cell_of W1 _ 0 _ 30 _ v1 rfl
 have x1 := S.cell_of W1 _ 1 _ 30 _ v1 rfl
 have x2 := S.cell_of W1 _ 2 _ 30 _ v1 rfl
 have x3 := S.cell_of W1 _ 3 _ 30 _ v1 rfl
 have x4 := S.cell_of W1 _ 4 _ 30 _ v1 rfl
 have x5 := S.cell_of W1 _ 5 _ 30 _ v1 rfl
 have x6 := S.cell_of W1 _ 6 _ 30 _ v1 rfl
 have f1 : ∀ i, W1.frozen? ⟨W.heap.size, i, none⟩ = false := fun i => S.frozen_of W1 W.heap.size i _ 30 v1
 have HV := hid v1
 clear v1
 go_enter Tryz.func62, Tryz.ntmps62
 go_wp2
 go_ret
 refine ⟨rfl, ?_⟩
 first | exact HB.out | exact (Below.refl _ _).alloc (Nat.le_refl _) _ | exact HB.out.setCell (Nat.le_refl _) _ | exact (HB.out.setCell (p := ⟨W.heap.size, _, none⟩) (Nat.le_refl _) _).setCell (p := ⟨W.heap.size, _, none⟩) (Nat.le_refl _) _ | exact ((HB.out.setCell (p := ⟨W.heap.size, _, none⟩) (Nat.le_refl _) _).setCell (p := ⟨W.heap.size, _, none⟩) (Nat.le_refl _) _).setCell (p := ⟨W.heap.size, _, none⟩) (Nat.le_refl _) _
theorem ho_4t_0 (op v p1 p2 : Int) (nm : ByteArray) (n1 n2 d1 d2 : Nat) (q1 q2 : Option Addr) (has : Bool) (W : World) (h_op : (op == 0) = false) :
  Calls Tryz.prog 62 #[.agg #[.int .i64 4, .int .i64 op, .int .u16 v, .string nm, .slice q1 n1 d1, .slice q2 n2 d2, .bool true, .int .i64 p1, .int .i64 p2]] W fun e w' => e = .returned (.bool false) /\ Below W.heap.size W w' := by
 have g_op : ¬ op = 0 := by simpa using h_op
 obtain ⟨W1, hW1⟩ : ∃ W1, W.alloc (.cells #[.int .i64 4, .int .i64 op, .int .u16 v, .string nm, .slice q1 n1 d1, .slice q2 n2 d2, .bool true, .int .i64 p1, .int .i64 p2] 30) = W1 := ⟨_, rfl⟩
 have v1 : W1.heap[W.heap.size]? = some (.cells [.int .i64 4, .int .i64 op, .int .u16 v, .string nm, .slice q1 n1 d1, .slice q2 n2 d2, .bool true, .int .i64 p1, .int .i64 p2].toArray 30 (0, 0)) := by rw [<- hW1]; exact heap_alloc_new W _
 have HB := hid (show Below W.heap.size W W1 by rw [<- hW1]; exact (Below.refl _ _).alloc (Nat.le_refl _) _)
 have x0 := S.cell_of W1 _ 0 _ 30 _ v1 rfl
 have x1 := S.cell_of W1 _ 1 _ 30 _ v1 rfl
 have x2 := S.cell_of W1 _ 2 _ 30 _ v1 rfl
 have x3 := S.cell_of W1 _ 3 _ 30 _ v1 rfl
 have x4 := S.cell_of W1 _ 4 _ 30 _ v1 rfl
 have x5 := S.cell_of W1 _ 5 _ 30 _ v1 rfl
 have x6 := S.cell_of W1 _ 6 _ 30 _ v1 rfl
 have f1 : ∀ i, W1.frozen? ⟨W.heap.size, i, none⟩ = false := fun i => S.frozen_of W1 W.heap.size i _ 30 v1
 have HV := hid v1
 clear v1
 go_enter Tryz.func62, Tryz.ntmps62
 go_wp2
 go_ret
 refine ⟨rfl, ?_⟩
 first | exact HB.out | exact (Below.refl _ _).alloc (Nat.le_refl _) _ | exact HB.out.setCell (Nat.le_refl _) _ | exact (HB.out.setCell (p := ⟨W.heap.size, _, none⟩) (Nat.le_refl _) _).setCell (p := ⟨W.heap.size, _, none⟩) (Nat.le_refl _) _ | exact ((HB.out.setCell (p := ⟨W.heap.size, _, none⟩) (Nat.le_refl _) _).setCell (p := ⟨W.heap.size, _, none⟩) (Nat.le_refl _) _).setCell (p := ⟨W.heap.size, _, none⟩) (Nat.le_refl _) _
theorem ho_4t_1 (op v p1 p2 : Int) (nm : ByteArray) (n1 n2 d1 d2 : Nat) (q1 q2 : Option Addr) (has : Bool) (W : World) (h_op : (op == 0) = true) (h_v : (v == 0) = false) :
  Calls Tryz.prog 62 #[.agg #[.int .i64 4, .int .i64 op, .int .u16 v, .string nm, .slice q1 n1 d1, .slice q2 n2 d2, .bool true, .int .i64 p1, .int .i64 p2]] W fun e w' => e = .returned (.bool false) /\ Below W.heap.size W w' := by
 have g_op : op = 0 := by simpa using h_op
 have g_v : ¬ v = 0 := by simpa using h_v
 obtain ⟨W1, hW1⟩ : ∃ W1, W.alloc (.cells #[.int .i64 4, .int .i64 op, .int .u16 v, .string nm, .slice q1 n1 d1, .slice q2 n2 d2, .bool true, .int .i64 p1, .int .i64 p2] 30) = W1 := ⟨_, rfl⟩
 have v1 : W1.heap[W.heap.size]? = some (.cells [.int .i64 4, .int .i64 op, .int .u16 v, .string nm, .slice q1 n1 d1, .slice q2 n2 d2, .bool true, .int .i64 p1, .int .i64 p2].toArray 30 (0, 0)) := by rw [<- hW1]; exact heap_alloc_new W _
 have HB := hid (show Below W.heap.size W W1 by rw [<- hW1]; exact (Below.refl _ _).alloc (Nat.le_refl _) _)
 have x0 := S.cell_of W1 _ 0 _ 30 _ v1 rfl
 have x1 := S.cell_of W1 _ 1 _ 30 _ v1 rfl
 have x2 := S.cell_of W1 _ 2 _ 30 _ v1 rfl
 have x3 := S.cell_of W1 _ 3 _ 30 _ v1 rfl
 have x4 := S.cell_of W1 _ 4 _ 30 _ v1 rfl
 have x5 := S.cell_of W1 _ 5 _ 30 _ v1 rfl
 have x6 := S.cell_of W1 _ 6 _ 30 _ v1 rfl
 have f1 : ∀ i, W1.frozen? ⟨W.heap.size, i, none⟩ = false := fun i => S.frozen_of W1 W.heap.size i _ 30 v1
 have HV := hid v1
 clear v1
 go_enter Tryz.func62, Tryz.ntmps62
 go_wp2
 go_ret
 refine ⟨rfl, ?_⟩
 first | exact HB.out | exact (Below.refl _ _).alloc (Nat.le_refl _) _ | exact HB.out.setCell (Nat.le_refl _) _ | exact (HB.out.setCell (p := ⟨W.heap.size, _, none⟩) (Nat.le_refl _) _).setCell (p := ⟨W.heap.size, _, none⟩) (Nat.le_refl _) _ | exact ((HB.out.setCell (p := ⟨W.heap.size, _, none⟩) (Nat.le_refl _) _).setCell (p := ⟨W.heap.size, _, none⟩) (Nat.le_refl _) _).setCell (p := ⟨W.heap.size, _, none⟩) (Nat.le_refl _) _
theorem ho_4t_2 (op v p1 p2 : Int) (nm : ByteArray) (n1 n2 d1 d2 : Nat) (q1 q2 : Option Addr) (has : Bool) (W : World) (h_op : (op == 0) = true) (h_v : (v == 0) = true) (h_nm : nm.toList.isEmpty = false) :
  Calls Tryz.prog 62 #[.agg #[.int .i64 4, .int .i64 op, .int .u16 v, .string nm, .slice q1 n1 d1, .slice q2 n2 d2, .bool true, .int .i64 p1, .int .i64 p2]] W fun e w' => e = .returned (.bool false) /\ Below W.heap.size W w' := by
 have g_op : op = 0 := by simpa using h_op
 have g_v : v = 0 := by simpa using h_v
 have g_nm : ¬ nm.toList = [] := by simpa using h_nm
 obtain ⟨W1, hW1⟩ : ∃ W1, W.alloc (.cells #[.int .i64 4, .int .i64 op, .int .u16 v, .string nm, .slice q1 n1 d1, .slice q2 n2 d2, .bool true, .int .i64 p1, .int .i64 p2] 30) = W1 := ⟨_, rfl⟩
 have v1 : W1.heap[W.heap.size]? = some (.cells [.int .i64 4, .int .i64 op, .int .u16 v, .string nm, .slice q1 n1 d1, .slice q2 n2 d2, .bool true, .int .i64 p1, .int .i64 p2].toArray 30 (0, 0)) := by rw [<- hW1]; exact heap_alloc_new W _
 have HB := hid (show Below W.heap.size W W1 by rw [<- hW1]; exact (Below.refl _ _).alloc (Nat.le_refl _) _)
 have x0 := S.cell_of W1 _ 0 _ 30 _ v1 rfl
 have x1 := S.cell_of W1 _ 1 _ 30 _ v1 rfl
 have x2 := S.cell_of W1 _ 2 _ 30 _ v1 rfl
 have x3 := S.cell_of W1 _ 3 _ 30 _ v1 rfl
 have x4 := S.cell_of W1 _ 4 _ 30 _ v1 rfl
 have x5 := S.cell_of W1 _ 5 _ 30 _ v1 rfl
 have x6 := S.cell_of W1 _ 6 _ 30 _ v1 rfl
 have f1 : ∀ i, W1.frozen? ⟨W.heap.size, i, none⟩ = false := fun i => S.frozen_of W1 W.heap.size i _ 30 v1
 have HV := hid v1
 clear v1
 go_enter Tryz.func62, Tryz.ntmps62
 go_wp2
 go_ret
 refine ⟨rfl, ?_⟩
 first | exact HB.out | exact (Below.refl _ _).alloc (Nat.le_refl _) _ | exact HB.out.setCell (Nat.le_refl _) _ | exact (HB.out.setCell (p := ⟨W.heap.size, _, none⟩) (Nat.le_refl _) _).setCell (p := ⟨W.heap.size, _, none⟩) (Nat.le_refl _) _ | exact ((HB.out.setCell (p := ⟨W.heap.size, _, none⟩) (Nat.le_refl _) _).setCell (p := ⟨W.heap.size, _, none⟩) (Nat.le_refl _) _).setCell (p := ⟨W.heap.size, _, none⟩) (Nat.le_refl _) _
theorem ho_4t_3 (op v p1 p2 : Int) (nm : ByteArray) (n1 n2 d1 d2 : Nat) (q1 q2 : Option Addr) (has : Bool) (W : World) (h_op : (op == 0) = true) (h_v : (v == 0) = true) (h_nm : nm.toList.isEmpty = true) :
  Calls Tryz.prog 62 #[.agg #[.int .i64 4, .int .i64 op, .int .u16 v, .string nm, .slice q1 n1 d1, .slice q2 n2 d2, .bool true, .int .i64 p1, .int .i64 p2]] W fun e w' => e = .returned (.bool true) /\ Below W.heap.size W w' := by
 have g_op : op = 0 := by simpa using h_op
 have g_v : v = 0 := by simpa using h_v
 have g_nm : nm.toList = [] := by simpa using h_nm
 obtain ⟨W1, hW1⟩ : ∃ W1, W.alloc (.cells #[.int .i64 4, .int .i64 op, .int .u16 v, .string nm, .slice q1 n1 d1, .slice q2 n2 d2, .bool true, .int .i64 p1, .int .i64 p2] 30) = W1 := ⟨_, rfl⟩
 have v1 : W1.heap[W.heap.size]? = some (.cells [.int .i64 4, .int .i64 op, .int .u16 v, .string nm, .slice q1 n1 d1, .slice q2 n2 d2, .bool true, .int .i64 p1, .int .i64 p2].toArray 30 (0, 0)) := by rw [<- hW1]; exact heap_alloc_new W _
 have HB := hid (show Below W.heap.size W W1 by rw [<- hW1]; exact (Below.refl _ _).alloc (Nat.le_refl _) _)
 have x0 := S.cell_of W1 _ 0 _ 30 _ v1 rfl
 have x1 := S.cell_of W1 _ 1 _ 30 _ v1 rfl
 have x2 := S.cell_of W1 _ 2 _ 30 _ v1 rfl
 have x3 := S.cell_of W1 _ 3 _ 30 _ v1 rfl
 have x4 := S.cell_of W1 _ 4 _ 30 _ v1 rfl
 have x5 := S.cell_of W1 _ 5 _ 30 _ v1 rfl
 have x6 := S.cell_of W1 _ 6 _ 30 _ v1 rfl
 have f1 : ∀ i, W1.frozen? ⟨W.heap.size, i, none⟩ = false := fun i => S.frozen_of W1 W.heap.size i _ 30 v1
 have HV := hid v1
 clear v1
 go_enter Tryz.func62, Tryz.ntmps62
 go_wp2
 go_ret
 refine ⟨rfl, ?_⟩
 first | exact HB.out | exact (Below.refl _ _).alloc (Nat.le_refl _) _ | exact HB.out.setCell (Nat.le_refl _) _ | exact (HB.out.setCell (p := ⟨W.heap.size, _, none⟩) (Nat.le_refl _) _).setCell (p := ⟨W.heap.size, _, none⟩) (Nat.le_refl _) _ | exact ((HB.out.setCell (p := ⟨W.heap.size, _, none⟩) (Nat.le_refl _) _).setCell (p := ⟨W.heap.size, _, none⟩) (Nat.le_refl _) _).setCell (p := ⟨W.heap.size, _, none⟩) (Nat.le_refl _) _
theorem ho_5_0 (op v p1 p2 : Int) (nm : ByteArray) (n1 n2 d1 d2 : Nat) (q1 q2 : Option Addr) (has : Bool) (W : World) (h_op : (op == 0) = false) :
  Calls Tryz.prog 62 #[.agg #[.int .i64 5, .int .i64 op, .int .u16 v, .string nm, .slice q1 n1 d1, .slice q2 n2 d2, .bool has, .int .i64 p1, .int .i64 p2]] W fun e w' => e = .returned (.bool false) /\ Below W.heap.size W w' := by
 have g_op : ¬ op = 0 := by simpa using h_op
 obtain ⟨W1, hW1⟩ : ∃ W1, W.alloc (.cells #[.int .i64 5, .int .i64 op, .int .u16 v, .string nm, .slice q1 n1 d1, .slice q2 n2 d2, .bool has, .int .i64 p1, .int .i64 p2] 30) = W1 := ⟨_, rfl⟩
 have v1 : W1.heap[W.heap.size]? = some (.cells [.int .i64 5, .int .i64 op, .int .u16 v, .string nm, .slice q1 n1 d1, .slice q2 n2 d2, .bool has, .int .i64 p1, .int .i64 p2].toArray 30 (0, 0)) := by rw [<- hW1]; exact heap_alloc_new W _
 have HB := hid (show Below W.heap.size W W1 by rw [<- hW1]; exact (Below.refl _ _).alloc (Nat.le_refl _) _)
 have x0 := S.cell_of W1 _ 0 _ 30 _ v1 rfl
 have x1 := S.cell_of W1 _ 1 _ 30 _ v1 rfl
 have x2 := S.cell_of W1 _ 2 _ 30 _ v1 rfl
 have x3 := S.cell_of W1 _ 3 _ 30 _ v1 rfl
 have x4 := S.cell_of W1 _ 4 _ 30 _ v1 rfl
 have x5 := S.cell_of W1 _ 5 _ 30 _ v1 rfl
 have x6 := S.cell_of W1 _ 6 _ 30 _ v1 rfl
 have f1 : ∀ i, W1.frozen? ⟨W.heap.size, i, none⟩ = false := fun i => S.frozen_of W1 W.heap.size i _ 30 v1
 have HV := hid v1
 clear v1
 go_enter Tryz.func62, Tryz.ntmps62
 go_wp2
 go_ret
 refine ⟨rfl, ?_⟩
 first | exact HB.out | exact (Below.refl _ _).alloc (Nat.le_refl _) _ | exact HB.out.setCell (Nat.le_refl _) _ | exact (HB.out.setCell (p := ⟨W.heap.size, _, none⟩) (Nat.le_refl _) _).setCell (p := ⟨W.heap.size, _, none⟩) (Nat.le_refl _) _ | exact ((HB.out.setCell (p := ⟨W.heap.size, _, none⟩) (Nat.le_refl _) _).setCell (p := ⟨W.heap.size, _, none⟩) (Nat.le_refl _) _).setCell (p := ⟨W.heap.size, _, none⟩) (Nat.le_refl _) _
theorem ho_5_1 (op v p1 p2 : Int) (nm : ByteArray) (n1 n2 d1 d2 : Nat) (q1 q2 : Option Addr) (has : Bool) (W : World) (h_op : (op == 0) = true) (h_v : (v == 0) = false) :
  Calls Tryz.prog 62 #[.agg #[.int .i64 5, .int .i64 op, .int .u16 v, .string nm, .slice q1 n1 d1, .slice q2 n2 d2, .bool has, .int .i64 p1, .int .i64 p2]] W fun e w' => e = .returned (.bool false) /\ Below W.heap.size W w' := by
 have g_op : op = 0 := by simpa using h_op
 have g_v : ¬ v = 0 := by simpa using h_v
 obtain ⟨W1, hW1⟩ : ∃ W1, W.alloc (.cells #[.int .i64 5, .int .i64 op, .int .u16 v, .string nm, .slice q1 n1 d1, .slice q2 n2 d2, .bool has, .int .i64 p1, .int .i64 p2] 30) = W1 := ⟨_, rfl⟩
 have v1 : W1.heap[W.heap.size]? = some (.cells [.int .i64 5, .int .i64 op, .int .u16 v, .string nm, .slice q1 n1 d1, .slice q2 n2 d2, .bool has, .int .i64 p1, .int .i64 p2].toArray 30 (0, 0)) := by rw [<- hW1]; exact heap_alloc_new W _
 have HB := hid (show Below W.heap.size W W1 by rw [<- hW1]; exact (Below.refl _ _).alloc (Nat.le_refl _) _)
 have x0 := S.cell_of W1 _ 0 _ 30 _ v1 rfl
 have x1 := S.cell_of W1 _ 1 _ 30 _ v1 rfl
 have x2 := S.cell_of W1 _ 2 _ 30 _ v1 rfl
 have x3 := S.cell_of W1 _ 3 _ 30 _ v1 rfl
 have x4 := S.cell_of W1 _ 4 _ 30 _ v1 rfl
 have x5 := S.cell_of W1 _ 5 _ 30 _ v1 rfl
 have x6 := S.cell_of W1 _ 6 _ 30 _ v1 rfl
 have f1 : ∀ i, W1.frozen? ⟨W.heap.size, i, none⟩ = false := fun i => S.frozen_of W1 W.heap.size i _ 30 v1
 have HV := hid v1
 clear v1
 go_enter Tryz.func62, Tryz.ntmps62
 go_wp2
 go_ret
 refine ⟨rfl, ?_⟩
 first | exact HB.out | exact (Below.refl _ _).alloc (Nat.le_refl _) _ | exact HB.out.setCell (Nat.le_refl _) _ | exact (HB.out.setCell (p := ⟨W.heap.size, _, none⟩) (Nat.le_refl _) _).setCell (p := ⟨W.heap.size, _, none⟩) (Nat.le_refl _) _ | exact ((HB.out.setCell (p := ⟨W.heap.size, _, none⟩) (Nat.le_refl _) _).setCell (p := ⟨W.heap.size, _, none⟩) (Nat.le_refl _) _).setCell (p := ⟨W.heap.size, _, none⟩) (Nat.le_refl _) _
theorem ho_5_2 (op v p1 p2 : Int) (nm : ByteArray) (n1 n2 d1 d2 : Nat) (q1 q2 : Option Addr) (has : Bool) (W : World) (h_op : (op == 0) = true) (h_v : (v == 0) = true) (h_nm : nm.toList.isEmpty = false) :
  Calls Tryz.prog 62 #[.agg #[.int .i64 5, .int .i64 op, .int .u16 v, .string nm, .slice q1 n1 d1, .slice q2 n2 d2, .bool has, .int .i64 p1, .int .i64 p2]] W fun e w' => e = .returned (.bool false) /\ Below W.heap.size W w' := by
 have g_op : op = 0 := by simpa using h_op
 have g_v : v = 0 := by simpa using h_v
 have g_nm : ¬ nm.toList = [] := by simpa using h_nm
 obtain ⟨W1, hW1⟩ : ∃ W1, W.alloc (.cells #[.int .i64 5, .int .i64 op, .int .u16 v, .string nm, .slice q1 n1 d1, .slice q2 n2 d2, .bool has, .int .i64 p1, .int .i64 p2] 30) = W1 := ⟨_, rfl⟩
 have v1 : W1.heap[W.heap.size]? = some (.cells [.int .i64 5, .int .i64 op, .int .u16 v, .string nm, .slice q1 n1 d1, .slice q2 n2 d2, .bool has, .int .i64 p1, .int .i64 p2].toArray 30 (0, 0)) := by rw [<- hW1]; exact heap_alloc_new W _
 have HB := hid (show Below W.heap.size W W1 by rw [<- hW1]; exact (Below.refl _ _).alloc (Nat.le_refl _) _)
 have x0 := S.cell_of W1 _ 0 _ 30 _ v1 rfl
 have x1 := S.cell_of W1 _ 1 _ 30 _ v1 rfl
 have x2 := S.cell_of W1 _ 2 _ 30 _ v1 rfl
 have x3 := S.cell_of W1 _ 3 _ 30 _ v1 rfl
 have x4 := S.cell_of W1 _ 4 _ 30 _ v1 rfl
 have x5 := S.cell_of W1 _ 5 _ 30 _ v1 rfl
 have x6 := S.cell_of W1 _ 6 _ 30 _ v1 rfl
 have f1 : ∀ i, W1.frozen? ⟨W.heap.size, i, none⟩ = false := fun i => S.frozen_of W1 W.heap.size i _ 30 v1
 have HV := hid v1
 clear v1
 go_enter Tryz.func62, Tryz.ntmps62
 go_wp2
 go_ret
 refine ⟨rfl, ?_⟩
 first | exact HB.out | exact (Below.refl _ _).alloc (Nat.le_refl _) _ | exact HB.out.setCell (Nat.le_refl _) _ | exact (HB.out.setCell (p := ⟨W.heap.size, _, none⟩) (Nat.le_refl _) _).setCell (p := ⟨W.heap.size, _, none⟩) (Nat.le_refl _) _ | exact ((HB.out.setCell (p := ⟨W.heap.size, _, none⟩) (Nat.le_refl _) _).setCell (p := ⟨W.heap.size, _, none⟩) (Nat.le_refl _) _).setCell (p := ⟨W.heap.size, _, none⟩) (Nat.le_refl _) _
theorem ho_5_3 (op v p1 p2 : Int) (nm : ByteArray) (n1 n2 d1 d2 : Nat) (q1 q2 : Option Addr) (has : Bool) (W : World) (h_op : (op == 0) = true) (h_v : (v == 0) = true) (h_nm : nm.toList.isEmpty = true) :
  Calls Tryz.prog 62 #[.agg #[.int .i64 5, .int .i64 op, .int .u16 v, .string nm, .slice q1 n1 d1, .slice q2 n2 d2, .bool true, .int .i64 p1, .int .i64 p2]] W fun e w' => e = .returned (.bool false) /\ Below W.heap.size W w' := by
 have g_op : op = 0 := by simpa using h_op
 have g_v : v = 0 := by simpa using h_v
 have g_nm : nm.toList = [] := by simpa using h_nm
 obtain ⟨W1, hW1⟩ : ∃ W1, W.alloc (.cells #[.int .i64 5, .int .i64 op, .int .u16 v, .string nm, .slice q1 n1 d1, .slice q2 n2 d2, .bool true, .int .i64 p1, .int .i64 p2] 30) = W1 := ⟨_, rfl⟩
 have v1 : W1.heap[W.heap.size]? = some (.cells [.int .i64 5, .int .i64 op, .int .u16 v, .string nm, .slice q1 n1 d1, .slice q2 n2 d2, .bool true, .int .i64 p1, .int .i64 p2].toArray 30 (0, 0)) := by rw [<- hW1]; exact heap_alloc_new W _
 have HB := hid (show Below W.heap.size W W1 by rw [<- hW1]; exact (Below.refl _ _).alloc (Nat.le_refl _) _)
 have x0 := S.cell_of W1 _ 0 _ 30 _ v1 rfl
 have x1 := S.cell_of W1 _ 1 _ 30 _ v1 rfl
 have x2 := S.cell_of W1 _ 2 _ 30 _ v1 rfl
 have x3 := S.cell_of W1 _ 3 _ 30 _ v1 rfl
 have x4 := S.cell_of W1 _ 4 _ 30 _ v1 rfl
 have x5 := S.cell_of W1 _ 5 _ 30 _ v1 rfl
 have x6 := S.cell_of W1 _ 6 _ 30 _ v1 rfl
 have f1 : ∀ i, W1.frozen? ⟨W.heap.size, i, none⟩ = false := fun i => S.frozen_of W1 W.heap.size i _ 30 v1
 have HV := hid v1
 clear v1
 go_enter Tryz.func62, Tryz.ntmps62
 go_wp2
 go_ret
 refine ⟨rfl, ?_⟩
 first | exact HB.out | exact (Below.refl _ _).alloc (Nat.le_refl _) _ | exact HB.out.setCell (Nat.le_refl _) _ | exact (HB.out.setCell (p := ⟨W.heap.size, _, none⟩) (Nat.le_refl _) _).setCell (p := ⟨W.heap.size, _, none⟩) (Nat.le_refl _) _ | exact ((HB.out.setCell (p := ⟨W.heap.size, _, none⟩) (Nat.le_refl _) _).setCell (p := ⟨W.heap.size, _, none⟩) (Nat.le_refl _) _).setCell (p := ⟨W.heap.size, _, none⟩) (Nat.le_refl _) _
theorem ho_5_4 (op v p1 p2 : Int) (nm : ByteArray) (n1 n2 d1 d2 : Nat) (q1 q2 : Option Addr) (has : Bool) (W : World) (h_op : (op == 0) = true) (h_v : (v == 0) = true) (h_nm : nm.toList.isEmpty = true) (h_el : (((n2 + 1 : Nat) : Int) == 0) = false) :
  Calls Tryz.prog 62 #[.agg #[.int .i64 5, .int .i64 op, .int .u16 v, .string nm, .slice q1 n1 d1, .slice q2 (n2 + 1) d2, .bool false, .int .i64 p1, .int .i64 p2]] W fun e w' => e = .returned (.bool false) /\ Below W.heap.size W w' := by
 have g_op : op = 0 := by simpa using h_op
 have g_v : v = 0 := by simpa using h_v
 have g_nm : nm.toList = [] := by simpa using h_nm
 obtain ⟨W1, hW1⟩ : ∃ W1, W.alloc (.cells #[.int .i64 5, .int .i64 op, .int .u16 v, .string nm, .slice q1 n1 d1, .slice q2 (n2 + 1) d2, .bool false, .int .i64 p1, .int .i64 p2] 30) = W1 := ⟨_, rfl⟩
 have v1 : W1.heap[W.heap.size]? = some (.cells [.int .i64 5, .int .i64 op, .int .u16 v, .string nm, .slice q1 n1 d1, .slice q2 (n2 + 1) d2, .bool false, .int .i64 p1, .int .i64 p2].toArray 30 (0, 0)) := by rw [<- hW1]; exact heap_alloc_new W _
 have HB := hid (show Below W.heap.size W W1 by rw [<- hW1]; exact (Below.refl _ _).alloc (Nat.le_refl _) _)
 have x0 := S.cell_of W1 _ 0 _ 30 _ v1 rfl
 have x1 := S.cell_of W1 _ 1 _ 30 _ v1 rfl
 have x2 := S.cell_of W1 _ 2 _ 30 _ v1 rfl
 have x3 := S.cell_of W1 _ 3 _ 30 _ v1 rfl
 have x4 := S.cell_of W1 _ 4 _ 30 _ v1 rfl
 have x5 := S.cell_of W1 _ 5 _ 30 _ v1 rfl
 have x6 := S.cell_of W1 _ 6 _ 30 _ v1 rfl
 have f1 : ∀ i, W1.frozen? ⟨W.heap.size, i, none⟩ = false := fun i => S.frozen_of W1 W.heap.size i _ 30 v1
 have HV := hid v1
 clear v1
 go_enter Tryz.func62, Tryz.ntmps62
 go_wp2
 go_ret
 refine ⟨rfl, ?_⟩
 first | exact HB.out | exact (Below.refl _ _).alloc (Nat.le_refl _) _ | exact HB.out.setCell (Nat.le_refl _) _ | exact (HB.out.setCell (p := ⟨W.heap.size, _, none⟩) (Nat.le_refl _) _).setCell (p := ⟨W.heap.size, _, none⟩) (Nat.le_refl _) _ | exact ((HB.out.setCell (p := ⟨W.heap.size, _, none⟩) (Nat.le_refl _) _).setCell (p := ⟨W.heap.size, _, none⟩) (Nat.le_refl _) _).setCell (p := ⟨W.heap.size, _, none⟩) (Nat.le_refl _) _
theorem ho_5_5 (op v p1 p2 : Int) (nm : ByteArray) (n1 n2 d1 d2 : Nat) (q1 q2 : Option Addr) (has : Bool) (W : World) (h_op : (op == 0) = true) (h_v : (v == 0) = true) (h_nm : nm.toList.isEmpty = true) :
  Calls Tryz.prog 62 #[.agg #[.int .i64 5, .int .i64 op, .int .u16 v, .string nm, .slice q1 n1 d1, .slice q2 0 d2, .bool false, .int .i64 p1, .int .i64 p2]] W fun e w' => e = .returned (.bool true) /\ Below W.heap.size W w' := by
 have g_op : op = 0 := by simpa using h_op
 have g_v : v = 0 := by simpa using h_v
 have g_nm : nm.toList = [] := by simpa using h_nm
 obtain ⟨W1, hW1⟩ : ∃ W1, W.alloc (.cells #[.int .i64 5, .int .i64 op, .int .u16 v, .string nm, .slice q1 n1 d1, .slice q2 0 d2, .bool false, .int .i64 p1, .int .i64 p2] 30) = W1 := ⟨_, rfl⟩
 have v1 : W1.heap[W.heap.size]? = some (.cells [.int .i64 5, .int .i64 op, .int .u16 v, .string nm, .slice q1 n1 d1, .slice q2 0 d2, .bool false, .int .i64 p1, .int .i64 p2].toArray 30 (0, 0)) := by rw [<- hW1]; exact heap_alloc_new W _
 have HB := hid (show Below W.heap.size W W1 by rw [<- hW1]; exact (Below.refl _ _).alloc (Nat.le_refl _) _)
 have x0 := S.cell_of W1 _ 0 _ 30 _ v1 rfl
 have x1 := S.cell_of W1 _ 1 _ 30 _ v1 rfl
 have x2 := S.cell_of W1 _ 2 _ 30 _ v1 rfl
 have x3 := S.cell_of W1 _ 3 _ 30 _ v1 rfl
 have x4 := S.cell_of W1 _ 4 _ 30 _ v1 rfl
 have x5 := S.cell_of W1 _ 5 _ 30 _ v1 rfl
 have x6 := S.cell_of W1 _ 6 _ 30 _ v1 rfl
 have f1 : ∀ i, W1.frozen? ⟨W.heap.size, i, none⟩ = false := fun i => S.frozen_of W1 W.heap.size i _ 30 v1
 have HV := hid v1
 clear v1
 go_enter Tryz.func62, Tryz.ntmps62
 go_wp2
 go_ret
 refine ⟨rfl, ?_⟩
 first | exact HB.out | exact (Below.refl _ _).alloc (Nat.le_refl _) _ | exact HB.out.setCell (Nat.le_refl _) _ | exact (HB.out.setCell (p := ⟨W.heap.size, _, none⟩) (Nat.le_refl _) _).setCell (p := ⟨W.heap.size, _, none⟩) (Nat.le_refl _) _ | exact ((HB.out.setCell (p := ⟨W.heap.size, _, none⟩) (Nat.le_refl _) _).setCell (p := ⟨W.heap.size, _, none⟩) (Nat.le_refl _) _).setCell (p := ⟨W.heap.size, _, none⟩) (Nat.le_refl _) _
theorem ho_6_0 (op v p1 p2 : Int) (nm : ByteArray) (n1 n2 d1 d2 : Nat) (q1 q2 : Option Addr) (has : Bool) (W : World) (h_op : (op == 0) = false) :
  Calls Tryz.prog 62 #[.agg #[.int .i64 6, .int .i64 op, .int .u16 v, .string nm, .slice q1 n1 d1, .slice q2 n2 d2, .bool has, .int .i64 p1, .int .i64 p2]] W fun e w' => e = .returned (.bool false) /\ Below W.heap.size W w' := by
 have g_op : ¬ op = 0 := by simpa using h_op
 obtain ⟨W1, hW1⟩ : ∃ W1, W.alloc (.cells #[.int .i64 6, .int .i64 op, .int .u16 v, .string nm, .slice q1 n1 d1, .slice q2 n2 d2, .bool has, .int .i64 p1, .int .i64 p2] 30) = W1 := ⟨_, rfl⟩
 have v1 : W1.heap[W.heap.size]? = some (.cells [.int .i64 6, .int .i64 op, .int .u16 v, .string nm, .slice q1 n1 d1, .slice q2 n2 d2, .bool has, .int .i64 p1, .int .i64 p2].toArray 30 (0, 0)) := by rw [<- hW1]; exact heap_alloc_new W _
 have HB := hid (show Below W.heap.size W W1 by rw [<- hW1]; exact (Below.refl _ _).alloc (Nat.le_refl _) _)
 have x0 := S.cell_of W1 _ 0 _ 30 _ v1 rfl
 have x1 := S.cell_of W1 _ 1 _ 30 _ v1 rfl
 have x2 := S.cell_of W1 _ 2 _ 30 _ v1 rfl
 have x3 := S.cell_of W1 _ 3 _ 30 _ v1 rfl
 have x4 := S.cell_of W1 _ 4 _ 30 _ v1 rfl
 have x5 := S.cell_of W1 _ 5 _ 30 _ v1 rfl
 have x6 := S.cell_of W1 _ 6 _ 30 _ v1 rfl
 have f1 : ∀ i, W1.frozen? ⟨W.heap.size, i, none⟩ = false := fun i => S.frozen_of W1 W.heap.size i _ 30 v1
 have HV := hid v1
 clear v1
 go_enter Tryz.func62, Tryz.ntmps62
 go_wp2
 go_ret
 refine ⟨rfl, ?_⟩
 first | exact HB.out | exact (Below.refl _ _).alloc (Nat.le_refl _) _ | exact HB.out.setCell (Nat.le_refl _) _ | exact (HB.out.setCell (p := ⟨W.heap.size, _, none⟩) (Nat.le_refl _) _).setCell (p := ⟨W.heap.size, _, none⟩) (Nat.le_refl _) _ | exact ((HB.out.setCell (p := ⟨W.heap.size, _, none⟩) (Nat.le_refl _) _).setCell (p := ⟨W.heap.size, _, none⟩) (Nat.le_refl _) _).setCell (p := ⟨W.heap.size, _, none⟩) (Nat.le_refl _) _
theorem ho_6_1 (op v p1 p2 : Int) (nm : ByteArray) (n1 n2 d1 d2 : Nat) (q1 q2 : Option Addr) (has : Bool) (W : World) (h_op : (op == 0) = true) (h_v : (v == 0) = false) :
  Calls Tryz.prog 62 #[.agg #[.int .i64 6, .int .i64 op, .int .u16 v, .string nm, .slice q1 n1 d1, .slice q2 n2 d2, .bool has, .int .i64 p1, .int .i64 p2]] W fun e w' => e = .returned (.bool false) /\ Below W.heap.size W w' := by
 have g_op : op = 0 := by simpa using h_op
 have g_v : ¬ v = 0 := by simpa using h_v
 obtain ⟨W1, hW1⟩ : ∃ W1, W.alloc (.cells #[.int .i64 6, .int .i64 op, .int .u16 v, .string nm, .slice q1 n1 d1, .slice q2 n2 d2, .bool has, .int .i64 p1, .int .i64 p2] 30) = W1 := ⟨_, rfl⟩
 have v1 : W1.heap[W.heap.size]? = some (.cells [.int .i64 6, .int .i64 op, .int .u16 v, .string nm, .slice q1 n1 d1, .slice q2 n2 d2, .bool has, .int .i64 p1, .int .i64 p2].toArray 30 (0, 0)) := by rw [<- hW1]; exact heap_alloc_new W _
 have HB := hid (show Below W.heap.size W W1 by rw [<- hW1]; exact (Below.refl _ _).alloc (Nat.le_refl _) _)
 have x0 := S.cell_of W1 _ 0 _ 30 _ v1 rfl
 have x1 := S.cell_of W1 _ 1 _ 30 _ v1 rfl
 have x2 := S.cell_of W1 _ 2 _ 30 _ v1 rfl
 have x3 := S.cell_of W1 _ 3 _ 30 _ v1 rfl
 have x4 := S.cell_of W1 _ 4 _ 30 _ v1 rfl
 have x5 := S.cell_of W1 _ 5 _ 30 _ v1 rfl
 have x6 := S.cell_of W1 _ 6 _ 30 _ v1 rfl
 have f1 : ∀ i, W1.frozen? ⟨W.heap.size, i, none⟩ = false := fun i => S.frozen_of W1 W.heap.size i _ 30 v1
 have HV := hid v1
 clear v1
 go_enter Tryz.func62, Tryz.ntmps62
 go_wp2
 go_ret
 refine ⟨rfl, ?_⟩
 first | exact HB.out | exact (Below.refl _ _).alloc (Nat.le_refl _) _ | exact HB.out.setCell (Nat.le_refl _) _ | exact (HB.out.setCell (p := ⟨W.heap.size, _, none⟩) (Nat.le_refl _) _).setCell (p := ⟨W.heap.size, _, none⟩) (Nat.le_refl _) _ | exact ((HB.out.setCell (p := ⟨W.heap.size, _, none⟩) (Nat.le_refl _) _).setCell (p := ⟨W.heap.size, _, none⟩) (Nat.le_refl _) _).setCell (p := ⟨W.heap.size, _, none⟩) (Nat.le_refl _) _
theorem ho_6_2 (op v p1 p2 : Int) (nm : ByteArray) (n1 n2 d1 d2 : Nat) (q1 q2 : Option Addr) (has : Bool) (W : World) (h_op : (op == 0) = true) (h_v : (v == 0) = true) (h_nm : nm.toList.isEmpty = false) :
  Calls Tryz.prog 62 #[.agg #[.int .i64 6, .int .i64 op, .int .u16 v, .string nm, .slice q1 n1 d1, .slice q2 n2 d2, .bool has, .int .i64 p1, .int .i64 p2]] W fun e w' => e = .returned (.bool false) /\ Below W.heap.size W w' := by
 have g_op : op = 0 := by simpa using h_op
 have g_v : v = 0 := by simpa using h_v
 have g_nm : ¬ nm.toList = [] := by simpa using h_nm
 obtain ⟨W1, hW1⟩ : ∃ W1, W.alloc (.cells #[.int .i64 6, .int .i64 op, .int .u16 v, .string nm, .slice q1 n1 d1, .slice q2 n2 d2, .bool has, .int .i64 p1, .int .i64 p2] 30) = W1 := ⟨_, rfl⟩
 have v1 : W1.heap[W.heap.size]? = some (.cells [.int .i64 6, .int .i64 op, .int .u16 v, .string nm, .slice q1 n1 d1, .slice q2 n2 d2, .bool has, .int .i64 p1, .int .i64 p2].toArray 30 (0, 0)) := by rw [<- hW1]; exact heap_alloc_new W _
 have HB := hid (show Below W.heap.size W W1 by rw [<- hW1]; exact (Below.refl _ _).alloc (Nat.le_refl _) _)
 have x0 := S.cell_of W1 _ 0 _ 30 _ v1 rfl
 have x1 := S.cell_of W1 _ 1 _ 30 _ v1 rfl
 have x2 := S.cell_of W1 _ 2 _ 30 _ v1 rfl
 have x3 := S.cell_of W1 _ 3 _ 30 _ v1 rfl
 have x4 := S.cell_of W1 _ 4 _ 30 _ v1 rfl
 have x5 := S.cell_of W1 _ 5 _ 30 _ v1 rfl
 have x6 := S.cell_of W1 _ 6 _ 30 _ v1 rfl
 have f1 : ∀ i, W1.frozen? ⟨W.heap.size, i, none⟩ = false := fun i => S.frozen_of W1 W.heap.size i _ 30 v1
 have HV := hid v1
 clear v1
 go_enter Tryz.func62, Tryz.ntmps62
 go_wp2
 go_ret
 refine ⟨rfl, ?_⟩
 first | exact HB.out | exact (Below.refl _ _).alloc (Nat.le_refl _) _ | exact HB.out.setCell (Nat.le_refl _) _ | exact (HB.out.setCell (p := ⟨W.heap.size, _, none⟩) (Nat.le_refl _) _).setCell (p := ⟨W.heap.size, _, none⟩) (Nat.le_refl _) _ | exact ((HB.out.setCell (p := ⟨W.heap.size, _, none⟩) (Nat.le_refl _) _).setCell (p := ⟨W.heap.size, _, none⟩) (Nat.le_refl _) _).setCell (p := ⟨W.heap.size, _, none⟩) (Nat.le_refl _) _
theorem ho_6_3 (op v p1 p2 : Int) (nm : ByteArray) (n1 n2 d1 d2 : Nat) (q1 q2 : Option Addr) (has : Bool) (W : World) (h_op : (op == 0) = true) (h_v : (v == 0) = true) (h_nm : nm.toList.isEmpty = true) :
  Calls Tryz.prog 62 #[.agg #[.int .i64 6, .int .i64 op, .int .u16 v, .string nm, .slice q1 n1 d1, .slice q2 n2 d2, .bool true, .int .i64 p1, .int .i64 p2]] W fun e w' => e = .returned (.bool false) /\ Below W.heap.size W w' := by
 have g_op : op = 0 := by simpa using h_op
 have g_v : v = 0 := by simpa using h_v
 have g_nm : nm.toList = [] := by simpa using h_nm
 obtain ⟨W1, hW1⟩ : ∃ W1, W.alloc (.cells #[.int .i64 6, .int .i64 op, .int .u16 v, .string nm, .slice q1 n1 d1, .slice q2 n2 d2, .bool true, .int .i64 p1, .int .i64 p2] 30) = W1 := ⟨_, rfl⟩
 have v1 : W1.heap[W.heap.size]? = some (.cells [.int .i64 6, .int .i64 op, .int .u16 v, .string nm, .slice q1 n1 d1, .slice q2 n2 d2, .bool true, .int .i64 p1, .int .i64 p2].toArray 30 (0, 0)) := by rw [<- hW1]; exact heap_alloc_new W _
 have HB := hid (show Below W.heap.size W W1 by rw [<- hW1]; exact (Below.refl _ _).alloc (Nat.le_refl _) _)
 have x0 := S.cell_of W1 _ 0 _ 30 _ v1 rfl
 have x1 := S.cell_of W1 _ 1 _ 30 _ v1 rfl
 have x2 := S.cell_of W1 _ 2 _ 30 _ v1 rfl
 have x3 := S.cell_of W1 _ 3 _ 30 _ v1 rfl
 have x4 := S.cell_of W1 _ 4 _ 30 _ v1 rfl
 have x5 := S.cell_of W1 _ 5 _ 30 _ v1 rfl
 have x6 := S.cell_of W1 _ 6 _ 30 _ v1 rfl
 have f1 : ∀ i, W1.frozen? ⟨W.heap.size, i, none⟩ = false := fun i => S.frozen_of W1 W.heap.size i _ 30 v1
 have HV := hid v1
 clear v1
 go_enter Tryz.func62, Tryz.ntmps62
 go_wp2
 go_ret
 refine ⟨rfl, ?_⟩
 first | exact HB.out | exact (Below.refl _ _).alloc (Nat.le_refl _) _ | exact HB.out.setCell (Nat.le_refl _) _ | exact (HB.out.setCell (p := ⟨W.heap.size, _, none⟩) (Nat.le_refl _) _).setCell (p := ⟨W.heap.size, _, none⟩) (Nat.le_refl _) _ | exact ((HB.out.setCell (p := ⟨W.heap.size, _, none⟩) (Nat.le_refl _) _).setCell (p := ⟨W.heap.size, _, none⟩) (Nat.le_refl _) _).setCell (p := ⟨W.heap.size, _, none⟩) (Nat.le_refl _) _
theorem ho_6_4 (op v p1 p2 : Int) (nm : ByteArray) (n1 n2 d1 d2 : Nat) (q1 q2 : Option Addr) (has : Bool) (W : World) (h_op : (op == 0) = true) (h_v : (v == 0) = true) (h_nm : nm.toList.isEmpty = true) :
  Calls Tryz.prog 62 #[.agg #[.int .i64 6, .int .i64 op, .int .u16 v, .string nm, .slice q1 n1 d1, .slice q2 n2 d2, .bool false, .int .i64 p1, .int .i64 p2]] W fun e w' => e = .returned (.bool true) /\ Below W.heap.size W w' := by
 have g_op : op = 0 := by simpa using h_op
 have g_v : v = 0 := by simpa using h_v
 have g_nm : nm.toList = [] := by simpa using h_nm
 obtain ⟨W1, hW1⟩ : ∃ W1, W.alloc (.cells #[.int .i64 6, .int .i64 op, .int .u16 v, .string nm, .slice q1 n1 d1, .slice q2 n2 d2, .bool false, .int .i64 p1, .int .i64 p2] 30) = W1 := ⟨_, rfl⟩
 have v1 : W1.heap[W.heap.size]? = some (.cells [.int .i64 6, .int .i64 op, .int .u16 v, .string nm, .slice q1 n1 d1, .slice q2 n2 d2, .bool false, .int .i64 p1, .int .i64 p2].toArray 30 (0, 0)) := by rw [<- hW1]; exact heap_alloc_new W _
 have HB := hid (show Below W.heap.size W W1 by rw [<- hW1]; exact (Below.refl _ _).alloc (Nat.le_refl _) _)
 have x0 := S.cell_of W1 _ 0 _ 30 _ v1 rfl
 have x1 := S.cell_of W1 _ 1 _ 30 _ v1 rfl
 have x2 := S.cell_of W1 _ 2 _ 30 _ v1 rfl
 have x3 := S.cell_of W1 _ 3 _ 30 _ v1 rfl
 have x4 := S.cell_of W1 _ 4 _ 30 _ v1 rfl
 have x5 := S.cell_of W1 _ 5 _ 30 _ v1 rfl
 have x6 := S.cell_of W1 _ 6 _ 30 _ v1 rfl
 have f1 : ∀ i, W1.frozen? ⟨W.heap.size, i, none⟩ = false := fun i => S.frozen_of W1 W.heap.size i _ 30 v1
 have HV := hid v1
 clear v1
 go_enter Tryz.func62, Tryz.ntmps62
 go_wp2
 go_ret
 refine ⟨rfl, ?_⟩
 first | exact HB.out | exact (Below.refl _ _).alloc (Nat.le_refl _) _ | exact HB.out.setCell (Nat.le_refl _) _ | exact (HB.out.setCell (p := ⟨W.heap.size, _, none⟩) (Nat.le_refl _) _).setCell (p := ⟨W.heap.size, _, none⟩) (Nat.le_refl _) _ | exact ((HB.out.setCell (p := ⟨W.heap.size, _, none⟩) (Nat.le_refl _) _).setCell (p := ⟨W.heap.size, _, none⟩) (Nat.le_refl _) _).setCell (p := ⟨W.heap.size, _, none⟩) (Nat.le_refl _) _
theorem ho_7_0 (op v p1 p2 : Int) (nm : ByteArray) (n1 n2 d1 d2 : Nat) (q1 q2 : Option Addr) (has : Bool) (W : World) (h_op : (op == 0) = false) :
  Calls Tryz.prog 62 #[.agg #[.int .i64 7, .int .i64 op, .int .u16 v, .string nm, .slice q1 n1 d1, .slice q2 n2 d2, .bool has, .int .i64 p1, .int .i64 p2]] W fun e w' => e = .returned (.bool false) /\ Below W.heap.size W w' := by
 have g_op : ¬ op = 0 := by simpa using h_op
 obtain ⟨W1, hW1⟩ : ∃ W1, W.alloc (.cells #[.int .i64 7, .int .i64 op, .int .u16 v, .string nm, .slice q1 n1 d1, .slice q2 n2 d2, .bool has, .int .i64 p1, .int .i64 p2] 30) = W1 := ⟨_, rfl⟩
 have v1 : W1.heap[W.heap.size]? = some (.cells [.int .i64 7, .int .i64 op, .int .u16 v, .string nm, .slice q1 n1 d1, .slice q2 n2 d2, .bool has, .int .i64 p1, .int .i64 p2].toArray 30 (0, 0)) := by rw [<- hW1]; exact heap_alloc_new W _
 have HB := hid (show Below W.heap.size W W1 by rw [<- hW1]; exact (Below.refl _ _).alloc (Nat.le_refl _) _)
 have x0 := S.cell_of W1 _ 0 _ 30 _ v1 rfl
 have x1 := S.cell_of W1 _ 1 _ 30 _ v1 rfl
 have x2 := S.cell_of W1 _ 2 _ 30 _ v1 rfl
 have x3 := S.cell_of W1 _ 3 _ 30 _ v1 rfl
 have x4 := S.cell_of W1 _ 4 _ 30 _ v1 rfl
 have x5 := S.cell_of W1 _ 5 _ 30 _ v1 rfl
 have x6 := S.cell_of W1 _ 6 _ 30 _ v1 rfl
 have f1 : ∀ i, W1.frozen? ⟨W.heap.size, i, none⟩ = false := fun i => S.frozen_of W1 W.heap.size i _ 30 v1
 have HV := hid v1
 clear v1
 go_enter Tryz.func62, Tryz.ntmps62
 go_wp2
 go_ret
 refine ⟨rfl, ?_⟩
 first | exact HB.out | exact (Below.refl _ _).alloc (Nat.le_refl _) _ | exact HB.out.setCell (Nat.le_refl _) _ | exact (HB.out.setCell (p := ⟨W.heap.size, _, none⟩) (Nat.le_refl _) _).setCell (p := ⟨W.heap.size, _, none⟩) (Nat.le_refl _) _ | exact ((HB.out.setCell (p := ⟨W.heap.size, _, none⟩) (Nat.le_refl _) _).setCell (p := ⟨W.heap.size, _, none⟩) (Nat.le_refl _) _).setCell (p := ⟨W.heap.size, _, none⟩) (Nat.le_refl _) _
theorem ho_7_1 (op v p1 p2 : Int) (nm : ByteArray) (n1 n2 d1 d2 : Nat) (q1 q2 : Option Addr) (has : Bool) (W : World) (h_op : (op == 0) = true) (h_v : (v == 0) = false) :
  Calls Tryz.prog 62 #[.agg #[.int .i64 7, .int .i64 op, .int .u16 v, .string nm, .slice q1 n1 d1, .slice q2 n2 d2, .bool has, .int .i64 p1, .int .i64 p2]] W fun e w' => e = .returned (.bool false) /\ Below W.heap.size W w' := by
 have g_op : op = 0 := by simpa using h_op
 have g_v : ¬ v = 0 := by simpa using h_v
 obtain ⟨W1, hW1⟩ : ∃ W1, W.alloc (.cells #[.int .i64 7, .int .i64 op, .int .u16 v, .string nm, .slice q1 n1 d1, .slice q2 n2 d2, .bool has, .int .i64 p1, .int .i64 p2] 30) = W1 := ⟨_, rfl⟩
 have v1 : W1.heap[W.heap.size]? = some (.cells [.int .i64 7, .int .i64 op, .int .u16 v, .string nm, .slice q1 n1 d1, .slice q2 n2 d2, .bool has, .int .i64 p1, .int .i64 p2].toArray 30 (0, 0)) := by rw [<- hW1]; exact heap_alloc_new W _
 have HB := hid (show Below W.heap.size W W1 by rw [<- hW1]; exact (Below.refl _ _).alloc (Nat.le_refl _) _)
 have x0 := S.cell_of W1 _ 0 _ 30 _ v1 rfl
 have x1 := S.cell_of W1 _ 1 _ 30 _ v1 rfl
 have x2 := S.cell_of W1 _ 2 _ 30 _ v1 rfl
 have x3 := S.cell_of W1 _ 3 _ 30 _ v1 rfl
 have x4 := S.cell_of W1 _ 4 _ 30 _ v1 rfl
 have x5 := S.cell_of W1 _ 5 _ 30 _ v1 rfl
 have x6 := S.cell_of W1 _ 6 _ 30 _ v1 rfl
 have f1 : ∀ i, W1.frozen? ⟨W.heap.size, i, none⟩ = false := fun i => S.frozen_of W1 W.heap.size i _ 30 v1
 have HV := hid v1
 clear v1
 go_enter Tryz.func62, Tryz.ntmps62
 go_wp2
 go_ret
 refine ⟨rfl, ?_⟩
 first | exact HB.out | exact (Below.refl _ _).alloc (Nat.le_refl _) _ | exact HB.out.setCell (Nat.le_refl _) _ | exact (HB.out.setCell (p := ⟨W.heap.size, _, none⟩) (Nat.le_refl _) _).setCell (p := ⟨W.heap.size, _, none⟩) (Nat.le_refl _) _ | exact ((HB.out.setCell (p := ⟨W.heap.size, _, none⟩) (Nat.le_refl _) _).setCell (p := ⟨W.heap.size, _, none⟩) (Nat.le_refl _) _).setCell (p := ⟨W.heap.size, _, none⟩) (Nat.le_refl _) _
theorem ho_7_2 (op v p1 p2 : Int) (nm : ByteArray) (n1 n2 d1 d2 : Nat) (q1 q2 : Option Addr) (has : Bool) (W : World) (h_op : (op == 0) = true) (h_v : (v == 0) = true) (h_nm : nm.toList.isEmpty = false) :
  Calls Tryz.prog 62 #[.agg #[.int .i64 7, .int .i64 op, .int .u16 v, .string nm, .slice q1 n1 d1, .slice q2 n2 d2, .bool has, .int .i64 p1, .int .i64 p2]] W fun e w' => e = .returned (.bool false) /\ Below W.heap.size W w' := by
 have g_op : op = 0 := by simpa using h_op
 have g_v : v = 0 := by simpa using h_v
 have g_nm : ¬ nm.toList = [] := by simpa using h_nm
 obtain ⟨W1, hW1⟩ : ∃ W1, W.alloc (.cells #[.int .i64 7, .int .i64 op, .int .u16 v, .string nm, .slice q1 n1 d1, .slice q2 n2 d2, .bool has, .int .i64 p1, .int .i64 p2] 30) = W1 := ⟨_, rfl⟩
 have v1 : W1.heap[W.heap.size]? = some (.cells [.int .i64 7, .int .i64 op, .int .u16 v, .string nm, .slice q1 n1 d1, .slice q2 n2 d2, .bool has, .int .i64 p1, .int .i64 p2].toArray 30 (0, 0)) := by rw [<- hW1]; exact heap_alloc_new W _
 have HB := hid (show Below W.heap.size W W1 by rw [<- hW1]; exact (Below.refl _ _).alloc (Nat.le_refl _) _)
 have x0 := S.cell_of W1 _ 0 _ 30 _ v1 rfl
 have x1 := S.cell_of W1 _ 1 _ 30 _ v1 rfl
 have x2 := S.cell_of W1 _ 2 _ 30 _ v1 rfl
 have x3 := S.cell_of W1 _ 3 _ 30 _ v1 rfl
 have x4 := S.cell_of W1 _ 4 _ 30 _ v1 rfl
 have x5 := S.cell_of W1 _ 5 _ 30 _ v1 rfl
 have x6 := S.cell_of W1 _ 6 _ 30 _ v1 rfl
 have f1 : ∀ i, W1.frozen? ⟨W.heap.size, i, none⟩ = false := fun i => S.frozen_of W1 W.heap.size i _ 30 v1
 have HV := hid v1
 clear v1
 go_enter Tryz.func62, Tryz.ntmps62
 go_wp2
 go_ret
 refine ⟨rfl, ?_⟩
 first | exact HB.out | exact (Below.refl _ _).alloc (Nat.le_refl _) _ | exact HB.out.setCell (Nat.le_refl _) _ | exact (HB.out.setCell (p := ⟨W.heap.size, _, none⟩) (Nat.le_refl _) _).setCell (p := ⟨W.heap.size, _, none⟩) (Nat.le_refl _) _ | exact ((HB.out.setCell (p := ⟨W.heap.size, _, none⟩) (Nat.le_refl _) _).setCell (p := ⟨W.heap.size, _, none⟩) (Nat.le_refl _) _).setCell (p := ⟨W.heap.size, _, none⟩) (Nat.le_refl _) _
theorem ho_7_3 (op v p1 p2 : Int) (nm : ByteArray) (n1 n2 d1 d2 : Nat) (q1 q2 : Option Addr) (has : Bool) (W : World) (h_op : (op == 0) = true) (h_v : (v == 0) = true) (h_nm : nm.toList.isEmpty = true) :
  Calls Tryz.prog 62 #[.agg #[.int .i64 7, .int .i64 op, .int .u16 v, .string nm, .slice q1 n1 d1, .slice q2 n2 d2, .bool true, .int .i64 p1, .int .i64 p2]] W fun e w' => e = .returned (.bool false) /\ Below W.heap.size W w' := by
 have g_op : op = 0 := by simpa using h_op
 have g_v : v = 0 := by simpa using h_v
 have g_nm : nm.toList = [] := by simpa using h_nm
 obtain ⟨W1, hW1⟩ : ∃ W1, W.alloc (.cells #[.int .i64 7, .int .i64 op, .int .u16 v, .string nm, .slice q1 n1 d1, .slice q2 n2 d2, .bool true, .int .i64 p1, .int .i64 p2] 30) = W1 := ⟨_, rfl⟩
 have v1 : W1.heap[W.heap.size]? = some (.cells [.int .i64 7, .int .i64 op, .int .u16 v, .string nm, .slice q1 n1 d1, .slice q2 n2 d2, .bool true, .int .i64 p1, .int .i64 p2].toArray 30 (0, 0)) := by rw [<- hW1]; exact heap_alloc_new W _
 have HB := hid (show Below W.heap.size W W1 by rw [<- hW1]; exact (Below.refl _ _).alloc (Nat.le_refl _) _)
 have x0 := S.cell_of W1 _ 0 _ 30 _ v1 rfl
 have x1 := S.cell_of W1 _ 1 _ 30 _ v1 rfl
 have x2 := S.cell_of W1 _ 2 _ 30 _ v1 rfl
 have x3 := S.cell_of W1 _ 3 _ 30 _ v1 rfl
 have x4 := S.cell_of W1 _ 4 _ 30 _ v1 rfl
 have x5 := S.cell_of W1 _ 5 _ 30 _ v1 rfl
 have x6 := S.cell_of W1 _ 6 _ 30 _ v1 rfl
 have f1 : ∀ i, W1.frozen? ⟨W.heap.size, i, none⟩ = false := fun i => S.frozen_of W1 W.heap.size i _ 30 v1
 have HV := hid v1
 clear v1
 go_enter Tryz.func62, Tryz.ntmps62
 go_wp2
 go_ret
 refine ⟨rfl, ?_⟩
 first | exact HB.out | exact (Below.refl _ _).alloc (Nat.le_refl _) _ | exact HB.out.setCell (Nat.le_refl _) _ | exact (HB.out.setCell (p := ⟨W.heap.size, _, none⟩) (Nat.le_refl _) _).setCell (p := ⟨W.heap.size, _, none⟩) (Nat.le_refl _) _ | exact ((HB.out.setCell (p := ⟨W.heap.size, _, none⟩) (Nat.le_refl _) _).setCell (p := ⟨W.heap.size, _, none⟩) (Nat.le_refl _) _).setCell (p := ⟨W.heap.size, _, none⟩) (Nat.le_refl _) _
theorem ho_7_4 (op v p1 p2 : Int) (nm : ByteArray) (n1 n2 d1 d2 : Nat) (q1 q2 : Option Addr) (has : Bool) (W : World) (h_op : (op == 0) = true) (h_v : (v == 0) = true) (h_nm : nm.toList.isEmpty = true) (h_el : (((n2 + 1 : Nat) : Int) == 0) = false) :
  Calls Tryz.prog 62 #[.agg #[.int .i64 7, .int .i64 op, .int .u16 v, .string nm, .slice q1 n1 d1, .slice q2 (n2 + 1) d2, .bool false, .int .i64 p1, .int .i64 p2]] W fun e w' => e = .returned (.bool false) /\ Below W.heap.size W w' := by
 have g_op : op = 0 := by simpa using h_op
 have g_v : v = 0 := by simpa using h_v
 have g_nm : nm.toList = [] := by simpa using h_nm
 obtain ⟨W1, hW1⟩ : ∃ W1, W.alloc (.cells #[.int .i64 7, .int .i64 op, .int .u16 v, .string nm, .slice q1 n1 d1, .slice q2 (n2 + 1) d2, .bool false, .int .i64 p1, .int .i64 p2] 30) = W1 := ⟨_, rfl⟩
 have v1 : W1.heap[W.heap.size]? = some (.cells [.int .i64 7, .int .i64 op, .int .u16 v, .string nm, .slice q1 n1 d1, .slice q2 (n2 + 1) d2, .bool false, .int .i64 p1, .int .i64 p2].toArray 30 (0, 0)) := by rw [<- hW1]; exact heap_alloc_new W _
 have HB := hid (show Below W.heap.size W W1 by rw [<- hW1]; exact (Below.refl _ _).alloc (Nat.le_refl _) _)
 have x0 := S.cell_of W1 _ 0 _ 30 _ v1 rfl
 have x1 := S.cell_of W1 _ 1 _ 30 _ v1 rfl
 have x2 := S.cell_of W1 _ 2 _ 30 _ v1 rfl
 have x3 := S.cell_of W1 _ 3 _ 30 _ v1 rfl
 have x4 := S.cell_of W1 _ 4 _ 30 _ v1 rfl
 have x5 := S.cell_of W1 _ 5 _ 30 _ v1 rfl
 have x6 := S.cell_of W1 _ 6 _ 30 _ v1 rfl
 have f1 : ∀ i, W1.frozen? ⟨W.heap.size, i, none⟩ = false := fun i => S.frozen_of W1 W.heap.size i _ 30 v1
 have HV := hid v1
 clear v1
 go_enter Tryz.func62, Tryz.ntmps62
 go_wp2
 go_ret
 refine ⟨rfl, ?_⟩
 first | exact HB.out | exact (Below.refl _ _).alloc (Nat.le_refl _) _ | exact HB.out.setCell (Nat.le_refl _) _ | exact (HB.out.setCell (p := ⟨W.heap.size, _, none⟩) (Nat.le_refl _) _).setCell (p := ⟨W.heap.size, _, none⟩) (Nat.le_refl _) _ | exact ((HB.out.setCell (p := ⟨W.heap.size, _, none⟩) (Nat.le_refl _) _).setCell (p := ⟨W.heap.size, _, none⟩) (Nat.le_refl _) _).setCell (p := ⟨W.heap.size, _, none⟩) (Nat.le_refl _) _
theorem ho_7_5 (op v p1 p2 : Int) (nm : ByteArray) (n1 n2 d1 d2 : Nat) (q1 q2 : Option Addr) (has : Bool) (W : World) (h_op : (op == 0) = true) (h_v : (v == 0) = true) (h_nm : nm.toList.isEmpty = true) :
  Calls Tryz.prog 62 #[.agg #[.int .i64 7, .int .i64 op, .int .u16 v, .string nm, .slice q1 n1 d1, .slice q2 0 d2, .bool false, .int .i64 p1, .int .i64 p2]] W fun e w' => e = .returned (.bool true) /\ Below W.heap.size W w' := by
 have g_op : op = 0 := by simpa using h_op
 have g_v : v = 0 := by simpa using h_v
 have g_nm : nm.toList = [] := by simpa using h_nm
 obtain ⟨W1, hW1⟩ : ∃ W1, W.alloc (.cells #[.int .i64 7, .int .i64 op, .int .u16 v, .string nm, .slice q1 n1 d1, .slice q2 0 d2, .bool false, .int .i64 p1, .int .i64 p2] 30) = W1 := ⟨_, rfl⟩
 have v1 : W1.heap[W.heap.size]? = some (.cells [.int .i64 7, .int .i64 op, .int .u16 v, .string nm, .slice q1 n1 d1, .slice q2 0 d2, .bool false, .int .i64 p1, .int .i64 p2].toArray 30 (0, 0)) := by rw [<- hW1]; exact heap_alloc_new W _
 have HB := hid (show Below W.heap.size W W1 by rw [<- hW1]; exact (Below.refl _ _).alloc (Nat.le_refl _) _)
 have x0 := S.cell_of W1 _ 0 _ 30 _ v1 rfl
 have x1 := S.cell_of W1 _ 1 _ 30 _ v1 rfl
 have x2 := S.cell_of W1 _ 2 _ 30 _ v1 rfl
 have x3 := S.cell_of W1 _ 3 _ 30 _ v1 rfl
 have x4 := S.cell_of W1 _ 4 _ 30 _ v1 rfl
 have x5 := S.cell_of W1 _ 5 _ 30 _ v1 rfl
 have x6 := S.cell_of W1 _ 6 _ 30 _ v1 rfl
 have f1 : ∀ i, W1.frozen? ⟨W.heap.size, i, none⟩ = false := fun i => S.frozen_of W1 W.heap.size i _ 30 v1
 have HV := hid v1
 clear v1
 go_enter Tryz.func62, Tryz.ntmps62
 go_wp2
 go_ret
 refine ⟨rfl, ?_⟩
 first | exact HB.out | exact (Below.refl _ _).alloc (Nat.le_refl _) _ | exact HB.out.setCell (Nat.le_refl _) _ | exact (HB.out.setCell (p := ⟨W.heap.size, _, none⟩) (Nat.le_refl _) _).setCell (p := ⟨W.heap.size, _, none⟩) (Nat.le_refl _) _ | exact ((HB.out.setCell (p := ⟨W.heap.size, _, none⟩) (Nat.le_refl _) _).setCell (p := ⟨W.heap.size, _, none⟩) (Nat.le_refl _) _).setCell (p := ⟨W.heap.size, _, none⟩) (Nat.le_refl _) _
theorem ho_8_0 (op v p1 p2 : Int) (nm : ByteArray) (n1 n2 d1 d2 : Nat) (q1 q2 : Option Addr) (has : Bool) (W : World) (h_op : (op == 0) = false) :
  Calls Tryz.prog 62 #[.agg #[.int .i64 8, .int .i64 op, .int .u16 v, .string nm, .slice q1 n1 d1, .slice q2 n2 d2, .bool has, .int .i64 p1, .int .i64 p2]] W fun e w' => e = .returned (.bool false) /\ Below W.heap.size W w' := by
 have g_op : ¬ op = 0 := by simpa using h_op
 obtain ⟨W1, hW1⟩ : ∃ W1, W.alloc (.cells #[.int .i64 8, .int .i64 op, .int .u16 v, .string nm, .slice q1 n1 d1, .slice q2 n2 d2, .bool has, .int .i64 p1, .int .i64 p2] 30) = W1 := ⟨_, rfl⟩
 have v1 : W1.heap[W.heap.size]? = some (.cells [.int .i64 8, .int .i64 op, .int .u16 v, .string nm, .slice q1 n1 d1, .slice q2 n2 d2, .bool has, .int .i64 p1, .int .i64 p2].toArray 30 (0, 0)) := by rw [<- hW1]; exact heap_alloc_new W _
 have HB := hid (show Below W.heap.size W W1 by rw [<- hW1]; exact (Below.refl _ _).alloc (Nat.le_refl _) _)
 have x0 := S.cell_of W1 _ 0 _ 30 _ v1 rfl
 have x1 := S.cell_of W1 _ 1 _ 30 _ v1 rfl
 have x2 := S.cell_of W1 _ 2 _ 30 _ v1 rfl
 have x3 := S.cell_of W1 _ 3 _ 30 _ v1 rfl
 have x4 := S.cell_of W1 _ 4 _ 30 _ v1 rfl
 have x5 := S.cell_of W1 _ 5 _ 30 _ v1 rfl
 have x6 := S.cell_of W1 _ 6 _ 30 _ v1 rfl
 have f1 : ∀ i, W1.frozen? ⟨W.heap.size, i, none⟩ = false := fun i => S.frozen_of W1 W.heap.size i _ 30 v1
 have HV := hid v1
 clear v1
 go_enter Tryz.func62, Tryz.ntmps62
 go_wp2
 go_ret
 refine ⟨rfl, ?_⟩
 first | exact HB.out | exact (Below.refl _ _).alloc (Nat.le_refl _) _ | exact HB.out.setCell (Nat.le_refl _) _ | exact (HB.out.setCell (p := ⟨W.heap.size, _, none⟩) (Nat.le_refl _) _).setCell (p := ⟨W.heap.size, _, none⟩) (Nat.le_refl _) _ | exact ((HB.out.setCell (p := ⟨W.heap.size, _, none⟩) (Nat.le_refl _) _).setCell (p := ⟨W.heap.size, _, none⟩) (Nat.le_refl _) _).setCell (p := ⟨W.heap.size, _, none⟩) (Nat.le_refl _) _
theorem ho_8_1 (op v p1 p2 : Int) (nm : ByteArray) (n1 n2 d1 d2 : Nat) (q1 q2 : Option Addr) (has : Bool) (W : World) (h_op : (op == 0) = true) (h_v : (v == 0) = false) :
  Calls Tryz.prog 62 #[.agg #[.int .i64 8, .int .i64 op, .int .u16 v, .string nm, .slice q1 n1 d1, .slice q2 n2 d2, .bool has, .int .i64 p1, .int .i64 p2]] W fun e w' => e = .returned (.bool false) /\ Below W.heap.size W w' := by
 have g_op : op = 0 := by simpa using h_op
 have g_v : ¬ v = 0 := by simpa using h_v
 obtain ⟨W1, hW1⟩ : ∃ W1, W.alloc (.cells #[.int .i64 8, .int .i64 op, .int .u16 v, .string nm, .slice q1 n1 d1, .slice q2 n2 d2, .bool has, .int .i64 p1, .int .i64 p2] 30) = W1 := ⟨_, rfl⟩
 have v1 : W1.heap[W.heap.size]? = some (.cells [.int .i64 8, .int .i64 op, .int .u16 v, .string nm, .slice q1 n1 d1, .slice q2 n2 d2, .bool has, .int .i64 p1, .int .i64 p2].toArray 30 (0, 0)) := by rw [<- hW1]; exact heap_alloc_new W _
 have HB := hid (show Below W.heap.size W W1 by rw [<- hW1]; exact (Below.refl _ _).alloc (Nat.le_refl _) _)
 have x0 := S.cell_of W1 _ 0 _ 30 _ v1 rfl
 have x1 := S.cell_of W1 _ 1 _ 30 _ v1 rfl
 have x2 := S.cell_of W1 _ 2 _ 30 _ v1 rfl
 have x3 := S.cell_of W1 _ 3 _ 30 _ v1 rfl
 have x4 := S.cell_of W1 _ 4 _ 30 _ v1 rfl
 have x5 := S.cell_of W1 _ 5 _ 30 _ v1 rfl
 have x6 := S.cell_of W1 _ 6 _ 30 _ v1 rfl
 have f1 : ∀ i, W1.frozen? ⟨W.heap.size, i, none⟩ = false := fun i => S.frozen_of W1 W.heap.size i _ 30 v1
 have HV := hid v1
 clear v1
 go_enter Tryz.func62, Tryz.ntmps62
 go_wp2
 go_ret
 refine ⟨rfl, ?_⟩
 first | exact HB.out | exact (Below.refl _ _).alloc (Nat.le_refl _) _ | exact HB.out.setCell (Nat.le_refl _) _ | exact (HB.out.setCell (p := ⟨W.heap.size, _, none⟩) (Nat.le_refl _) _).setCell (p := ⟨W.heap.size, _, none⟩) (Nat.le_refl _) _ | exact ((HB.out.setCell (p := ⟨W.heap.size, _, none⟩) (Nat.le_refl _) _).setCell (p := ⟨W.heap.size, _, none⟩) (Nat.le_refl _) _).setCell (p := ⟨W.heap.size, _, none⟩) (Nat.le_refl _) _
theorem ho_8_2 (op v p1 p2 : Int) (nm : ByteArray) (n1 n2 d1 d2 : Nat) (q1 q2 : Option Addr) (has : Bool) (W : World) (h_op : (op == 0) = true) (h_v : (v == 0) = true) (h_nm : nm.toList.isEmpty = false) :
  Calls Tryz.prog 62 #[.agg #[.int .i64 8, .int .i64 op, .int .u16 v, .string nm, .slice q1 n1 d1, .slice q2 n2 d2, .bool has, .int .i64 p1, .int .i64 p2]] W fun e w' => e = .returned (.bool false) /\ Below W.heap.size W w' := by
 have g_op : op = 0 := by simpa using h_op
 have g_v : v = 0 := by simpa using h_v
 have g_nm : ¬ nm.toList = [] := by simpa using h_nm
 obtain ⟨W1, hW1⟩ : ∃ W1, W.alloc (.cells #[.int .i64 8, .int .i64 op, .int .u16 v, .string nm, .slice q1 n1 d1, .slice q2 n2 d2, .bool has, .int .i64 p1, .int .i64 p2] 30) = W1 := ⟨_, rfl⟩
 have v1 : W1.heap[W.heap.size]? = some (.cells [.int .i64 8, .int .i64 op, .int .u16 v, .string nm, .slice q1 n1 d1, .slice q2 n2 d2, .bool has, .int .i64 p1, .int .i64 p2].toArray 30 (0, 0)) := by rw [<- hW1]; exact heap_alloc_new W _
 have HB := hid (show Below W.heap.size W W1 by rw [<- hW1]; exact (Below.refl _ _).alloc (Nat.le_refl _) _)
 have x0 := S.cell_of W1 _ 0 _ 30 _ v1 rfl
 have x1 := S.cell_of W1 _ 1 _ 30 _ v1 rfl
 have x2 := S.cell_of W1 _ 2 _ 30 _ v1 rfl
 have x3 := S.cell_of W1 _ 3 _ 30 _ v1 rfl
 have x4 := S.cell_of W1 _ 4 _ 30 _ v1 rfl
 have x5 := S.cell_of W1 _ 5 _ 30 _ v1 rfl
 have x6 := S.cell_of W1 _ 6 _ 30 _ v1 rfl
 have f1 : ∀ i, W1.frozen? ⟨W.heap.size, i, none⟩ = false := fun i => S.frozen_of W1 W.heap.size i _ 30 v1
 have HV := hid v1
 clear v1
 go_enter Tryz.func62, Tryz.ntmps62
 go_wp2
 go_ret
 refine ⟨rfl, ?_⟩
 first | exact HB.out | exact (Below.refl _ _).alloc (Nat.le_refl _) _ | exact HB.out.setCell (Nat.le_refl _) _ | exact (HB.out.setCell (p := ⟨W.heap.size, _, none⟩) (Nat.le_refl _) _).setCell (p := ⟨W.heap.size, _, none⟩) (Nat.le_refl _) _ | exact ((HB.out.setCell (p := ⟨W.heap.size, _, none⟩) (Nat.le_refl _) _).setCell (p := ⟨W.heap.size, _, none⟩) (Nat.le_refl _) _).setCell (p := ⟨W.heap.size, _, none⟩) (Nat.le_refl _) _
theorem ho_8_3 (op v p1 p2 : Int) (nm : ByteArray) (n1 n2 d1 d2 : Nat) (q1 q2 : Option Addr) (has : Bool) (W : World) (h_op : (op == 0) = true) (h_v : (v == 0) = true) (h_nm : nm.toList.isEmpty = true) :
  Calls Tryz.prog 62 #[.agg #[.int .i64 8, .int .i64 op, .int .u16 v, .string nm, .slice q1 n1 d1, .slice q2 n2 d2, .bool true, .int .i64 p1, .int .i64 p2]] W fun e w' => e = .returned (.bool false) /\ Below W.heap.size W w' := by
 have g_op : op = 0 := by simpa using h_op
 have g_v : v = 0 := by simpa using h_v
 have g_nm : nm.toList = [] := by simpa using h_nm
 obtain ⟨W1, hW1⟩ : ∃ W1, W.alloc (.cells #[.int .i64 8, .int .i64 op, .int .u16 v, .string nm, .slice q1 n1 d1, .slice q2 n2 d2, .bool true, .int .i64 p1, .int .i64 p2] 30) = W1 := ⟨_, rfl⟩
 have v1 : W1.heap[W.heap.size]? = some (.cells [.int .i64 8, .int .i64 op, .int .u16 v, .string nm, .slice q1 n1 d1, .slice q2 n2 d2, .bool true, .int .i64 p1, .int .i64 p2].toArray 30 (0, 0)) := by rw [<- hW1]; exact heap_alloc_new W _
 have HB := hid (show Below W.heap.size W W1 by rw [<- hW1]; exact (Below.refl _ _).alloc (Nat.le_refl _) _)
 have x0 := S.cell_of W1 _ 0 _ 30 _ v1 rfl
 have x1 := S.cell_of W1 _ 1 _ 30 _ v1 rfl
 have x2 := S.cell_of W1 _ 2 _ 30 _ v1 rfl
 have x3 := S.cell_of W1 _ 3 _ 30 _ v1 rfl
 have x4 := S.cell_of W1 _ 4 _ 30 _ v1 rfl
 have x5 := S.cell_of W1 _ 5 _ 30 _ v1 rfl
 have x6 := S.cell_of W1 _ 6 _ 30 _ v1 rfl
 have f1 : ∀ i, W1.frozen? ⟨W.heap.size, i, none⟩ = false := fun i => S.frozen_of W1 W.heap.size i _ 30 v1
 have HV := hid v1
 clear v1
 go_enter Tryz.func62, Tryz.ntmps62
 go_wp2
 go_ret
 refine ⟨rfl, ?_⟩
 first | exact HB.out | exact (Below.refl _ _).alloc (Nat.le_refl _) _ | exact HB.out.setCell (Nat.le_refl _) _ | exact (HB.out.setCell (p := ⟨W.heap.size, _, none⟩) (Nat.le_refl _) _).setCell (p := ⟨W.heap.size, _, none⟩) (Nat.le_refl _) _ | exact ((HB.out.setCell (p := ⟨W.heap.size, _, none⟩) (Nat.le_refl _) _).setCell (p := ⟨W.heap.size, _, none⟩) (Nat.le_refl _) _).setCell (p := ⟨W.heap.size, _, none⟩) (Nat.le_refl _) _
theorem ho_8_4 (op v p1 p2 : Int) (nm : ByteArray) (n1 n2 d1 d2 : Nat) (q1 q2 : Option Addr) (has : Bool) (W : World) (h_op : (op == 0) = true) (h_v : (v == 0) = true) (h_nm : nm.toList.isEmpty = true) (h_el : (((n2 + 1 : Nat) : Int) == 0) = false) :
  Calls Tryz.prog 62 #[.agg #[.int .i64 8, .int .i64 op, .int .u16 v, .string nm, .slice q1 n1 d1, .slice q2 (n2 + 1) d2, .bool false, .int .i64 p1, .int .i64 p2]] W fun e w' => e = .returned (.bool false) /\ Below W.heap.size W w' := by
 have g_op : op = 0 := by simpa using h_op
 have g_v : v = 0 := by simpa using h_v
 have g_nm : nm.toList = [] := by simpa using h_nm
 obtain ⟨W1, hW1⟩ : ∃ W1, W.alloc (.cells #[.int .i64 8, .int .i64 op, .int .u16 v, .string nm, .slice q1 n1 d1, .slice q2 (n2 + 1) d2, .bool false, .int .i64 p1, .int .i64 p2] 30) = W1 := ⟨_, rfl⟩
 have v1 : W1.heap[W.heap.size]? = some (.cells [.int .i64 8, .int .i64 op, .int .u16 v, .string nm, .slice q1 n1 d1, .slice q2 (n2 + 1) d2, .bool false, .int .i64 p1, .int .i64 p2].toArray 30 (0, 0)) := by rw [<- hW1]; exact heap_alloc_new W _
 have HB := hid (show Below W.heap.size W W1 by rw [<- hW1]; exact (Below.refl _ _).alloc (Nat.le_refl _) _)
 have x0 := S.cell_of W1 _ 0 _ 30 _ v1 rfl
 have x1 := S.cell_of W1 _ 1 _ 30 _ v1 rfl
 have x2 := S.cell_of W1 _ 2 _ 30 _ v1 rfl
 have x3 := S.cell_of W1 _ 3 _ 30 _ v1 rfl
 have x4 := S.cell_of W1 _ 4 _ 30 _ v1 rfl
 have x5 := S.cell_of W1 _ 5 _ 30 _ v1 rfl
 have x6 := S.cell_of W1 _ 6 _ 30 _ v1 rfl
 have f1 : ∀ i, W1.frozen? ⟨W.heap.size, i, none⟩ = false := fun i => S.frozen_of W1 W.heap.size i _ 30 v1
 have HV := hid v1
 clear v1
 go_enter Tryz.func62, Tryz.ntmps62
 go_wp2
 go_ret
 refine ⟨rfl, ?_⟩
 first | exact HB.out | exact (Below.refl _ _).alloc (Nat.le_refl _) _ | exact HB.out.setCell (Nat.le_refl _) _ | exact (HB.out.setCell (p := ⟨W.heap.size, _, none⟩) (Nat.le_refl _) _).setCell (p := ⟨W.heap.size, _, none⟩) (Nat.le_refl _) _ | exact ((HB.out.setCell (p := ⟨W.heap.size, _, none⟩) (Nat.le_refl _) _).setCell (p := ⟨W.heap.size, _, none⟩) (Nat.le_refl _) _).setCell (p := ⟨W.heap.size, _, none⟩) (Nat.le_refl _) _
theorem ho_8_5 (op v p1 p2 : Int) (nm : ByteArray) (n1 n2 d1 d2 : Nat) (q1 q2 : Option Addr) (has : Bool) (W : World) (h_op : (op == 0) = true) (h_v : (v == 0) = true) (h_nm : nm.toList.isEmpty = true) :
  Calls Tryz.prog 62 #[.agg #[.int .i64 8, .int .i64 op, .int .u16 v, .string nm, .slice q1 n1 d1, .slice q2 0 d2, .bool false, .int .i64 p1, .int .i64 p2]] W fun e w' => e = .returned (.bool true) /\ Below W.heap.size W w' := by
 have g_op : op = 0 := by simpa using h_op
 have g_v : v = 0 := by simpa using h_v
 have g_nm : nm.toList = [] := by simpa using h_nm
 obtain ⟨W1, hW1⟩ : ∃ W1, W.alloc (.cells #[.int .i64 8, .int .i64 op, .int .u16 v, .string nm, .slice q1 n1 d1, .slice q2 0 d2, .bool false, .int .i64 p1, .int .i64 p2] 30) = W1 := ⟨_, rfl⟩
 have v1 : W1.heap[W.heap.size]? = some (.cells [.int .i64 8, .int .i64 op, .int .u16 v, .string nm, .slice q1 n1 d1, .slice q2 0 d2, .bool false, .int .i64 p1, .int .i64 p2].toArray 30 (0, 0)) := by rw [<- hW1]; exact heap_alloc_new W _
 have HB := hid (show Below W.heap.size W W1 by rw [<- hW1]; exact (Below.refl _ _).alloc (Nat.le_refl _) _)
 have x0 := S.cell_of W1 _ 0 _ 30 _ v1 rfl
 have x1 := S.cell_of W1 _ 1 _ 30 _ v1 rfl
 have x2 := S.cell_of W1 _ 2 _ 30 _ v1 rfl
 have x3 := S.cell_of W1 _ 3 _ 30 _ v1 rfl
 have x4 := S.cell_of W1 _ 4 _ 30 _ v1 rfl
 have x5 := S.cell_of W1 _ 5 _ 30 _ v1 rfl
 have x6 := S.cell_of W1 _ 6 _ 30 _ v1 rfl
 have f1 : ∀ i, W1.frozen? ⟨W.heap.size, i, none⟩ = false := fun i => S.frozen_of W1 W.heap.size i _ 30 v1
 have HV := hid v1
 clear v1
 go_enter Tryz.func62, Tryz.ntmps62
 go_wp2
 go_ret
 refine ⟨rfl, ?_⟩
 first | exact HB.out | exact (Below.refl _ _).alloc (Nat.le_refl _) _ | exact HB.out.setCell (Nat.le_refl _) _ | exact (HB.out.setCell (p := ⟨W.heap.size, _, none⟩) (Nat.le_refl _) _).setCell (p := ⟨W.heap.size, _, none⟩) (Nat.le_refl _) _ | exact ((HB.out.setCell (p := ⟨W.heap.size, _, none⟩) (Nat.le_refl _) _).setCell (p := ⟨W.heap.size, _, none⟩) (Nat.le_refl _) _).setCell (p := ⟨W.heap.size, _, none⟩) (Nat.le_refl _) _
theorem ho_9_0 (op v p1 p2 : Int) (nm : ByteArray) (n1 n2 d1 d2 : Nat) (q1 q2 : Option Addr) (has : Bool) (W : World) (h_op : (op == 0) = false) :
  Calls Tryz.prog 62 #[.agg #[.int .i64 9, .int .i64 op, .int .u16 v, .string nm, .slice q1 n1 d1, .slice q2 n2 d2, .bool has, .int .i64 p1, .int .i64 p2]] W fun e w' => e = .returned (.bool false) /\ Below W.heap.size W w' := by
 have g_op : ¬ op = 0 := by simpa using h_op
 obtain ⟨W1, hW1⟩ : ∃ W1, W.alloc (.cells #[.int .i64 9, .int .i64 op, .int .u16 v, .string nm, .slice q1 n1 d1, .slice q2 n2 d2, .bool has, .int .i64 p1, .int .i64 p2] 30) = W1 := ⟨_, rfl⟩
 have v1 : W1.heap[W.heap.size]? = some (.cells [.int .i64 9, .int .i64 op, .int .u16 v, .string nm, .slice q1 n1 d1, .slice q2 n2 d2, .bool has, .int .i64 p1, .int .i64 p2].toArray 30 (0, 0)) := by rw [<- hW1]; exact heap_alloc_new W _
 have HB := hid (show Below W.heap.size W W1 by rw [<- hW1]; exact (Below.refl _ _).alloc (Nat.le_refl _) _)
 have x0 := S.cell_of W1 _ 0 _ 30 _ v1 rfl
 have x1 := S.cell_of W1 _ 1 _ 30 _ v1 rfl
 have x2 := S.cell_of W1 _ 2 _ 30 _ v1 rfl
 have x3 := S.cell_of W1 _ 3 _ 30 _ v1 rfl
 have x4 := S.cell_of W1 _ 4 _ 30 _ v1 rfl
 have x5 := S.cell_of W1 _ 5 _ 30 _ v1 rfl
 have x6 := S.cell_of W1 _ 6 _ 30 _ v1 rfl
 have f1 : ∀ i, W1.frozen? ⟨W.heap.size, i, none⟩ = false := fun i => S.frozen_of W1 W.heap.size i _ 30 v1
 have HV := hid v1
 clear v1
 go_enter Tryz.func62, Tryz.ntmps62
 go_wp2
 go_ret
 refine ⟨rfl, ?_⟩
 first | exact HB.out | exact (Below.refl _ _).alloc (Nat.le_refl _) _ | exact HB.out.setCell (Nat.le_refl _) _ | exact (HB.out.setCell (p := ⟨W.heap.size, _, none⟩) (Nat.le_refl _) _).setCell (p := ⟨W.heap.size, _, none⟩) (Nat.le_refl _) _ | exact ((HB.out.setCell (p := ⟨W.heap.size, _, none⟩) (Nat.le_refl _) _).setCell (p := ⟨W.heap.size, _, none⟩) (Nat.le_refl _) _).setCell (p := ⟨W.heap.size, _, none⟩) (Nat.le_refl _) _
theorem ho_9_1 (op v p1 p2 : Int) (nm : ByteArray) (n1 n2 d1 d2 : Nat) (q1 q2 : Option Addr) (has : Bool) (W : World) (h_op : (op == 0) = true) (h_v : (v == 0) = false) :
  Calls Tryz.prog 62 #[.agg #[.int .i64 9, .int .i64 op, .int .u16 v, .string nm, .slice q1 n1 d1, .slice q2 n2 d2, .bool has, .int .i64 p1, .int .i64 p2]] W fun e w' => e = .returned (.bool false) /\ Below W.heap.size W w' := by
 have g_op : op = 0 := by simpa using h_op
 have g_v : ¬ v = 0 := by simpa using h_v
 obtain ⟨W1, hW1⟩ : ∃ W1, W.alloc (.cells #[.int .i64 9, .int .i64 op, .int .u16 v, .string nm, .slice q1 n1 d1, .slice q2 n2 d2, .bool has, .int .i64 p1, .int .i64 p2] 30) = W1 := ⟨_, rfl⟩
 have v1 : W1.heap[W.heap.size]? = some (.cells [.int .i64 9, .int .i64 op, .int .u16 v, .string nm, .slice q1 n1 d1, .slice q2 n2 d2, .bool has, .int .i64 p1, .int .i64 p2].toArray 30 (0, 0)) := by rw [<- hW1]; exact heap_alloc_new W _
 have HB := hid (show Below W.heap.size W W1 by rw [<- hW1]; exact (Below.refl _ _).alloc (Nat.le_refl _) _)
 have x0 := S.cell_of W1 _ 0 _ 30 _ v1 rfl
 have x1 := S.cell_of W1 _ 1 _ 30 _ v1 rfl
 have x2 := S.cell_of W1 _ 2 _ 30 _ v1 rfl
 have x3 := S.cell_of W1 _ 3 _ 30 _ v1 rfl
 have x4 := S.cell_of W1 _ 4 _ 30 _ v1 rfl
 have x5 := S.cell_of W1 _ 5 _ 30 _ v1 rfl
 have x6 := S.cell_of W1 _ 6 _ 30 _ v1 rfl
 have f1 : ∀ i, W1.frozen? ⟨W.heap.size, i, none⟩ = false := fun i => S.frozen_of W1 W.heap.size i _ 30 v1
 have HV := hid v1
 clear v1
 go_enter Tryz.func62, Tryz.ntmps62
 go_wp2
 go_ret
 refine ⟨rfl, ?_⟩
 first | exact HB.out | exact (Below.refl _ _).alloc (Nat.le_refl _) _ | exact HB.out.setCell (Nat.le_refl _) _ | exact (HB.out.setCell (p := ⟨W.heap.size, _, none⟩) (Nat.le_refl _) _).setCell (p := ⟨W.heap.size, _, none⟩) (Nat.le_refl _) _ | exact ((HB.out.setCell (p := ⟨W.heap.size, _, none⟩) (Nat.le_refl _) _).setCell (p := ⟨W.heap.size, _, none⟩) (Nat.le_refl _) _).setCell (p := ⟨W.heap.size, _, none⟩) (Nat.le_refl _) _
theorem ho_9_2 (op v p1 p2 : Int) (nm : ByteArray) (n1 n2 d1 d2 : Nat) (q1 q2 : Option Addr) (has : Bool) (W : World) (h_op : (op == 0) = true) (h_v : (v == 0) = true) (h_nm : nm.toList.isEmpty = false) :
  Calls Tryz.prog 62 #[.agg #[.int .i64 9, .int .i64 op, .int .u16 v, .string nm, .slice q1 n1 d1, .slice q2 n2 d2, .bool has, .int .i64 p1, .int .i64 p2]] W fun e w' => e = .returned (.bool false) /\ Below W.heap.size W w' := by
 have g_op : op = 0 := by simpa using h_op
 have g_v : v = 0 := by simpa using h_v
 have g_nm : ¬ nm.toList = [] := by simpa using h_nm
 obtain ⟨W1, hW1⟩ : ∃ W1, W.alloc (.cells #[.int .i64 9, .int .i64 op, .int .u16 v, .string nm, .slice q1 n1 d1, .slice q2 n2 d2, .bool has, .int .i64 p1, .int .i64 p2] 30) = W1 := ⟨_, rfl⟩
 have v1 : W1.heap[W.heap.size]? = some (.cells [.int .i64 9, .int .i64 op, .int .u16 v, .string nm, .slice q1 n1 d1, .slice q2 n2 d2, .bool has, .int .i64 p1, .int .i64 p2].toArray 30 (0, 0)) := by rw [<- hW1]; exact heap_alloc_new W _
 have HB := hid (show Below W.heap.size W W1 by rw [<- hW1]; exact (Below.refl _ _).alloc (Nat.le_refl _) _)
 have x0 := S.cell_of W1 _ 0 _ 30 _ v1 rfl
 have x1 := S.cell_of W1 _ 1 _ 30 _ v1 rfl
 have x2 := S.cell_of W1 _ 2 _ 30 _ v1 rfl
 have x3 := S.cell_of W1 _ 3 _ 30 _ v1 rfl
 have x4 := S.cell_of W1 _ 4 _ 30 _ v1 rfl
 have x5 := S.cell_of W1 _ 5 _ 30 _ v1 rfl
 have x6 := S.cell_of W1 _ 6 _ 30 _ v1 rfl
 have f1 : ∀ i, W1.frozen? ⟨W.heap.size, i, none⟩ = false := fun i => S.frozen_of W1 W.heap.size i _ 30 v1
 have HV := hid v1
 clear v1
 go_enter Tryz.func62, Tryz.ntmps62
 go_wp2
 go_ret
 refine ⟨rfl, ?_⟩
 first | exact HB.out | exact (Below.refl _ _).alloc (Nat.le_refl _) _ | exact HB.out.setCell (Nat.le_refl _) _ | exact (HB.out.setCell (p := ⟨W.heap.size, _, none⟩) (Nat.le_refl _) _).setCell (p := ⟨W.heap.size, _, none⟩) (Nat.le_refl _) _ | exact ((HB.out.setCell (p := ⟨W.heap.size, _, none⟩) (Nat.le_refl _) _).setCell (p := ⟨W.heap.size, _, none⟩) (Nat.le_refl _) _).setCell (p := ⟨W.heap.size, _, none⟩) (Nat.le_refl _) _
theorem ho_9_3 (op v p1 p2 : Int) (nm : ByteArray) (n1 n2 d1 d2 : Nat) (q1 q2 : Option Addr) (has : Bool) (W : World) (h_op : (op == 0) = true) (h_v : (v == 0) = true) (h_nm : nm.toList.isEmpty = true) :
  Calls Tryz.prog 62 #[.agg #[.int .i64 9, .int .i64 op, .int .u16 v, .string nm, .slice q1 n1 d1, .slice q2 n2 d2, .bool true, .int .i64 p1, .int .i64 p2]] W fun e w' => e = .returned (.bool false) /\ Below W.heap.size W w' := by
 have g_op : op = 0 := by simpa using h_op
 have g_v : v = 0 := by simpa using h_v
 have g_nm : nm.toList = [] := by simpa using h_nm
 obtain ⟨W1, hW1⟩ : ∃ W1, W.alloc (.cells #[.int .i64 9, .int .i64 op, .int .u16 v, .string nm, .slice q1 n1 d1, .slice q2 n2 d2, .bool true, .int .i64 p1, .int .i64 p2] 30) = W1 := ⟨_, rfl⟩
 have v1 : W1.heap[W.heap.size]? = some (.cells [.int .i64 9, .int .i64 op, .int .u16 v, .string nm, .slice q1 n1 d1, .slice q2 n2 d2, .bool true, .int .i64 p1, .int .i64 p2].toArray 30 (0, 0)) := by rw [<- hW1]; exact heap_alloc_new W _
 have HB := hid (show Below W.heap.size W W1 by rw [<- hW1]; exact (Below.refl _ _).alloc (Nat.le_refl _) _)
 have x0 := S.cell_of W1 _ 0 _ 30 _ v1 rfl
 have x1 := S.cell_of W1 _ 1 _ 30 _ v1 rfl
 have x2 := S.cell_of W1 _ 2 _ 30 _ v1 rfl
 have x3 := S.cell_of W1 _ 3 _ 30 _ v1 rfl
 have x4 := S.cell_of W1 _ 4 _ 30 _ v1 rfl
 have x5 := S.cell_of W1 _ 5 _ 30 _ v1 rfl
 have x6 := S.cell_of W1 _ 6 _ 30 _ v1 rfl
 have f1 : ∀ i, W1.frozen? ⟨W.heap.size, i, none⟩ = false := fun i => S.frozen_of W1 W.heap.size i _ 30 v1
 have HV := hid v1
 clear v1
 go_enter Tryz.func62, Tryz.ntmps62
 go_wp2
 go_ret
 refine ⟨rfl, ?_⟩
 first | exact HB.out | exact (Below.refl _ _).alloc (Nat.le_refl _) _ | exact HB.out.setCell (Nat.le_refl _) _ | exact (HB.out.setCell (p := ⟨W.heap.size, _, none⟩) (Nat.le_refl _) _).setCell (p := ⟨W.heap.size, _, none⟩) (Nat.le_refl _) _ | exact ((HB.out.setCell (p := ⟨W.heap.size, _, none⟩) (Nat.le_refl _) _).setCell (p := ⟨W.heap.size, _, none⟩) (Nat.le_refl _) _).setCell (p := ⟨W.heap.size, _, none⟩) (Nat.le_refl _) _
theorem ho_9_4 (op v p1 p2 : Int) (nm : ByteArray) (n1 n2 d1 d2 : Nat) (q1 q2 : Option Addr) (has : Bool) (W : World) (h_op : (op == 0) = true) (h_v : (v == 0) = true) (h_nm : nm.toList.isEmpty = true) (h_th : (((n1 + 1 : Nat) : Int) == 0) = false) :
  Calls Tryz.prog 62 #[.agg #[.int .i64 9, .int .i64 op, .int .u16 v, .string nm, .slice q1 (n1 + 1) d1, .slice q2 n2 d2, .bool false, .int .i64 p1, .int .i64 p2]] W fun e w' => e = .returned (.bool false) /\ Below W.heap.size W w' := by
 have g_op : op = 0 := by simpa using h_op
 have g_v : v = 0 := by simpa using h_v
 have g_nm : nm.toList = [] := by simpa using h_nm
 obtain ⟨W1, hW1⟩ : ∃ W1, W.alloc (.cells #[.int .i64 9, .int .i64 op, .int .u16 v, .string nm, .slice q1 (n1 + 1) d1, .slice q2 n2 d2, .bool false, .int .i64 p1, .int .i64 p2] 30) = W1 := ⟨_, rfl⟩
 have v1 : W1.heap[W.heap.size]? = some (.cells [.int .i64 9, .int .i64 op, .int .u16 v, .string nm, .slice q1 (n1 + 1) d1, .slice q2 n2 d2, .bool false, .int .i64 p1, .int .i64 p2].toArray 30 (0, 0)) := by rw [<- hW1]; exact heap_alloc_new W _
 have HB := hid (show Below W.heap.size W W1 by rw [<- hW1]; exact (Below.refl _ _).alloc (Nat.le_refl _) _)
 have x0 := S.cell_of W1 _ 0 _ 30 _ v1 rfl
 have x1 := S.cell_of W1 _ 1 _ 30 _ v1 rfl
 have x2 := S.cell_of W1 _ 2 _ 30 _ v1 rfl
 have x3 := S.cell_of W1 _ 3 _ 30 _ v1 rfl
 have x4 := S.cell_of W1 _ 4 _ 30 _ v1 rfl
 have x5 := S.cell_of W1 _ 5 _ 30 _ v1 rfl
 have x6 := S.cell_of W1 _ 6 _ 30 _ v1 rfl
 have f1 : ∀ i, W1.frozen? ⟨W.heap.size, i, none⟩ = false := fun i => S.frozen_of W1 W.heap.size i _ 30 v1
 have HV := hid v1
 clear v1
 go_enter Tryz.func62, Tryz.ntmps62
 go_wp2
 go_ret
 refine ⟨rfl, ?_⟩
 first | exact HB.out | exact (Below.refl _ _).alloc (Nat.le_refl _) _ | exact HB.out.setCell (Nat.le_refl _) _ | exact (HB.out.setCell (p := ⟨W.heap.size, _, none⟩) (Nat.le_refl _) _).setCell (p := ⟨W.heap.size, _, none⟩) (Nat.le_refl _) _ | exact ((HB.out.setCell (p := ⟨W.heap.size, _, none⟩) (Nat.le_refl _) _).setCell (p := ⟨W.heap.size, _, none⟩) (Nat.le_refl _) _).setCell (p := ⟨W.heap.size, _, none⟩) (Nat.le_refl _) _
theorem ho_9_5 (op v p1 p2 : Int) (nm : ByteArray) (n1 n2 d1 d2 : Nat) (q1 q2 : Option Addr) (has : Bool) (W : World) (h_op : (op == 0) = true) (h_v : (v == 0) = true) (h_nm : nm.toList.isEmpty = true) (h_el : (((n2 + 1 : Nat) : Int) == 0) = false) :
  Calls Tryz.prog 62 #[.agg #[.int .i64 9, .int .i64 op, .int .u16 v, .string nm, .slice q1 0 d1, .slice q2 (n2 + 1) d2, .bool false, .int .i64 p1, .int .i64 p2]] W fun e w' => e = .returned (.bool false) /\ Below W.heap.size W w' := by
 have g_op : op = 0 := by simpa using h_op
 have g_v : v = 0 := by simpa using h_v
 have g_nm : nm.toList = [] := by simpa using h_nm
 obtain ⟨W1, hW1⟩ : ∃ W1, W.alloc (.cells #[.int .i64 9, .int .i64 op, .int .u16 v, .string nm, .slice q1 0 d1, .slice q2 (n2 + 1) d2, .bool false, .int .i64 p1, .int .i64 p2] 30) = W1 := ⟨_, rfl⟩
 have v1 : W1.heap[W.heap.size]? = some (.cells [.int .i64 9, .int .i64 op, .int .u16 v, .string nm, .slice q1 0 d1, .slice q2 (n2 + 1) d2, .bool false, .int .i64 p1, .int .i64 p2].toArray 30 (0, 0)) := by rw [<- hW1]; exact heap_alloc_new W _
 have HB := hid (show Below W.heap.size W W1 by rw [<- hW1]; exact (Below.refl _ _).alloc (Nat.le_refl _) _)
 have x0 := S.cell_of W1 _ 0 _ 30 _ v1 rfl
 have x1 := S.cell_of W1 _ 1 _ 30 _ v1 rfl
 have x2 := S.cell_of W1 _ 2 _ 30 _ v1 rfl
 have x3 := S.cell_of W1 _ 3 _ 30 _ v1 rfl
 have x4 := S.cell_of W1 _ 4 _ 30 _ v1 rfl
 have x5 := S.cell_of W1 _ 5 _ 30 _ v1 rfl
 have x6 := S.cell_of W1 _ 6 _ 30 _ v1 rfl
 have f1 : ∀ i, W1.frozen? ⟨W.heap.size, i, none⟩ = false := fun i => S.frozen_of W1 W.heap.size i _ 30 v1
 have HV := hid v1
 clear v1
 go_enter Tryz.func62, Tryz.ntmps62
 go_wp2
 go_ret
 refine ⟨rfl, ?_⟩
 first | exact HB.out | exact (Below.refl _ _).alloc (Nat.le_refl _) _ | exact HB.out.setCell (Nat.le_refl _) _ | exact (HB.out.setCell (p := ⟨W.heap.size, _, none⟩) (Nat.le_refl _) _).setCell (p := ⟨W.heap.size, _, none⟩) (Nat.le_refl _) _ | exact ((HB.out.setCell (p := ⟨W.heap.size, _, none⟩) (Nat.le_refl _) _).setCell (p := ⟨W.heap.size, _, none⟩) (Nat.le_refl _) _).setCell (p := ⟨W.heap.size, _, none⟩) (Nat.le_refl _) _
theorem ho_9_6 (op v p1 p2 : Int) (nm : ByteArray) (n1 n2 d1 d2 : Nat) (q1 q2 : Option Addr) (has : Bool) (W : World) (h_op : (op == 0) = true) (h_v : (v == 0) = true) (h_nm : nm.toList.isEmpty = true) :
  Calls Tryz.prog 62 #[.agg #[.int .i64 9, .int .i64 op, .int .u16 v, .string nm, .slice q1 0 d1, .slice q2 0 d2, .bool false, .int .i64 p1, .int .i64 p2]] W fun e w' => e = .returned (.bool true) /\ Below W.heap.size W w' := by
 have g_op : op = 0 := by simpa using h_op
 have g_v : v = 0 := by simpa using h_v
 have g_nm : nm.toList = [] := by simpa using h_nm
 obtain ⟨W1, hW1⟩ : ∃ W1, W.alloc (.cells #[.int .i64 9, .int .i64 op, .int .u16 v, .string nm, .slice q1 0 d1, .slice q2 0 d2, .bool false, .int .i64 p1, .int .i64 p2] 30) = W1 := ⟨_, rfl⟩
 have v1 : W1.heap[W.heap.size]? = some (.cells [.int .i64 9, .int .i64 op, .int .u16 v, .string nm, .slice q1 0 d1, .slice q2 0 d2, .bool false, .int .i64 p1, .int .i64 p2].toArray 30 (0, 0)) := by rw [<- hW1]; exact heap_alloc_new W _
 have HB := hid (show Below W.heap.size W W1 by rw [<- hW1]; exact (Below.refl _ _).alloc (Nat.le_refl _) _)
 have x0 := S.cell_of W1 _ 0 _ 30 _ v1 rfl
 have x1 := S.cell_of W1 _ 1 _ 30 _ v1 rfl
 have x2 := S.cell_of W1 _ 2 _ 30 _ v1 rfl
 have x3 := S.cell_of W1 _ 3 _ 30 _ v1 rfl
 have x4 := S.cell_of W1 _ 4 _ 30 _ v1 rfl
 have x5 := S.cell_of W1 _ 5 _ 30 _ v1 rfl
 have x6 := S.cell_of W1 _ 6 _ 30 _ v1 rfl
 have f1 : ∀ i, W1.frozen? ⟨W.heap.size, i, none⟩ = false := fun i => S.frozen_of W1 W.heap.size i _ 30 v1
 have HV := hid v1
 clear v1
 go_enter Tryz.func62, Tryz.ntmps62
 go_wp2
 go_ret
 refine ⟨rfl, ?_⟩
 first | exact HB.out | exact (Below.refl _ _).alloc (Nat.le_refl _) _ | exact HB.out.setCell (Nat.le_refl _) _ | exact (HB.out.setCell (p := ⟨W.heap.size, _, none⟩) (Nat.le_refl _) _).setCell (p := ⟨W.heap.size, _, none⟩) (Nat.le_refl _) _ | exact ((HB.out.setCell (p := ⟨W.heap.size, _, none⟩) (Nat.le_refl _) _).setCell (p := ⟨W.heap.size, _, none⟩) (Nat.le_refl _) _).setCell (p := ⟨W.heap.size, _, none⟩) (Nat.le_refl _) _
end Go.Proofs.YtlilefhmohkfkaaGreatDoor.V
