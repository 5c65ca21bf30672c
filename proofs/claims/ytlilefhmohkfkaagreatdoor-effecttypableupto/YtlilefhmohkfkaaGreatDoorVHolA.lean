import Derived.Test.YtlilefhmohkfkaaGreatDoorVIn
namespace Go.Proofs.YtlilefhmohkfkaaGreatDoor.V
open Go.RowKit
open Go.Proofs
open Go.Proofs.YtlilefhmohkfkaaGreatDoor.Y (Nd Df Ps ndc dfc hid)
open R (usesF strc uses len_ne)
set_option linter.unusedVariables false
set_option linter.unusedSimpArgs false
set_option maxHeartbeats 2000000
set_option maxRecDepth 100000
theorem hol_1 (op v p1 p2 : Int) (nm : ByteArray) (th el : List Nd) (d1 d2 : Nat) (q1 q2 : Option Addr) (has : Bool) (W : World) :
  Calls Tryz.prog 62 #[.agg #[.int .i64 1, .int .i64 op, .int .u16 v, .string nm, .slice q1 th.length d1, .slice q2 el.length d2, .bool has, .int .i64 p1, .int .i64 p2]] W fun e w' => e = .returned (.bool (usesF 1 op v nm th.isEmpty el.isEmpty has)) /\ Below W.heap.size W w' := by
 cases h_v : (v == 0)
 ·
  have E : usesF 1 op v nm (th).isEmpty (el).isEmpty has = false := by unfold usesF strc; simp [h_v]
  rw [E]
  exact ho_1_0 op v p1 p2 nm ((th).length) ((el).length) d1 d2 q1 q2 has W h_v
 ·
  cases h_nm : (nm.toList.isEmpty)
  ·
   have E : usesF 1 op v nm (th).isEmpty (el).isEmpty has = false := by unfold usesF strc; simp [h_v, h_nm]
   rw [E]
   exact ho_1_1 op v p1 p2 nm ((th).length) ((el).length) d1 d2 q1 q2 has W h_v h_nm
  ·
   cases has
   ·
    rcases th with _ | ⟨th_a, th_r⟩
    ·
     rcases el with _ | ⟨el_a, el_r⟩
     ·
      have E : usesF 1 op v nm (([] : List Nd)).isEmpty (([] : List Nd)).isEmpty false = true := by unfold usesF strc; simp [h_v, h_nm]
      rw [E]
      exact ho_1_5 op v p1 p2 nm ((([] : List Nd)).length) ((([] : List Nd)).length) d1 d2 q1 q2 false W h_v h_nm
     ·
      have E : usesF 1 op v nm (([] : List Nd)).isEmpty ((el_a :: el_r)).isEmpty false = false := by unfold usesF strc; simp [h_v, h_nm]
      rw [E]
      exact ho_1_4 op v p1 p2 nm ((([] : List Nd)).length) (el_r.length) d1 d2 q1 q2 false W h_v h_nm (len_ne _)
    ·
     have E : usesF 1 op v nm ((th_a :: th_r)).isEmpty (el).isEmpty false = false := by unfold usesF strc; simp [h_v, h_nm]
     rw [E]
     exact ho_1_3 op v p1 p2 nm (th_r.length) ((el).length) d1 d2 q1 q2 false W h_v h_nm (len_ne _)
   ·
    have E : usesF 1 op v nm (th).isEmpty (el).isEmpty true = false := by unfold usesF strc; simp [h_v, h_nm]
    rw [E]
    exact ho_1_2 op v p1 p2 nm ((th).length) ((el).length) d1 d2 q1 q2 true W h_v h_nm
theorem hol_2 (op v p1 p2 : Int) (nm : ByteArray) (th el : List Nd) (d1 d2 : Nat) (q1 q2 : Option Addr) (has : Bool) (W : World) :
  Calls Tryz.prog 62 #[.agg #[.int .i64 2, .int .i64 op, .int .u16 v, .string nm, .slice q1 th.length d1, .slice q2 el.length d2, .bool has, .int .i64 p1, .int .i64 p2]] W fun e w' => e = .returned (.bool (usesF 2 op v nm th.isEmpty el.isEmpty has)) /\ Below W.heap.size W w' := by
 cases h_op : (op == 0)
 ·
  have E : usesF 2 op v nm (th).isEmpty (el).isEmpty has = false := by unfold usesF strc; simp [h_op]
  rw [E]
  exact ho_2_0 op v p1 p2 nm ((th).length) ((el).length) d1 d2 q1 q2 has W h_op
 ·
  cases h_nm : (nm.toList.isEmpty)
  ·
   have E : usesF 2 op v nm (th).isEmpty (el).isEmpty has = false := by unfold usesF strc; simp [h_op, h_nm]
   rw [E]
   exact ho_2_1 op v p1 p2 nm ((th).length) ((el).length) d1 d2 q1 q2 has W h_op h_nm
  ·
   cases has
   ·
    rcases th with _ | ⟨th_a, th_r⟩
    ·
     rcases el with _ | ⟨el_a, el_r⟩
     ·
      have E : usesF 2 op v nm (([] : List Nd)).isEmpty (([] : List Nd)).isEmpty false = true := by unfold usesF strc; simp [h_op, h_nm]
      rw [E]
      exact ho_2_5 op v p1 p2 nm ((([] : List Nd)).length) ((([] : List Nd)).length) d1 d2 q1 q2 false W h_op h_nm
     ·
      have E : usesF 2 op v nm (([] : List Nd)).isEmpty ((el_a :: el_r)).isEmpty false = false := by unfold usesF strc; simp [h_op, h_nm]
      rw [E]
      exact ho_2_4 op v p1 p2 nm ((([] : List Nd)).length) (el_r.length) d1 d2 q1 q2 false W h_op h_nm (len_ne _)
    ·
     have E : usesF 2 op v nm ((th_a :: th_r)).isEmpty (el).isEmpty false = false := by unfold usesF strc; simp [h_op, h_nm]
     rw [E]
     exact ho_2_3 op v p1 p2 nm (th_r.length) ((el).length) d1 d2 q1 q2 false W h_op h_nm (len_ne _)
   ·
    have E : usesF 2 op v nm (th).isEmpty (el).isEmpty true = false := by unfold usesF strc; simp [h_op, h_nm]
    rw [E]
    exact ho_2_2 op v p1 p2 nm ((th).length) ((el).length) d1 d2 q1 q2 true W h_op h_nm
theorem hol_3 (op v p1 p2 : Int) (nm : ByteArray) (th el : List Nd) (d1 d2 : Nat) (q1 q2 : Option Addr) (has : Bool) (W : World) :
  Calls Tryz.prog 62 #[.agg #[.int .i64 3, .int .i64 op, .int .u16 v, .string nm, .slice q1 th.length d1, .slice q2 el.length d2, .bool has, .int .i64 p1, .int .i64 p2]] W fun e w' => e = .returned (.bool (usesF 3 op v nm th.isEmpty el.isEmpty has)) /\ Below W.heap.size W w' := by
 cases h_op : (op == 0)
 ·
  have E : usesF 3 op v nm (th).isEmpty (el).isEmpty has = false := by unfold usesF strc; simp [h_op]
  rw [E]
  exact ho_3_0 op v p1 p2 nm ((th).length) ((el).length) d1 d2 q1 q2 has W h_op
 ·
  cases h_v : (v == 0)
  ·
   have E : usesF 3 op v nm (th).isEmpty (el).isEmpty has = false := by unfold usesF strc; simp [h_op, h_v]
   rw [E]
   exact ho_3_1 op v p1 p2 nm ((th).length) ((el).length) d1 d2 q1 q2 has W h_op h_v
  ·
   cases has
   ·
    rcases th with _ | ⟨th_a, th_r⟩
    ·
     rcases el with _ | ⟨el_a, el_r⟩
     ·
      have E : usesF 3 op v nm (([] : List Nd)).isEmpty (([] : List Nd)).isEmpty false = true := by unfold usesF strc; simp [h_op, h_v]
      rw [E]
      exact ho_3_5 op v p1 p2 nm ((([] : List Nd)).length) ((([] : List Nd)).length) d1 d2 q1 q2 false W h_op h_v
     ·
      have E : usesF 3 op v nm (([] : List Nd)).isEmpty ((el_a :: el_r)).isEmpty false = false := by unfold usesF strc; simp [h_op, h_v]
      rw [E]
      exact ho_3_4 op v p1 p2 nm ((([] : List Nd)).length) (el_r.length) d1 d2 q1 q2 false W h_op h_v (len_ne _)
    ·
     have E : usesF 3 op v nm ((th_a :: th_r)).isEmpty (el).isEmpty false = false := by unfold usesF strc; simp [h_op, h_v]
     rw [E]
     exact ho_3_3 op v p1 p2 nm (th_r.length) ((el).length) d1 d2 q1 q2 false W h_op h_v (len_ne _)
   ·
    have E : usesF 3 op v nm (th).isEmpty (el).isEmpty true = false := by unfold usesF strc; simp [h_op, h_v]
    rw [E]
    exact ho_3_2 op v p1 p2 nm ((th).length) ((el).length) d1 d2 q1 q2 true W h_op h_v
theorem hol_4f (op v p1 p2 : Int) (nm : ByteArray) (th el : List Nd) (d1 d2 : Nat) (q1 q2 : Option Addr) (has : Bool) (W : World) :
  Calls Tryz.prog 62 #[.agg #[.int .i64 4, .int .i64 op, .int .u16 v, .string nm, .slice q1 th.length d1, .slice q2 el.length d2, .bool false, .int .i64 p1, .int .i64 p2]] W fun e w' => e = .returned (.bool (usesF 4 op v nm th.isEmpty el.isEmpty false)) /\ Below W.heap.size W w' := by
 cases h_op : (op == 0)
 ·
  have E : usesF 4 op v nm (th).isEmpty (el).isEmpty false = false := by unfold usesF strc; simp [h_op]
  rw [E]
  exact ho_4f_0 op v p1 p2 nm ((th).length) ((el).length) d1 d2 q1 q2 false W h_op
 ·
  cases h_v : (v == 0)
  ·
   have E : usesF 4 op v nm (th).isEmpty (el).isEmpty false = false := by unfold usesF strc; simp [h_op, h_v]
   rw [E]
   exact ho_4f_1 op v p1 p2 nm ((th).length) ((el).length) d1 d2 q1 q2 false W h_op h_v
  ·
   cases h_nm : (nm.toList.isEmpty)
   ·
    have E : usesF 4 op v nm (th).isEmpty (el).isEmpty false = false := by unfold usesF strc; simp [h_op, h_v, h_nm]
    rw [E]
    exact ho_4f_2 op v p1 p2 nm ((th).length) ((el).length) d1 d2 q1 q2 false W h_op h_v h_nm
   ·
    rcases el with _ | ⟨el_a, el_r⟩
    ·
     have E : usesF 4 op v nm (th).isEmpty (([] : List Nd)).isEmpty false = true := by unfold usesF strc; simp [h_op, h_v, h_nm]
     rw [E]
     exact ho_4f_4 op v p1 p2 nm ((th).length) ((([] : List Nd)).length) d1 d2 q1 q2 false W h_op h_v h_nm
    ·
     have E : usesF 4 op v nm (th).isEmpty ((el_a :: el_r)).isEmpty false = false := by unfold usesF strc; simp [h_op, h_v, h_nm]
     rw [E]
     exact ho_4f_3 op v p1 p2 nm ((th).length) (el_r.length) d1 d2 q1 q2 false W h_op h_v h_nm (len_ne _)
theorem hol_4t (op v p1 p2 : Int) (nm : ByteArray) (th el : List Nd) (d1 d2 : Nat) (q1 q2 : Option Addr) (has : Bool) (W : World) :
  Calls Tryz.prog 62 #[.agg #[.int .i64 4, .int .i64 op, .int .u16 v, .string nm, .slice q1 th.length d1, .slice q2 el.length d2, .bool true, .int .i64 p1, .int .i64 p2]] W fun e w' => e = .returned (.bool (usesF 4 op v nm th.isEmpty el.isEmpty true)) /\ Below W.heap.size W w' := by
 cases h_op : (op == 0)
 ·
  have E : usesF 4 op v nm (th).isEmpty (el).isEmpty true = false := by unfold usesF strc; simp [h_op]
  rw [E]
  exact ho_4t_0 op v p1 p2 nm ((th).length) ((el).length) d1 d2 q1 q2 true W h_op
 ·
  cases h_v : (v == 0)
  ·
   have E : usesF 4 op v nm (th).isEmpty (el).isEmpty true = false := by unfold usesF strc; simp [h_op, h_v]
   rw [E]
   exact ho_4t_1 op v p1 p2 nm ((th).length) ((el).length) d1 d2 q1 q2 true W h_op h_v
  ·
   cases h_nm : (nm.toList.isEmpty)
   ·
    have E : usesF 4 op v nm (th).isEmpty (el).isEmpty true = false := by unfold usesF strc; simp [h_op, h_v, h_nm]
    rw [E]
    exact ho_4t_2 op v p1 p2 nm ((th).length) ((el).length) d1 d2 q1 q2 true W h_op h_v h_nm
   ·
    have E : usesF 4 op v nm (th).isEmpty (el).isEmpty true = true := by unfold usesF strc; simp [h_op, h_v, h_nm]
    rw [E]
    exact ho_4t_3 op v p1 p2 nm ((th).length) ((el).length) d1 d2 q1 q2 true W h_op h_v h_nm
theorem hol_5 (op v p1 p2 : Int) (nm : ByteArray) (th el : List Nd) (d1 d2 : Nat) (q1 q2 : Option Addr) (has : Bool) (W : World) :
  Calls Tryz.prog 62 #[.agg #[.int .i64 5, .int .i64 op, .int .u16 v, .string nm, .slice q1 th.length d1, .slice q2 el.length d2, .bool has, .int .i64 p1, .int .i64 p2]] W fun e w' => e = .returned (.bool (usesF 5 op v nm th.isEmpty el.isEmpty has)) /\ Below W.heap.size W w' := by
 cases h_op : (op == 0)
 ·
  have E : usesF 5 op v nm (th).isEmpty (el).isEmpty has = false := by unfold usesF strc; simp [h_op]
  rw [E]
  exact ho_5_0 op v p1 p2 nm ((th).length) ((el).length) d1 d2 q1 q2 has W h_op
 ·
  cases h_v : (v == 0)
  ·
   have E : usesF 5 op v nm (th).isEmpty (el).isEmpty has = false := by unfold usesF strc; simp [h_op, h_v]
   rw [E]
   exact ho_5_1 op v p1 p2 nm ((th).length) ((el).length) d1 d2 q1 q2 has W h_op h_v
  ·
   cases h_nm : (nm.toList.isEmpty)
   ·
    have E : usesF 5 op v nm (th).isEmpty (el).isEmpty has = false := by unfold usesF strc; simp [h_op, h_v, h_nm]
    rw [E]
    exact ho_5_2 op v p1 p2 nm ((th).length) ((el).length) d1 d2 q1 q2 has W h_op h_v h_nm
   ·
    cases has
    ·
     rcases el with _ | ⟨el_a, el_r⟩
     ·
      have E : usesF 5 op v nm (th).isEmpty (([] : List Nd)).isEmpty false = true := by unfold usesF strc; simp [h_op, h_v, h_nm]
      rw [E]
      exact ho_5_5 op v p1 p2 nm ((th).length) ((([] : List Nd)).length) d1 d2 q1 q2 false W h_op h_v h_nm
     ·
      have E : usesF 5 op v nm (th).isEmpty ((el_a :: el_r)).isEmpty false = false := by unfold usesF strc; simp [h_op, h_v, h_nm]
      rw [E]
      exact ho_5_4 op v p1 p2 nm ((th).length) (el_r.length) d1 d2 q1 q2 false W h_op h_v h_nm (len_ne _)
    ·
     have E : usesF 5 op v nm (th).isEmpty (el).isEmpty true = false := by unfold usesF strc; simp [h_op, h_v, h_nm]
     rw [E]
     exact ho_5_3 op v p1 p2 nm ((th).length) ((el).length) d1 d2 q1 q2 true W h_op h_v h_nm
theorem hol_6 (op v p1 p2 : Int) (nm : ByteArray) (th el : List Nd) (d1 d2 : Nat) (q1 q2 : Option Addr) (has : Bool) (W : World) :
  Calls Tryz.prog 62 #[.agg #[.int .i64 6, .int .i64 op, .int .u16 v, .string nm, .slice q1 th.length d1, .slice q2 el.length d2, .bool has, .int .i64 p1, .int .i64 p2]] W fun e w' => e = .returned (.bool (usesF 6 op v nm th.isEmpty el.isEmpty has)) /\ Below W.heap.size W w' := by
 cases h_op : (op == 0)
 ·
  have E : usesF 6 op v nm (th).isEmpty (el).isEmpty has = false := by unfold usesF strc; simp [h_op]
  rw [E]
  exact ho_6_0 op v p1 p2 nm ((th).length) ((el).length) d1 d2 q1 q2 has W h_op
 ·
  cases h_v : (v == 0)
  ·
   have E : usesF 6 op v nm (th).isEmpty (el).isEmpty has = false := by unfold usesF strc; simp [h_op, h_v]
   rw [E]
   exact ho_6_1 op v p1 p2 nm ((th).length) ((el).length) d1 d2 q1 q2 has W h_op h_v
  ·
   cases h_nm : (nm.toList.isEmpty)
   ·
    have E : usesF 6 op v nm (th).isEmpty (el).isEmpty has = false := by unfold usesF strc; simp [h_op, h_v, h_nm]
    rw [E]
    exact ho_6_2 op v p1 p2 nm ((th).length) ((el).length) d1 d2 q1 q2 has W h_op h_v h_nm
   ·
    cases has
    ·
     have E : usesF 6 op v nm (th).isEmpty (el).isEmpty false = true := by unfold usesF strc; simp [h_op, h_v, h_nm]
     rw [E]
     exact ho_6_4 op v p1 p2 nm ((th).length) ((el).length) d1 d2 q1 q2 false W h_op h_v h_nm
    ·
     have E : usesF 6 op v nm (th).isEmpty (el).isEmpty true = false := by unfold usesF strc; simp [h_op, h_v, h_nm]
     rw [E]
     exact ho_6_3 op v p1 p2 nm ((th).length) ((el).length) d1 d2 q1 q2 true W h_op h_v h_nm
theorem hol_7 (op v p1 p2 : Int) (nm : ByteArray) (th el : List Nd) (d1 d2 : Nat) (q1 q2 : Option Addr) (has : Bool) (W : World) :
  Calls Tryz.prog 62 #[.agg #[.int .i64 7, .int .i64 op, .int .u16 v, .string nm, .slice q1 th.length d1, .slice q2 el.length d2, .bool has, .int .i64 p1, .int .i64 p2]] W fun e w' => e = .returned (.bool (usesF 7 op v nm th.isEmpty el.isEmpty has)) /\ Below W.heap.size W w' := by
 cases h_op : (op == 0)
 ·
  have E : usesF 7 op v nm (th).isEmpty (el).isEmpty has = false := by unfold usesF strc; simp [h_op]
  rw [E]
  exact ho_7_0 op v p1 p2 nm ((th).length) ((el).length) d1 d2 q1 q2 has W h_op
 ·
  cases h_v : (v == 0)
  ·
   have E : usesF 7 op v nm (th).isEmpty (el).isEmpty has = false := by unfold usesF strc; simp [h_op, h_v]
   rw [E]
   exact ho_7_1 op v p1 p2 nm ((th).length) ((el).length) d1 d2 q1 q2 has W h_op h_v
  ·
   cases h_nm : (nm.toList.isEmpty)
   ·
    have E : usesF 7 op v nm (th).isEmpty (el).isEmpty has = false := by unfold usesF strc; simp [h_op, h_v, h_nm]
    rw [E]
    exact ho_7_2 op v p1 p2 nm ((th).length) ((el).length) d1 d2 q1 q2 has W h_op h_v h_nm
   ·
    cases has
    ·
     rcases el with _ | ⟨el_a, el_r⟩
     ·
      have E : usesF 7 op v nm (th).isEmpty (([] : List Nd)).isEmpty false = true := by unfold usesF strc; simp [h_op, h_v, h_nm]
      rw [E]
      exact ho_7_5 op v p1 p2 nm ((th).length) ((([] : List Nd)).length) d1 d2 q1 q2 false W h_op h_v h_nm
     ·
      have E : usesF 7 op v nm (th).isEmpty ((el_a :: el_r)).isEmpty false = false := by unfold usesF strc; simp [h_op, h_v, h_nm]
      rw [E]
      exact ho_7_4 op v p1 p2 nm ((th).length) (el_r.length) d1 d2 q1 q2 false W h_op h_v h_nm (len_ne _)
    ·
     have E : usesF 7 op v nm (th).isEmpty (el).isEmpty true = false := by unfold usesF strc; simp [h_op, h_v, h_nm]
     rw [E]
     exact ho_7_3 op v p1 p2 nm ((th).length) ((el).length) d1 d2 q1 q2 true W h_op h_v h_nm
theorem hol_8 (op v p1 p2 : Int) (nm : ByteArray) (th el : List Nd) (d1 d2 : Nat) (q1 q2 : Option Addr) (has : Bool) (W : World) :
  Calls Tryz.prog 62 #[.agg #[.int .i64 8, .int .i64 op, .int .u16 v, .string nm, .slice q1 th.length d1, .slice q2 el.length d2, .bool has, .int .i64 p1, .int .i64 p2]] W fun e w' => e = .returned (.bool (usesF 8 op v nm th.isEmpty el.isEmpty has)) /\ Below W.heap.size W w' := by
 cases h_op : (op == 0)
 ·
  have E : usesF 8 op v nm (th).isEmpty (el).isEmpty has = false := by unfold usesF strc; simp [h_op]
  rw [E]
  exact ho_8_0 op v p1 p2 nm ((th).length) ((el).length) d1 d2 q1 q2 has W h_op
 ·
  cases h_v : (v == 0)
  ·
   have E : usesF 8 op v nm (th).isEmpty (el).isEmpty has = false := by unfold usesF strc; simp [h_op, h_v]
   rw [E]
   exact ho_8_1 op v p1 p2 nm ((th).length) ((el).length) d1 d2 q1 q2 has W h_op h_v
  ·
   cases h_nm : (nm.toList.isEmpty)
   ·
    have E : usesF 8 op v nm (th).isEmpty (el).isEmpty has = false := by unfold usesF strc; simp [h_op, h_v, h_nm]
    rw [E]
    exact ho_8_2 op v p1 p2 nm ((th).length) ((el).length) d1 d2 q1 q2 has W h_op h_v h_nm
   ·
    cases has
    ·
     rcases el with _ | ⟨el_a, el_r⟩
     ·
      have E : usesF 8 op v nm (th).isEmpty (([] : List Nd)).isEmpty false = true := by unfold usesF strc; simp [h_op, h_v, h_nm]
      rw [E]
      exact ho_8_5 op v p1 p2 nm ((th).length) ((([] : List Nd)).length) d1 d2 q1 q2 false W h_op h_v h_nm
     ·
      have E : usesF 8 op v nm (th).isEmpty ((el_a :: el_r)).isEmpty false = false := by unfold usesF strc; simp [h_op, h_v, h_nm]
      rw [E]
      exact ho_8_4 op v p1 p2 nm ((th).length) (el_r.length) d1 d2 q1 q2 false W h_op h_v h_nm (len_ne _)
    ·
     have E : usesF 8 op v nm (th).isEmpty (el).isEmpty true = false := by unfold usesF strc; simp [h_op, h_v, h_nm]
     rw [E]
     exact ho_8_3 op v p1 p2 nm ((th).length) ((el).length) d1 d2 q1 q2 true W h_op h_v h_nm
theorem hol_9 (op v p1 p2 : Int) (nm : ByteArray) (th el : List Nd) (d1 d2 : Nat) (q1 q2 : Option Addr) (has : Bool) (W : World) :
  Calls Tryz.prog 62 #[.agg #[.int .i64 9, .int .i64 op, .int .u16 v, .string nm, .slice q1 th.length d1, .slice q2 el.length d2, .bool has, .int .i64 p1, .int .i64 p2]] W fun e w' => e = .returned (.bool (usesF 9 op v nm th.isEmpty el.isEmpty has)) /\ Below W.heap.size W w' := by
 cases h_op : (op == 0)
 ·
  have E : usesF 9 op v nm (th).isEmpty (el).isEmpty has = false := by unfold usesF strc; simp [h_op]
  rw [E]
  exact ho_9_0 op v p1 p2 nm ((th).length) ((el).length) d1 d2 q1 q2 has W h_op
 ·
  cases h_v : (v == 0)
  ·
   have E : usesF 9 op v nm (th).isEmpty (el).isEmpty has = false := by unfold usesF strc; simp [h_op, h_v]
   rw [E]
   exact ho_9_1 op v p1 p2 nm ((th).length) ((el).length) d1 d2 q1 q2 has W h_op h_v
  ·
   cases h_nm : (nm.toList.isEmpty)
   ·
    have E : usesF 9 op v nm (th).isEmpty (el).isEmpty has = false := by unfold usesF strc; simp [h_op, h_v, h_nm]
    rw [E]
    exact ho_9_2 op v p1 p2 nm ((th).length) ((el).length) d1 d2 q1 q2 has W h_op h_v h_nm
   ·
    cases has
    ·
     rcases th with _ | ⟨th_a, th_r⟩
     ·
      rcases el with _ | ⟨el_a, el_r⟩
      ·
       have E : usesF 9 op v nm (([] : List Nd)).isEmpty (([] : List Nd)).isEmpty false = true := by unfold usesF strc; simp [h_op, h_v, h_nm]
       rw [E]
       exact ho_9_6 op v p1 p2 nm ((([] : List Nd)).length) ((([] : List Nd)).length) d1 d2 q1 q2 false W h_op h_v h_nm
      ·
       have E : usesF 9 op v nm (([] : List Nd)).isEmpty ((el_a :: el_r)).isEmpty false = false := by unfold usesF strc; simp [h_op, h_v, h_nm]
       rw [E]
       exact ho_9_5 op v p1 p2 nm ((([] : List Nd)).length) (el_r.length) d1 d2 q1 q2 false W h_op h_v h_nm (len_ne _)
     ·
      have E : usesF 9 op v nm ((th_a :: th_r)).isEmpty (el).isEmpty false = false := by unfold usesF strc; simp [h_op, h_v, h_nm]
      rw [E]
      exact ho_9_4 op v p1 p2 nm (th_r.length) ((el).length) d1 d2 q1 q2 false W h_op h_v h_nm (len_ne _)
    ·
     have E : usesF 9 op v nm (th).isEmpty (el).isEmpty true = false := by unfold usesF strc; simp [h_op, h_v, h_nm]
     rw [E]
     exact ho_9_3 op v p1 p2 nm ((th).length) ((el).length) d1 d2 q1 q2 true W h_op h_v h_nm
theorem hollow_any (n : Nd) (h1 : 1 <= n.k) (h9 : n.k <= 9) (d1 d2 : Nat) (q1 q2 : Option Addr) (W : World) :
  Calls Tryz.prog 62 #[.agg (ndc n (.slice q1 n.th.length d1) (.slice q2 n.el.length d2)).toArray] W fun e w' => e = .returned (.bool (uses n)) /\ Below W.heap.size W w' := by
 obtain ⟨k, op, v, nm, th, el, has, p⟩ := n
 unfold ndc uses
 simp only at h1 h9 ⊢
 by_cases c1 : k = 1
 ·subst c1; exact hol_1 op v p.1 p.2 nm th el d1 d2 q1 q2 has W
 by_cases c2 : k = 2
 ·subst c2; exact hol_2 op v p.1 p.2 nm th el d1 d2 q1 q2 has W
 by_cases c3 : k = 3
 ·subst c3; exact hol_3 op v p.1 p.2 nm th el d1 d2 q1 q2 has W
 by_cases c4 : k = 4
 ·subst c4; cases has
  ·exact hol_4f op v p.1 p.2 nm th el d1 d2 q1 q2 false W
  ·exact hol_4t op v p.1 p.2 nm th el d1 d2 q1 q2 true W
 by_cases c5 : k = 5
 ·subst c5; exact hol_5 op v p.1 p.2 nm th el d1 d2 q1 q2 has W
 by_cases c6 : k = 6
 ·subst c6; exact hol_6 op v p.1 p.2 nm th el d1 d2 q1 q2 has W
 by_cases c7 : k = 7
 ·subst c7; exact hol_7 op v p.1 p.2 nm th el d1 d2 q1 q2 has W
 by_cases c8 : k = 8
 ·subst c8; exact hol_8 op v p.1 p.2 nm th el d1 d2 q1 q2 has W
 by_cases c9 : k = 9
 ·subst c9; exact hol_9 op v p.1 p.2 nm th el d1 d2 q1 q2 has W
 omega
open Go.Proofs.YtlilefhmohkfkaaGreatDoor.Y (Nd Df Ps ndc dfc hid NV DV D1 cells6 cells9 BV)
open R (ck cks cks_take_succ cks_stop)
set_option linter.unusedVariables false
set_option linter.unusedSimpArgs false
set_option maxHeartbeats 2000000
set_option maxRecDepth 100000
def CV (names : List ByteArray) (n : Nd) : Prop := ∀ (tv ev nv : Value) (O : Nat -> Prop) (i : Nat × Bool) (W : World), (∀ j, O j -> j < W.heap.size) -> NV W O tv n.th -> NV W O ev n.el -> SV W nv names -> i.1 <= 32 ->
  Calls Tryz.prog 53 #[.agg (ndc n tv ev).toArray, nv, .int .i64 (i.1 : Int), .bool i.2] W fun e w' => e = .returned (.int .i64 (ck names n i)) /\ Below W.heap.size W w'
theorem nodes_of (names : List ByteArray) (l : List Nd) (hn : ∀ m ∈ l, CV names m) (v nv : Value) (O : Nat -> Prop) (i : Nat × Bool) (W : World) (hO : ∀ j, O j -> j < W.heap.size) (h : NV W O v l) (hS : SV W nv names) (hi : i.1 <= 32 \/ l = []) :
  Calls Tryz.prog 41 #[v, nv, .int .i64 (i.1 : Int), .bool i.2] W fun e w' => e = .returned (.int .i64 (cks names l i)) /\ Below W.heap.size W w' := by
 obtain ⟨p, c, rfl, hl, hp⟩ := h.ex
 clear h
 obtain ⟨dp, dO⟩ := i
 obtain ⟨np, nc, rfl, _, _⟩ := id hS
 have HS := hid hS
 clear hS
 simp only at hi ⊢
 go_enter Tryz.func41, Tryz.ntmps41
 go_wp2
 go_loopw [9] (fun ix wr => ∃ k : Nat, k <= l.length /\ ix = .int .i64 (k : Int) /\ Below W.heap.size W wr /\ cks names (l.take k) (dp, dO) = 0) (fun ix _ => l.length - (intOf ix).toNat)
 case atStart => exact ⟨0, by omega, rfl, Below.refl _ _, rfl⟩
 case round =>
  obtain ⟨k, hk, rfl, hb, hz⟩ := hrel
  by_cases hlt : k < l.length
  ·have i1 : (k : Int) < l.length := by omega
   have ea := List.getElem?_eq_getElem hlt
   have hm := hn l[k] (List.getElem_mem _)
   generalize l[k] = n at *
   obtain ⟨b, o, rfl, hOb, hN⟩ := hp k n ea
   obtain ⟨tv, ev, hc, ht, he⟩ := hN.ex
   obtain ⟨q1, d1, rfl, _, _⟩ := ht.ex
   obtain ⟨q2, d2, rfl, _, _⟩ := he.ex
   have k1 := hb.block b (hO b hOb)
   obtain ⟨g0, g1, g2, g3, g4, g5, g6, g7, g8⟩ := cells9 fun j x hx => (World.cell?_of_block (w := W) (a := ⟨b, o + k * 9 + j, none⟩) k1).trans (hc j x hx)
   have hle : dp <= 32 := by
    rcases hi with h | h
    ·exact h
    ·rw [h] at hlt; simp at hlt
   have hcall := hm _ _ _ O (dp, dO) wr (fun j hj => Nat.lt_of_lt_of_le (hO j hj) hb.size) (ht.below hb hO) (he.below hb hO) (HS.out.below hb) hle
   unfold ndc at hcall
   simp only at hcall
   have HT := hid (cks_take_succ names l k n (dp, dO) ea hz)
   have HST := hid (cks_stop names l (k + 1) (dp, dO))
   have HB := hid hb
   clear hp hm hn hc ht he hN k1 ea hz hb hi hle hO
   generalize hy : ck names n (dp, dO) = y at *
   clear hy
   go_wp2_with fail
   refine hcall.mono ?_
   rintro e w2 ⟨rfl, hb2⟩
   have HB2 := hid (HB.out.trans (hb2.mono HB.out.size))
   clear hcall hb2 g0 g1 g2 g3 g4 g5 g6 g7 g8
   by_cases h0 : y = 0
   ·subst h0
    go_wp2
    go_roundw
    case rel =>
     first
      | exact ⟨k + 1, by omega, by go_num, HB2.out, HT.out⟩
      | ((repeat apply Exists.intro); refine ⟨⟨k + 1, by omega, ?_, HB2.out, HT.out⟩, rfl⟩; go_num)
    case measure => simp [intOf]; omega
   ·have hne : (y != 0) = true := by simpa using h0
    have HY := hid h0
    go_wp2
    go_ret
    exact ⟨by rw [HST.out (by rw [HT.out]; exact HY.out), HT.out]; rfl, HB2.out⟩
  ·have i1 : ¬ (k : Int) < l.length := by omega
   rw [List.take_of_length_le (by omega)] at hz
   have HZ := hid hz
   clear hz
   go_wp2
   go_ret
   exact ⟨by rw [HZ.out]; rfl, hb⟩
open R (ck cks ck_is own1 inn uses usesF strc fits own1_of uses_nil box_node nm_some nm_none)
set_option linter.unusedVariables false
set_option linter.unusedSimpArgs false
set_option maxHeartbeats 2000000
set_option maxRecDepth 100000
theorem of_b (op : Int) (w : World) : Calls Tryz.prog 63 #[.int .i64 op] w fun e w' => ∃ (a0 : Int) (a1 : ByteArray) (a2 a3 a4 : Int) (a5 : Bool) (er : Int), e = .returned (.tuple #[.agg #[.int .i64 a0, .string a1, .int .i64 a2, .int .i64 a3, .int .i64 a4, .bool a5], .int .i64 er]) /\ ((er == 0) && !a1.toList.isEmpty) = (decide (9 <= op) && decide (op <= 63)) /\ Below w.heap.size w w' := by
  by_cases h : op < 1 \/ 64 <= op
  · refine (Q.rof_no op h w).mono fun e w' ⟨he, hb⟩ => ⟨_, _, _, _, _, _, _, he, ?_, hb⟩
    have : ¬ (9 <= op /\ op <= 63) := by omega
    rw [<- Bool.decide_and, decide_eq_false this]
    rfl
  · obtain ⟨x, rfl⟩ : ∃ x : Nat, op = x := ⟨op.toNat, by omega⟩
    refine (Q.rof_at x (by omega) (by omega) w).mono fun e w' ⟨he, hb⟩ => ⟨_, _, _, _, _, _, _, he, ?_, hb⟩
    by_cases h9 : 9 <= x
    · rw [nm_some x h9 (by omega), <- Bool.decide_and, decide_eq_true (by omega)]; rfl
    · rw [nm_none x (by omega), <- Bool.decide_and, decide_eq_false (by omega)]; rfl
theorem uses_rng (n : Nd) (h : uses n = true) : 1 <= n.k /\ n.k <= 9 := by
  unfold uses usesF at h
  simp only [Bool.and_eq_true, decide_eq_true_eq] at h
  exact ⟨h.1, h.2.1⟩
theorem nd_100 (names : List ByteArray) (n : Nd) (q1 q2 np : Option Addr) (d1 d2 nc : Nat) (dp : Nat) (dO : Bool) (W : World) (h1 : uses n = false) :
    Calls Tryz.prog 53 #[.agg #[.int .i64 n.k, .int .i64 n.op, .int .u16 n.v, .string n.nm, .slice q1 n.th.length d1, .slice q2 n.el.length d2, .bool n.has, .int .i64 n.p.1, .int .i64 n.p.2], .slice np names.length nc, .int .i64 (dp : Int), .bool dO] W fun e w' => e = .returned (.int .i64 100) /\ Below W.heap.size W w' := by
  obtain ⟨W1, hW1, hB, v1⟩ := box_node n (.slice q1 n.th.length d1) (.slice q2 n.el.length d2) W
  obtain ⟨x0, x1, x2, x3, x4, x5, x6, x7, x8⟩ := cells9 (b := W.heap.size) (o := 0) fun j x hx => by rw [Nat.zero_add]; exact S.cell_of W1 _ j _ 30 x v1 hx
  simp only [Nat.zero_add] at x1 x2 x3 x4 x5 x6 x7 x8
  have HB := hid hB
  clear v1 hB
  by_cases c1 : 1 <= n.k
  · have b1 : decide (1 <= n.k) = true := decide_eq_true c1
    by_cases c9 : n.k <= 9
    · have b9 : decide (n.k <= 9) = true := decide_eq_true c9
      have hc := hollow_any n c1 c9 d1 d2 q1 q2 W1
      rw [h1] at hc
      unfold ndc at hc
      go_enter Tryz.func53, Tryz.ntmps53
      go_wp2_with fail
      refine hc.mono ?_
      rintro e w2 ⟨rfl, hb2⟩
      have HB2 := hid (HB.out.trans (hb2.mono HB.out.size))
      clear hc hb2
      go_wp2
      go_ret
      exact ⟨rfl, HB2.out⟩
    · have b9 : decide (n.k <= 9) = false := decide_eq_false c9
      go_enter Tryz.func53, Tryz.ntmps53
      go_wp2
      go_ret
      exact ⟨rfl, HB.out⟩
  · have b1 : decide (1 <= n.k) = false := decide_eq_false c1
    go_enter Tryz.func53, Tryz.ntmps53
    go_wp2
    go_ret
    exact ⟨rfl, HB.out⟩
theorem nd9 {w : World} {b : Nat} {n : Nd} {tv ev : Value} (v : w.heap[b]? = some (.cells (ndc n tv ev).toArray 30 (0, 0))) : w.cell? ⟨b, 0, none⟩ = some (.int .i64 n.k) /\ w.cell? ⟨b, 1, none⟩ = some (.int .i64 n.op) /\ w.cell? ⟨b, 2, none⟩ = some (.int .u16 n.v) /\ w.cell? ⟨b, 3, none⟩ = some (.string n.nm) /\ w.cell? ⟨b, 4, none⟩ = some tv /\ w.cell? ⟨b, 5, none⟩ = some ev /\ w.cell? ⟨b, 6, none⟩ = some (.bool n.has) /\ w.cell? ⟨b, 7, none⟩ = some (.int .i64 n.p.1) /\ w.cell? ⟨b, 8, none⟩ = some (.int .i64 n.p.2) :=
  ⟨S.cell_of w b 0 _ 30 _ v rfl, S.cell_of w b 1 _ 30 _ v rfl, S.cell_of w b 2 _ 30 _ v rfl, S.cell_of w b 3 _ 30 _ v rfl, S.cell_of w b 4 _ 30 _ v rfl, S.cell_of w b 5 _ 30 _ v rfl, S.cell_of w b 6 _ 30 _ v rfl, S.cell_of w b 7 _ 30 _ v rfl, S.cell_of w b 8 _ 30 _ v rfl⟩
theorem nd_2 (names : List ByteArray) (n : Nd) (q1 q2 np : Option Addr) (d1 d2 nc : Nat) (dp : Nat) (dO : Bool) (W : World) (h1 : uses n = true) (hk : n.k = 2) :
    Calls Tryz.prog 53 #[.agg #[.int .i64 n.k, .int .i64 n.op, .int .u16 n.v, .string n.nm, .slice q1 n.th.length d1, .slice q2 n.el.length d2, .bool n.has, .int .i64 n.p.1, .int .i64 n.p.2], .slice np names.length nc, .int .i64 (dp : Int), .bool dO] W fun e w' => e = .returned (.int .i64 0) /\ Below W.heap.size W w' := by
  have HK := hid hk
  clear hk
  obtain ⟨c1, c9⟩ := uses_rng n h1
  obtain ⟨W1, hW1, hB, v1⟩ := box_node n (.slice q1 n.th.length d1) (.slice q2 n.el.length d2) W
  obtain ⟨x0, x1, x2, x3, x4, x5, x6, x7, x8⟩ := nd9 v1
  have HB := hid hB
  have HV := hid v1
  have hc := hollow_any n c1 c9 d1 d2 q1 q2 W1
  rw [h1] at hc
  unfold ndc at hc
  have b1 : decide (1 <= n.k) = true := decide_eq_true c1
  have b9 : decide (n.k <= 9) = true := decide_eq_true c9
  clear v1 hB
  go_enter Tryz.func53, Tryz.ntmps53
  go_wp2_with fail
  refine hc.mono ?_
  rintro e w2 ⟨rfl, hb2⟩
  have HB2 := hid (HB.out.trans (hb2.mono HB.out.size))
  have v2 := (hb2.block _ (S.lt_of HV.out)).trans HV.out
  have HV2 := hid v2
  clear hc hb2 x0 x1 x2 x3 x4 x5 x6 x7 x8 hW1
  obtain ⟨x0, x1, x2, x3, x4, x5, x6, x7, x8⟩ := nd9 v2
  clear v2 c1 c9 b1 b9 h1
  rw [HK.out] at x0
  go_wp2
  go_ret
  exact ⟨rfl, HB2.out⟩
theorem nd_9a (names : List ByteArray) (n : Nd) (q1 q2 np : Option Addr) (d1 d2 nc : Nat) (dp : Nat) (dO : Bool) (W : World) (h1 : uses n = true) (hk : n.k = 9) (hd : dO = true) :
    Calls Tryz.prog 53 #[.agg #[.int .i64 n.k, .int .i64 n.op, .int .u16 n.v, .string n.nm, .slice q1 n.th.length d1, .slice q2 n.el.length d2, .bool n.has, .int .i64 n.p.1, .int .i64 n.p.2], .slice np names.length nc, .int .i64 (dp : Int), .bool dO] W fun e w' => e = .returned (.int .i64 108) /\ Below W.heap.size W w' := by
  have HK := hid hk
  clear hk
  obtain ⟨c1, c9⟩ := uses_rng n h1
  obtain ⟨W1, hW1, hB, v1⟩ := box_node n (.slice q1 n.th.length d1) (.slice q2 n.el.length d2) W
  obtain ⟨x0, x1, x2, x3, x4, x5, x6, x7, x8⟩ := nd9 v1
  have HB := hid hB
  have HV := hid v1
  have hc := hollow_any n c1 c9 d1 d2 q1 q2 W1
  rw [h1] at hc
  unfold ndc at hc
  have b1 : decide (1 <= n.k) = true := decide_eq_true c1
  have b9 : decide (n.k <= 9) = true := decide_eq_true c9
  clear v1 hB
  go_enter Tryz.func53, Tryz.ntmps53
  go_wp2_with fail
  refine hc.mono ?_
  rintro e w2 ⟨rfl, hb2⟩
  have HB2 := hid (HB.out.trans (hb2.mono HB.out.size))
  have v2 := (hb2.block _ (S.lt_of HV.out)).trans HV.out
  have HV2 := hid v2
  clear hc hb2 x0 x1 x2 x3 x4 x5 x6 x7 x8 hW1
  obtain ⟨x0, x1, x2, x3, x4, x5, x6, x7, x8⟩ := nd9 v2
  clear v2 c1 c9 b1 b9 h1
  rw [HK.out] at x0
  subst hd
  go_wp2
  go_ret
  exact ⟨rfl, HB2.out⟩
theorem nd_9b (names : List ByteArray) (n : Nd) (q1 q2 np : Option Addr) (d1 d2 nc : Nat) (dp : Nat) (dO : Bool) (W : World) (h1 : uses n = true) (hk : n.k = 9) (hd : dO = false) :
    Calls Tryz.prog 53 #[.agg #[.int .i64 n.k, .int .i64 n.op, .int .u16 n.v, .string n.nm, .slice q1 n.th.length d1, .slice q2 n.el.length d2, .bool n.has, .int .i64 n.p.1, .int .i64 n.p.2], .slice np names.length nc, .int .i64 (dp : Int), .bool dO] W fun e w' => e = .returned (.int .i64 0) /\ Below W.heap.size W w' := by
  have HK := hid hk
  clear hk
  obtain ⟨c1, c9⟩ := uses_rng n h1
  obtain ⟨W1, hW1, hB, v1⟩ := box_node n (.slice q1 n.th.length d1) (.slice q2 n.el.length d2) W
  obtain ⟨x0, x1, x2, x3, x4, x5, x6, x7, x8⟩ := nd9 v1
  have HB := hid hB
  have HV := hid v1
  have hc := hollow_any n c1 c9 d1 d2 q1 q2 W1
  rw [h1] at hc
  unfold ndc at hc
  have b1 : decide (1 <= n.k) = true := decide_eq_true c1
  have b9 : decide (n.k <= 9) = true := decide_eq_true c9
  clear v1 hB
  go_enter Tryz.func53, Tryz.ntmps53
  go_wp2_with fail
  refine hc.mono ?_
  rintro e w2 ⟨rfl, hb2⟩
  have HB2 := hid (HB.out.trans (hb2.mono HB.out.size))
  have v2 := (hb2.block _ (S.lt_of HV.out)).trans HV.out
  have HV2 := hid v2
  clear hc hb2 x0 x1 x2 x3 x4 x5 x6 x7 x8 hW1
  obtain ⟨x0, x1, x2, x3, x4, x5, x6, x7, x8⟩ := nd9 v2
  clear v2 c1 c9 b1 b9 h1
  rw [HK.out] at x0
  subst hd
  go_wp2
  go_ret
  exact ⟨rfl, HB2.out⟩
theorem nd_3 (names : List ByteArray) (n : Nd) (q1 q2 np : Option Addr) (d1 d2 nc : Nat) (dp : Nat) (dO : Bool) (W : World) (h1 : uses n = true) (hk : n.k = 3) (hS : SV W (.slice np names.length nc) names) (R : Int) (hR : R = if inN names n.nm = true then 0 else 103) :
    Calls Tryz.prog 53 #[.agg #[.int .i64 n.k, .int .i64 n.op, .int .u16 n.v, .string n.nm, .slice q1 n.th.length d1, .slice q2 n.el.length d2, .bool n.has, .int .i64 n.p.1, .int .i64 n.p.2], .slice np names.length nc, .int .i64 (dp : Int), .bool dO] W fun e w' => e = .returned (.int .i64 R) /\ Below W.heap.size W w' := by
  have HK := hid hk
  clear hk
  have HR := hid hR
  clear hR
  obtain ⟨c1, c9⟩ := uses_rng n h1
  obtain ⟨W1, hW1, hB, v1⟩ := box_node n (.slice q1 n.th.length d1) (.slice q2 n.el.length d2) W
  obtain ⟨x0, x1, x2, x3, x4, x5, x6, x7, x8⟩ := nd9 v1
  have HB := hid hB
  have HV := hid v1
  have hc := hollow_any n c1 c9 d1 d2 q1 q2 W1
  rw [h1] at hc
  unfold ndc at hc
  have b1 : decide (1 <= n.k) = true := decide_eq_true c1
  have b9 : decide (n.k <= 9) = true := decide_eq_true c9
  clear v1 hB
  go_enter Tryz.func53, Tryz.ntmps53
  go_wp2_with fail
  refine hc.mono ?_
  rintro e w2 ⟨rfl, hb2⟩
  have HB2 := hid (HB.out.trans (hb2.mono HB.out.size))
  have v2 := (hb2.block _ (S.lt_of HV.out)).trans HV.out
  have HV2 := hid v2
  clear hc hb2 x0 x1 x2 x3 x4 x5 x6 x7 x8 hW1
  obtain ⟨x0, x1, x2, x3, x4, x5, x6, x7, x8⟩ := nd9 v2
  clear v2 c1 c9 b1 b9 h1
  rw [HK.out] at x0
  have hi := in_any names n.nm _ w2 (hS.below HB2.out)
  clear hS
  generalize hy : inN names n.nm = y at *
  have HY : Y.Hd (R = if y = true then 0 else 103) := ⟨HR.out⟩
  clear hy HR
  go_wp2_with fail
  refine hi.mono ?_
  rintro e w3 ⟨rfl, hb3⟩
  have HB3 := hid (HB2.out.trans (hb3.mono HB2.out.size))
  clear hi hb3 x0 x1 x2 x3 x4 x5 x6 x7 x8
  cases y
  · go_wp2
    go_ret
    exact ⟨by rw [HY.out]; rfl, HB3.out⟩
  · go_wp2
    go_ret
    exact ⟨by rw [HY.out]; rfl, HB3.out⟩
theorem nd_1 (names : List ByteArray) (n : Nd) (q1 q2 np : Option Addr) (d1 d2 nc : Nat) (dp : Nat) (dO : Bool) (W : World) (h1 : uses n = true) (hk : n.k = 1) (R : Int) (hR : R = if (decide (9 <= n.op) && decide (n.op <= 63)) = true then 0 else 103) :
    Calls Tryz.prog 53 #[.agg #[.int .i64 n.k, .int .i64 n.op, .int .u16 n.v, .string n.nm, .slice q1 n.th.length d1, .slice q2 n.el.length d2, .bool n.has, .int .i64 n.p.1, .int .i64 n.p.2], .slice np names.length nc, .int .i64 (dp : Int), .bool dO] W fun e w' => e = .returned (.int .i64 R) /\ Below W.heap.size W w' := by
  have HK := hid hk
  clear hk
  have HR := hid hR
  clear hR
  obtain ⟨c1, c9⟩ := uses_rng n h1
  obtain ⟨W1, hW1, hB, v1⟩ := box_node n (.slice q1 n.th.length d1) (.slice q2 n.el.length d2) W
  obtain ⟨x0, x1, x2, x3, x4, x5, x6, x7, x8⟩ := nd9 v1
  have HB := hid hB
  have HV := hid v1
  have hc := hollow_any n c1 c9 d1 d2 q1 q2 W1
  rw [h1] at hc
  unfold ndc at hc
  have b1 : decide (1 <= n.k) = true := decide_eq_true c1
  have b9 : decide (n.k <= 9) = true := decide_eq_true c9
  clear v1 hB
  go_enter Tryz.func53, Tryz.ntmps53
  go_wp2_with fail
  refine hc.mono ?_
  rintro e w2 ⟨rfl, hb2⟩
  have HB2 := hid (HB.out.trans (hb2.mono HB.out.size))
  have v2 := (hb2.block _ (S.lt_of HV.out)).trans HV.out
  have HV2 := hid v2
  clear hc hb2 x0 x1 x2 x3 x4 x5 x6 x7 x8 hW1
  obtain ⟨x0, x1, x2, x3, x4, x5, x6, x7, x8⟩ := nd9 v2
  clear v2 c1 c9 b1 b9 h1
  rw [HK.out] at x0
  have hi := of_b n.op w2
  generalize hy : (decide (9 <= n.op) && decide (n.op <= 63)) = y at *
  have HY : Y.Hd (R = if y = true then 0 else 103) := ⟨HR.out⟩
  clear hy HR
  go_wp2_with fail
  refine hi.mono ?_
  rintro e w3 ⟨a0, a1, a2, a3, a4, a5, er, rfl, hq, hb3⟩
  have HB3 := hid (HB2.out.trans (hb3.mono HB2.out.size))
  clear hi hb3 x0 x1 x2 x3 x4 x5 x6 x7 x8
  obtain ⟨W4, hW4⟩ : ∃ W4, w3.alloc (.cells #[.int .i64 a0, .string a1, .int .i64 a2, .int .i64 a3, .int .i64 a4, .bool a5] 119) = W4 := ⟨_, rfl⟩
  have HB4 := hid (show Below W.heap.size W W4 by rw [<- hW4]; exact HB3.out.alloc HB3.out.size _)
  have v4 : W4.heap[w3.heap.size]? = some (.cells [.int .i64 a0, .string a1, .int .i64 a2, .int .i64 a3, .int .i64 a4, .bool a5].toArray 119 (0, 0)) := by rw [<- hW4]; exact heap_alloc_new w3 _
  have y1 := S.cell_of W4 _ 1 _ 119 _ v4 rfl
  clear v4
  by_cases e0 : er = 0
  · subst e0
    by_cases e1 : a1.toList = []
    · have e1' : a1.toList.isEmpty = true := by simpa using e1
      have HY0 : Y.Hd (y = false) := ⟨by rw [<- hq, e1']; rfl⟩
      clear hq
      go_wp2
      go_ret
      exact ⟨by rw [HY.out, HY0.out]; rfl, HB4.out⟩
    · have e1' : a1.toList.isEmpty = false := by simpa using e1
      have HY0 : Y.Hd (y = true) := ⟨by rw [<- hq, e1']; rfl⟩
      clear hq
      go_wp2
      go_ret
      exact ⟨by rw [HY.out, HY0.out]; rfl, HB4.out⟩
  · have e0' : (er == 0) = false := by simpa using e0
    have HY0 : Y.Hd (y = false) := ⟨by rw [<- hq, e0']; rfl⟩
    clear hq
    go_wp2
    go_ret
    exact ⟨by rw [HY.out, HY0.out]; rfl, HB4.out⟩
theorem nd_109 (names : List ByteArray) (n : Nd) (q1 q2 np : Option Addr) (d1 d2 nc : Nat) (dp : Nat) (dO : Bool) (W : World) (h1 : uses n = true) (hk : strc n.k = true) (hd : dp = 32) :
    Calls Tryz.prog 53 #[.agg #[.int .i64 n.k, .int .i64 n.op, .int .u16 n.v, .string n.nm, .slice q1 n.th.length d1, .slice q2 n.el.length d2, .bool n.has, .int .i64 n.p.1, .int .i64 n.p.2], .slice np names.length nc, .int .i64 (dp : Int), .bool dO] W fun e w' => e = .returned (.int .i64 109) /\ Below W.heap.size W w' := by
  have HK := hid hk
  clear hk
  obtain ⟨c1, c9⟩ := uses_rng n h1
  obtain ⟨W1, hW1, hB, v1⟩ := box_node n (.slice q1 n.th.length d1) (.slice q2 n.el.length d2) W
  obtain ⟨x0, x1, x2, x3, x4, x5, x6, x7, x8⟩ := nd9 v1
  have HB := hid hB
  have HV := hid v1
  have hc := hollow_any n c1 c9 d1 d2 q1 q2 W1
  rw [h1] at hc
  unfold ndc at hc
  have b1 : decide (1 <= n.k) = true := decide_eq_true c1
  have b9 : decide (n.k <= 9) = true := decide_eq_true c9
  clear v1 hB
  go_enter Tryz.func53, Tryz.ntmps53
  go_wp2_with fail
  refine hc.mono ?_
  rintro e w2 ⟨rfl, hb2⟩
  have HB2 := hid (HB.out.trans (hb2.mono HB.out.size))
  have v2 := (hb2.block _ (S.lt_of HV.out)).trans HV.out
  have HV2 := hid v2
  clear hc hb2 x0 x1 x2 x3 x4 x5 x6 x7 x8 hW1
  obtain ⟨x0, x1, x2, x3, x4, x5, x6, x7, x8⟩ := nd9 v2
  clear v2 c1 c9 b1 b9 h1
  have k4 : 4 <= n.k /\ n.k <= 8 := by have hk := HK.out; unfold strc at hk; simpa using hk
  have k1 : ¬ n.k = 1 := by omega
  have k2 : ¬ n.k = 2 := by omega
  have k3 : ¬ n.k = 3 := by omega
  have k9 : ¬ n.k = 9 := by omega
  subst hd
  go_wp2
  go_ret
  exact ⟨rfl, HB2.out⟩
theorem nd_s (names : List ByteArray) (n : Nd) (q1 q2 np : Option Addr) (d1 d2 nc : Nat) (dp : Nat) (dO : Bool) (W : World) (h1 : uses n = true) (hk : strc n.k = true) (hd : dp < 32) (zz : Bool) (hzz : zz = (dO || n.k == 8)) (r1 r2 R : Int) (hR : R = if r1 = 0 then r2 else r1)
    (hN1 : ∀ w, Below W.heap.size W w -> Calls Tryz.prog 41 #[.slice q1 n.th.length d1, .slice np names.length nc, .int .i64 ((dp : Int) + 1), .bool zz] w fun e w' => e = .returned (.int .i64 r1) /\ Below w.heap.size w w') (hN2 : ∀ w, Below W.heap.size W w -> Calls Tryz.prog 41 #[.slice q2 n.el.length d2, .slice np names.length nc, .int .i64 ((dp : Int) + 1), .bool zz] w fun e w' => e = .returned (.int .i64 r2) /\ Below w.heap.size w w') :
    Calls Tryz.prog 53 #[.agg #[.int .i64 n.k, .int .i64 n.op, .int .u16 n.v, .string n.nm, .slice q1 n.th.length d1, .slice q2 n.el.length d2, .bool n.has, .int .i64 n.p.1, .int .i64 n.p.2], .slice np names.length nc, .int .i64 (dp : Int), .bool dO] W fun e w' => e = .returned (.int .i64 R) /\ Below W.heap.size W w' := by
  have HK := hid hk
  clear hk
  have HR := hid hR
  clear hR
  obtain ⟨c1, c9⟩ := uses_rng n h1
  obtain ⟨W1, hW1, hB, v1⟩ := box_node n (.slice q1 n.th.length d1) (.slice q2 n.el.length d2) W
  obtain ⟨x0, x1, x2, x3, x4, x5, x6, x7, x8⟩ := nd9 v1
  have HB := hid hB
  have HV := hid v1
  have hc := hollow_any n c1 c9 d1 d2 q1 q2 W1
  rw [h1] at hc
  unfold ndc at hc
  have b1 : decide (1 <= n.k) = true := decide_eq_true c1
  have b9 : decide (n.k <= 9) = true := decide_eq_true c9
  clear v1 hB
  go_enter Tryz.func53, Tryz.ntmps53
  go_wp2_with fail
  refine hc.mono ?_
  rintro e w2 ⟨rfl, hb2⟩
  have HB2 := hid (HB.out.trans (hb2.mono HB.out.size))
  have v2 := (hb2.block _ (S.lt_of HV.out)).trans HV.out
  have HV2 := hid v2
  clear hc hb2 x0 x1 x2 x3 x4 x5 x6 x7 x8 hW1
  obtain ⟨x0, x1, x2, x3, x4, x5, x6, x7, x8⟩ := nd9 v2
  clear v2 c1 c9 b1 b9 h1
  have k4 : 4 <= n.k /\ n.k <= 8 := by have hk := HK.out; unfold strc at hk; simpa using hk
  have k1 : ¬ n.k = 1 := by omega
  have k2 : ¬ n.k = 2 := by omega
  have k3 : ¬ n.k = 3 := by omega
  have k9 : ¬ n.k = 9 := by omega
  have dd : ¬ (32 : Int) <= (dp : Int) := by omega
  have dw : IntKind.i64.wrap ((dp : Int) + 1) = (dp : Int) + 1 := S.i64_id _ (by omega) (by omega)
  cases dO
  · by_cases k8 : n.k = 8
    · have b8 : zz = true := by rw [hzz]; simpa using k8
      subst b8
      clear hzz
      go_wp2_with fail
      refine (hN1 w2 HB2.out).mono ?_
      rintro e w3 ⟨rfl, hb3⟩
      have HB3 := hid (HB2.out.trans (hb3.mono HB2.out.size))
      have v3 := (hb3.block _ (S.lt_of HV2.out)).trans HV2.out
      clear hb3 x0 x1 x2 x3 x4 x5 x6 x7 x8
      obtain ⟨x0, x1, x2, x3, x4, x5, x6, x7, x8⟩ := nd9 v3
      clear v3
      by_cases r0 : r1 = 0
      · have HR0 := hid r0
        subst r0
        go_wp2_with fail
        refine (hN2 w3 HB3.out).mono ?_
        rintro e w4 ⟨rfl, hb4⟩
        have HB4 := hid (HB3.out.trans (hb4.mono HB3.out.size))
        clear hb4 x0 x1 x2 x3 x4 x5 x6 x7 x8
        go_wp2
        go_ret
        exact ⟨(congrArg (fun z => Ending.returned (Value.int .i64 z)) (show R = r2 from HR.out.trans (by simp))).symm, HB4.out⟩
      · have HR0 := hid r0
        go_wp2
        go_ret
        exact ⟨(congrArg (fun z => Ending.returned (Value.int .i64 z)) (HR.out.trans (if_neg HR0.out))).symm, HB3.out⟩
    · have b8 : zz = false := by rw [hzz]; simpa using k8
      have b8' : (n.k == 8) = false := by simpa using k8
      subst b8
      clear hzz
      go_wp2_with fail
      refine (hN1 w2 HB2.out).mono ?_
      rintro e w3 ⟨rfl, hb3⟩
      have HB3 := hid (HB2.out.trans (hb3.mono HB2.out.size))
      have v3 := (hb3.block _ (S.lt_of HV2.out)).trans HV2.out
      clear hb3 x0 x1 x2 x3 x4 x5 x6 x7 x8
      obtain ⟨x0, x1, x2, x3, x4, x5, x6, x7, x8⟩ := nd9 v3
      clear v3
      by_cases r0 : r1 = 0
      · have HR0 := hid r0
        subst r0
        go_wp2_with fail
        refine (hN2 w3 HB3.out).mono ?_
        rintro e w4 ⟨rfl, hb4⟩
        have HB4 := hid (HB3.out.trans (hb4.mono HB3.out.size))
        clear hb4 x0 x1 x2 x3 x4 x5 x6 x7 x8
        go_wp2
        go_ret
        exact ⟨(congrArg (fun z => Ending.returned (Value.int .i64 z)) (show R = r2 from HR.out.trans (by simp))).symm, HB4.out⟩
      · have HR0 := hid r0
        go_wp2
        go_ret
        exact ⟨(congrArg (fun z => Ending.returned (Value.int .i64 z)) (HR.out.trans (if_neg HR0.out))).symm, HB3.out⟩
  · have b8 : zz = true := by rw [hzz]; simp
    subst b8
    clear hzz
    go_wp2_with fail
    refine (hN1 w2 HB2.out).mono ?_
    rintro e w3 ⟨rfl, hb3⟩
    have HB3 := hid (HB2.out.trans (hb3.mono HB2.out.size))
    have v3 := (hb3.block _ (S.lt_of HV2.out)).trans HV2.out
    clear hb3 x0 x1 x2 x3 x4 x5 x6 x7 x8
    obtain ⟨x0, x1, x2, x3, x4, x5, x6, x7, x8⟩ := nd9 v3
    clear v3
    by_cases r0 : r1 = 0
    · have HR0 := hid r0
      subst r0
      go_wp2_with fail
      refine (hN2 w3 HB3.out).mono ?_
      rintro e w4 ⟨rfl, hb4⟩
      have HB4 := hid (HB3.out.trans (hb4.mono HB3.out.size))
      clear hb4 x0 x1 x2 x3 x4 x5 x6 x7 x8
      go_wp2
      go_ret
      exact ⟨(congrArg (fun z => Ending.returned (Value.int .i64 z)) (show R = r2 from HR.out.trans (by simp))).symm, HB4.out⟩
    · have HR0 := hid r0
      go_wp2
      go_ret
      exact ⟨(congrArg (fun z => Ending.returned (Value.int .i64 z)) (HR.out.trans (if_neg HR0.out))).symm, HB3.out⟩
theorem node_of (names : List ByteArray) (n : Nd) (g1 : ∀ m ∈ n.th, CV names m) (g2 : ∀ m ∈ n.el, CV names m) : CV names n := by
  intro tv ev nv O i W hO ht he hS hi
  obtain ⟨q1, d1, rfl, _, _⟩ := ht.ex
  obtain ⟨q2, d2, rfl, _, _⟩ := he.ex
  obtain ⟨np, nc, rfl, _, _⟩ := id hS
  obtain ⟨dp, dO⟩ := i
  unfold ndc
  simp only at hi ⊢
  rw [ck_is]
  cases h1 : uses n with
  | false =>
    have E : own1 names n (dp, dO) = 100 := by unfold own1; rw [h1]; rfl
    rw [E, if_neg (by decide)]
    exact nd_100 names n q1 q2 np d1 d2 nc dp dO W h1
  | true =>
  obtain ⟨c1, c9⟩ := uses_rng n h1
  by_cases h4 : strc n.k = true
  · have k4 : 4 <= n.k /\ n.k <= 8 := by unfold strc at h4; simpa using h4
    have hf : fits names n = true := by unfold fits; rw [if_neg (by omega), if_neg (by omega)]
    by_cases h32 : dp = 32
    · have E : own1 names n (dp, dO) = 109 := by unfold own1; rw [h1, hf, if_neg (by simp), if_neg (by simp), if_neg (by omega), if_pos ⟨h4, h32⟩]
      rw [E, if_neg (by decide)]
      exact nd_109 names n q1 q2 np d1 d2 nc dp dO W h1 h4 h32
    · rw [own1_of names n (dp, dO) h1 hf (by omega) (fun c => h32 c.2), if_pos rfl]
      have hB0 : ∀ (w : World), Below W.heap.size W w -> (∀ j, O j -> j < w.heap.size) := fun w hw j hj => Nat.lt_of_lt_of_le (hO j hj) hw.size
      have e : ((inn n (dp, dO)).1 : Int) = (dp : Int) + 1 := by unfold inn; simp
      refine nd_s names n q1 q2 np d1 d2 nc dp dO W h1 h4 (by omega) _ rfl _ _ _ rfl (fun w hw => ?_) (fun w hw => ?_)
      · have := nodes_of names n.th g1 _ _ O (inn n (dp, dO)) w (hB0 w hw) (ht.below hw hO) (hS.below hw) (Or.inl (by unfold inn; simp only; omega))
        rw [e] at this
        exact this
      · have := nodes_of names n.el g2 _ _ O (inn n (dp, dO)) w (hB0 w hw) (he.below hw hO) (hS.below hw) (Or.inl (by unfold inn; simp only; omega))
        rw [e] at this
        exact this
  · have h4 : strc n.k = false := by simpa using h4
    obtain ⟨t0, e0⟩ := uses_nil n h1 h4
    have hz : ∀ i, cks names n.th i = 0 /\ cks names n.el i = 0 := fun i => by rw [t0, e0]; exact ⟨rfl, rfl⟩
    have hz2 : (if cks names n.th (inn n (dp, dO)) = 0 then cks names n.el (inn n (dp, dO)) else cks names n.th (inn n (dp, dO))) = 0 := by rw [(hz _).1, (hz _).2]; rfl
    rw [hz2]
    have hns : ¬ (4 <= n.k /\ n.k <= 8) := by intro hh; unfold strc at h4; simp [hh.1, hh.2] at h4
    have hk : n.k = 1 \/ n.k = 2 \/ n.k = 3 \/ n.k = 9 := by omega
    rcases hk with hk | hk | hk | hk
    · have E : (if own1 names n (dp, dO) = 0 then 0 else own1 names n (dp, dO)) = (if (decide (9 <= n.op) && decide (n.op <= 63)) = true then (0 : Int) else 103) := by
        unfold own1 fits
        rw [h1, h4, hk]
        cases (decide (9 <= n.op) && decide (n.op <= 63)) <;> simp
      rw [E]
      exact nd_1 names n q1 q2 np d1 d2 nc dp dO W h1 hk _ rfl
    · have E : (if own1 names n (dp, dO) = 0 then 0 else own1 names n (dp, dO)) = 0 := by
        unfold own1 fits
        rw [h1, h4, hk]
        simp
      rw [E]
      exact nd_2 names n q1 q2 np d1 d2 nc dp dO W h1 hk
    · have E : (if own1 names n (dp, dO) = 0 then 0 else own1 names n (dp, dO)) = (if inN names n.nm = true then (0 : Int) else 103) := by
        unfold own1 fits inN
        rw [h1, h4, hk]
        cases (names.any fun s => decide (s = n.nm)) <;> simp
      rw [E]
      exact nd_3 names n q1 q2 np d1 d2 nc dp dO W h1 hk hS _ rfl
    · cases dO with
      | true =>
        have E : (if own1 names n (dp, true) = 0 then 0 else own1 names n (dp, true)) = 108 := by
          unfold own1 fits
          rw [h1, h4, hk]
          simp
        rw [E]
        exact nd_9a names n q1 q2 np d1 d2 nc dp true W h1 hk rfl
      | false =>
        have E : (if own1 names n (dp, false) = 0 then 0 else own1 names n (dp, false)) = 0 := by
          unfold own1 fits
          rw [h1, h4, hk]
          simp
        rw [E]
        exact nd_9b names n q1 q2 np d1 d2 nc dp false W h1 hk rfl
theorem node_any (names : List ByteArray) (n : Nd) : CV names n := Y.Nd.ind (fun n g1 g2 => node_of names n g1 g2) n
theorem nodes_any (names : List ByteArray) (l : List Nd) (v nv : Value) (O : Nat -> Prop) (i : Nat × Bool) (W : World) (hO : ∀ j, O j -> j < W.heap.size) (h : NV W O v l) (hS : SV W nv names) (hi : i.1 <= 32) :
    Calls Tryz.prog 41 #[v, nv, .int .i64 (i.1 : Int), .bool i.2] W fun e w' => e = .returned (.int .i64 (cks names l i)) /\ Below W.heap.size W w' := nodes_of names l (fun m _ => node_any names m) v nv O i W hO h hS (Or.inl hi)
end Go.Proofs.YtlilefhmohkfkaaGreatDoor.V
