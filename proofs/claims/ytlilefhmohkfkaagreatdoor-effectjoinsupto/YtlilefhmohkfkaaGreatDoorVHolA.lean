import Derived.Test.YtlilefhmohkfkaaGreatDoorVHol
/-! wispref10.hollow. -/
namespace Go.Proofs.YtlilefhmohkfkaaGreatDoor.V
open Go.RowKit
open Go.Proofs
open Go.Proofs.YtlilefhmohkfkaaGreatDoor.Y (Nd Df Ps ndc dfc hid)
open R (usesF strc uses len_ne)
set_option linter.unusedVariables false
set_option linter.unusedSimpArgs false
set_option maxHeartbeats 2000000
set_option maxRecDepth 100000
theorem hol_1 (op v p1 p2 : Int) (nm : ByteArray) (th el : List Nd) (d1 d2 : Nat) (q1 q2 : Option Addr) (has : Bool) (W : World) :
    Calls Tryz.prog 62 #[.agg #[.int .i64 1, .int .i64 op, .int .u16 v, .string nm, .slice q1 th.length d1, .slice q2 el.length d2, .bool has, .int .i64 p1, .int .i64 p2]] W fun e w' => e = .returned (.bool (usesF 1 op v nm th.isEmpty el.isEmpty has)) ∧ Below W.heap.size W w' := by
  cases h_v : (v == 0)
  ·
    have E : usesF 1 op v nm (th).isEmpty (el).isEmpty has = false := by unfold usesF strc; simp [h_v]
    rw [E]
    exact ho_1_0 op v p1 p2 nm ((th).length) ((el).length) d1 d2 q1 q2 has W h_v
  ·
    cases h_nm : (nm.toList.isEmpty)
    ·
      have E : usesF 1 op v nm (th).isEmpty (el).isEmpty has = false := by unfold usesF strc; simp [h_v, h_nm]
      rw [E]
      exact ho_1_1 op v p1 p2 nm ((th).length) ((el).length) d1 d2 q1 q2 has W h_v h_nm
    ·
      cases has
      ·
        rcases th with _ | ⟨th_a, th_r⟩
        ·
          rcases el with _ | ⟨el_a, el_r⟩
          ·
            have E : usesF 1 op v nm (([] : List Nd)).isEmpty (([] : List Nd)).isEmpty false = true := by unfold usesF strc; simp [h_v, h_nm]
            rw [E]
            exact ho_1_5 op v p1 p2 nm ((([] : List Nd)).length) ((([] : List Nd)).length) d1 d2 q1 q2 false W h_v h_nm
          ·
            have E : usesF 1 op v nm (([] : List Nd)).isEmpty ((el_a :: el_r)).isEmpty false = false := by unfold usesF strc; simp [h_v, h_nm]
            rw [E]
            exact ho_1_4 op v p1 p2 nm ((([] : List Nd)).length) (el_r.length) d1 d2 q1 q2 false W h_v h_nm (len_ne _)
        ·
          have E : usesF 1 op v nm ((th_a :: th_r)).isEmpty (el).isEmpty false = false := by unfold usesF strc; simp [h_v, h_nm]
          rw [E]
          exact ho_1_3 op v p1 p2 nm (th_r.length) ((el).length) d1 d2 q1 q2 false W h_v h_nm (len_ne _)
      ·
        have E : usesF 1 op v nm (th).isEmpty (el).isEmpty true = false := by unfold usesF strc; simp [h_v, h_nm]
        rw [E]
        exact ho_1_2 op v p1 p2 nm ((th).length) ((el).length) d1 d2 q1 q2 true W h_v h_nm
theorem hol_2 (op v p1 p2 : Int) (nm : ByteArray) (th el : List Nd) (d1 d2 : Nat) (q1 q2 : Option Addr) (has : Bool) (W : World) :
    Calls Tryz.prog 62 #[.agg #[.int .i64 2, .int .i64 op, .int .u16 v, .string nm, .slice q1 th.length d1, .slice q2 el.length d2, .bool has, .int .i64 p1, .int .i64 p2]] W fun e w' => e = .returned (.bool (usesF 2 op v nm th.isEmpty el.isEmpty has)) ∧ Below W.heap.size W w' := by
  cases h_op : (op == 0)
  ·
    have E : usesF 2 op v nm (th).isEmpty (el).isEmpty has = false := by unfold usesF strc; simp [h_op]
    rw [E]
    exact ho_2_0 op v p1 p2 nm ((th).length) ((el).length) d1 d2 q1 q2 has W h_op
  ·
    cases h_nm : (nm.toList.isEmpty)
    ·
      have E : usesF 2 op v nm (th).isEmpty (el).isEmpty has = false := by unfold usesF strc; simp [h_op, h_nm]
      rw [E]
      exact ho_2_1 op v p1 p2 nm ((th).length) ((el).length) d1 d2 q1 q2 has W h_op h_nm
    ·
      cases has
      ·
        rcases th with _ | ⟨th_a, th_r⟩
        ·
          rcases el with _ | ⟨el_a, el_r⟩
          ·
            have E : usesF 2 op v nm (([] : List Nd)).isEmpty (([] : List Nd)).isEmpty false = true := by unfold usesF strc; simp [h_op, h_nm]
            rw [E]
            exact ho_2_5 op v p1 p2 nm ((([] : List Nd)).length) ((([] : List Nd)).length) d1 d2 q1 q2 false W h_op h_nm
          ·
            have E : usesF 2 op v nm (([] : List Nd)).isEmpty ((el_a :: el_r)).isEmpty false = false := by unfold usesF strc; simp [h_op, h_nm]
            rw [E]
            exact ho_2_4 op v p1 p2 nm ((([] : List Nd)).length) (el_r.length) d1 d2 q1 q2 false W h_op h_nm (len_ne _)
        ·
          have E : usesF 2 op v nm ((th_a :: th_r)).isEmpty (el).isEmpty false = false := by unfold usesF strc; simp [h_op, h_nm]
          rw [E]
          exact ho_2_3 op v p1 p2 nm (th_r.length) ((el).length) d1 d2 q1 q2 false W h_op h_nm (len_ne _)
      ·
        have E : usesF 2 op v nm (th).isEmpty (el).isEmpty true = false := by unfold usesF strc; simp [h_op, h_nm]
        rw [E]
        exact ho_2_2 op v p1 p2 nm ((th).length) ((el).length) d1 d2 q1 q2 true W h_op h_nm
theorem hol_3 (op v p1 p2 : Int) (nm : ByteArray) (th el : List Nd) (d1 d2 : Nat) (q1 q2 : Option Addr) (has : Bool) (W : World) :
    Calls Tryz.prog 62 #[.agg #[.int .i64 3, .int .i64 op, .int .u16 v, .string nm, .slice q1 th.length d1, .slice q2 el.length d2, .bool has, .int .i64 p1, .int .i64 p2]] W fun e w' => e = .returned (.bool (usesF 3 op v nm th.isEmpty el.isEmpty has)) ∧ Below W.heap.size W w' := by
  cases h_op : (op == 0)
  ·
    have E : usesF 3 op v nm (th).isEmpty (el).isEmpty has = false := by unfold usesF strc; simp [h_op]
    rw [E]
    exact ho_3_0 op v p1 p2 nm ((th).length) ((el).length) d1 d2 q1 q2 has W h_op
  ·
    cases h_v : (v == 0)
    ·
      have E : usesF 3 op v nm (th).isEmpty (el).isEmpty has = false := by unfold usesF strc; simp [h_op, h_v]
      rw [E]
      exact ho_3_1 op v p1 p2 nm ((th).length) ((el).length) d1 d2 q1 q2 has W h_op h_v
    ·
      cases has
      ·
        rcases th with _ | ⟨th_a, th_r⟩
        ·
          rcases el with _ | ⟨el_a, el_r⟩
          ·
            have E : usesF 3 op v nm (([] : List Nd)).isEmpty (([] : List Nd)).isEmpty false = true := by unfold usesF strc; simp [h_op, h_v]
            rw [E]
            exact ho_3_5 op v p1 p2 nm ((([] : List Nd)).length) ((([] : List Nd)).length) d1 d2 q1 q2 false W h_op h_v
          ·
            have E : usesF 3 op v nm (([] : List Nd)).isEmpty ((el_a :: el_r)).isEmpty false = false := by unfold usesF strc; simp [h_op, h_v]
            rw [E]
            exact ho_3_4 op v p1 p2 nm ((([] : List Nd)).length) (el_r.length) d1 d2 q1 q2 false W h_op h_v (len_ne _)
        ·
          have E : usesF 3 op v nm ((th_a :: th_r)).isEmpty (el).isEmpty false = false := by unfold usesF strc; simp [h_op, h_v]
          rw [E]
          exact ho_3_3 op v p1 p2 nm (th_r.length) ((el).length) d1 d2 q1 q2 false W h_op h_v (len_ne _)
      ·
        have E : usesF 3 op v nm (th).isEmpty (el).isEmpty true = false := by unfold usesF strc; simp [h_op, h_v]
        rw [E]
        exact ho_3_2 op v p1 p2 nm ((th).length) ((el).length) d1 d2 q1 q2 true W h_op h_v
theorem hol_4f (op v p1 p2 : Int) (nm : ByteArray) (th el : List Nd) (d1 d2 : Nat) (q1 q2 : Option Addr) (has : Bool) (W : World) :
    Calls Tryz.prog 62 #[.agg #[.int .i64 4, .int .i64 op, .int .u16 v, .string nm, .slice q1 th.length d1, .slice q2 el.length d2, .bool false, .int .i64 p1, .int .i64 p2]] W fun e w' => e = .returned (.bool (usesF 4 op v nm th.isEmpty el.isEmpty false)) ∧ Below W.heap.size W w' := by
  cases h_op : (op == 0)
  ·
    have E : usesF 4 op v nm (th).isEmpty (el).isEmpty false = false := by unfold usesF strc; simp [h_op]
    rw [E]
    exact ho_4f_0 op v p1 p2 nm ((th).length) ((el).length) d1 d2 q1 q2 false W h_op
  ·
    cases h_v : (v == 0)
    ·
      have E : usesF 4 op v nm (th).isEmpty (el).isEmpty false = false := by unfold usesF strc; simp [h_op, h_v]
      rw [E]
      exact ho_4f_1 op v p1 p2 nm ((th).length) ((el).length) d1 d2 q1 q2 false W h_op h_v
    ·
      cases h_nm : (nm.toList.isEmpty)
      ·
        have E : usesF 4 op v nm (th).isEmpty (el).isEmpty false = false := by unfold usesF strc; simp [h_op, h_v, h_nm]
        rw [E]
        exact ho_4f_2 op v p1 p2 nm ((th).length) ((el).length) d1 d2 q1 q2 false W h_op h_v h_nm
      ·
        rcases el with _ | ⟨el_a, el_r⟩
        ·
          have E : usesF 4 op v nm (th).isEmpty (([] : List Nd)).isEmpty false = true := by unfold usesF strc; simp [h_op, h_v, h_nm]
          rw [E]
          exact ho_4f_4 op v p1 p2 nm ((th).length) ((([] : List Nd)).length) d1 d2 q1 q2 false W h_op h_v h_nm
        ·
          have E : usesF 4 op v nm (th).isEmpty ((el_a :: el_r)).isEmpty false = false := by unfold usesF strc; simp [h_op, h_v, h_nm]
          rw [E]
          exact ho_4f_3 op v p1 p2 nm ((th).length) (el_r.length) d1 d2 q1 q2 false W h_op h_v h_nm (len_ne _)
theorem hol_4t (op v p1 p2 : Int) (nm : ByteArray) (th el : List Nd) (d1 d2 : Nat) (q1 q2 : Option Addr) (has : Bool) (W : World) :
    Calls Tryz.prog 62 #[.agg #[.int .i64 4, .int .i64 op, .int .u16 v, .string nm, .slice q1 th.length d1, .slice q2 el.length d2, .bool true, .int .i64 p1, .int .i64 p2]] W fun e w' => e = .returned (.bool (usesF 4 op v nm th.isEmpty el.isEmpty true)) ∧ Below W.heap.size W w' := by
  cases h_op : (op == 0)
  ·
    have E : usesF 4 op v nm (th).isEmpty (el).isEmpty true = false := by unfold usesF strc; simp [h_op]
    rw [E]
    exact ho_4t_0 op v p1 p2 nm ((th).length) ((el).length) d1 d2 q1 q2 true W h_op
  ·
    cases h_v : (v == 0)
    ·
      have E : usesF 4 op v nm (th).isEmpty (el).isEmpty true = false := by unfold usesF strc; simp [h_op, h_v]
      rw [E]
      exact ho_4t_1 op v p1 p2 nm ((th).length) ((el).length) d1 d2 q1 q2 true W h_op h_v
    ·
      cases h_nm : (nm.toList.isEmpty)
      ·
        have E : usesF 4 op v nm (th).isEmpty (el).isEmpty true = false := by unfold usesF strc; simp [h_op, h_v, h_nm]
        rw [E]
        exact ho_4t_2 op v p1 p2 nm ((th).length) ((el).length) d1 d2 q1 q2 true W h_op h_v h_nm
      ·
        have E : usesF 4 op v nm (th).isEmpty (el).isEmpty true = true := by unfold usesF strc; simp [h_op, h_v, h_nm]
        rw [E]
        exact ho_4t_3 op v p1 p2 nm ((th).length) ((el).length) d1 d2 q1 q2 true W h_op h_v h_nm
theorem hol_5 (op v p1 p2 : Int) (nm : ByteArray) (th el : List Nd) (d1 d2 : Nat) (q1 q2 : Option Addr) (has : Bool) (W : World) :
    Calls Tryz.prog 62 #[.agg #[.int .i64 5, .int .i64 op, .int .u16 v, .string nm, .slice q1 th.length d1, .slice q2 el.length d2, .bool has, .int .i64 p1, .int .i64 p2]] W fun e w' => e = .returned (.bool (usesF 5 op v nm th.isEmpty el.isEmpty has)) ∧ Below W.heap.size W w' := by
  cases h_op : (op == 0)
  ·
    have E : usesF 5 op v nm (th).isEmpty (el).isEmpty has = false := by unfold usesF strc; simp [h_op]
    rw [E]
    exact ho_5_0 op v p1 p2 nm ((th).length) ((el).length) d1 d2 q1 q2 has W h_op
  ·
    cases h_v : (v == 0)
    ·
      have E : usesF 5 op v nm (th).isEmpty (el).isEmpty has = false := by unfold usesF strc; simp [h_op, h_v]
      rw [E]
      exact ho_5_1 op v p1 p2 nm ((th).length) ((el).length) d1 d2 q1 q2 has W h_op h_v
    ·
      cases h_nm : (nm.toList.isEmpty)
      ·
        have E : usesF 5 op v nm (th).isEmpty (el).isEmpty has = false := by unfold usesF strc; simp [h_op, h_v, h_nm]
        rw [E]
        exact ho_5_2 op v p1 p2 nm ((th).length) ((el).length) d1 d2 q1 q2 has W h_op h_v h_nm
      ·
        cases has
        ·
          rcases el with _ | ⟨el_a, el_r⟩
          ·
            have E : usesF 5 op v nm (th).isEmpty (([] : List Nd)).isEmpty false = true := by unfold usesF strc; simp [h_op, h_v, h_nm]
            rw [E]
            exact ho_5_5 op v p1 p2 nm ((th).length) ((([] : List Nd)).length) d1 d2 q1 q2 false W h_op h_v h_nm
          ·
            have E : usesF 5 op v nm (th).isEmpty ((el_a :: el_r)).isEmpty false = false := by unfold usesF strc; simp [h_op, h_v, h_nm]
            rw [E]
            exact ho_5_4 op v p1 p2 nm ((th).length) (el_r.length) d1 d2 q1 q2 false W h_op h_v h_nm (len_ne _)
        ·
          have E : usesF 5 op v nm (th).isEmpty (el).isEmpty true = false := by unfold usesF strc; simp [h_op, h_v, h_nm]
          rw [E]
          exact ho_5_3 op v p1 p2 nm ((th).length) ((el).length) d1 d2 q1 q2 true W h_op h_v h_nm
theorem hol_6 (op v p1 p2 : Int) (nm : ByteArray) (th el : List Nd) (d1 d2 : Nat) (q1 q2 : Option Addr) (has : Bool) (W : World) :
    Calls Tryz.prog 62 #[.agg #[.int .i64 6, .int .i64 op, .int .u16 v, .string nm, .slice q1 th.length d1, .slice q2 el.length d2, .bool has, .int .i64 p1, .int .i64 p2]] W fun e w' => e = .returned (.bool (usesF 6 op v nm th.isEmpty el.isEmpty has)) ∧ Below W.heap.size W w' := by
  cases h_op : (op == 0)
  ·
    have E : usesF 6 op v nm (th).isEmpty (el).isEmpty has = false := by unfold usesF strc; simp [h_op]
    rw [E]
    exact ho_6_0 op v p1 p2 nm ((th).length) ((el).length) d1 d2 q1 q2 has W h_op
  ·
    cases h_v : (v == 0)
    ·
      have E : usesF 6 op v nm (th).isEmpty (el).isEmpty has = false := by unfold usesF strc; simp [h_op, h_v]
      rw [E]
      exact ho_6_1 op v p1 p2 nm ((th).length) ((el).length) d1 d2 q1 q2 has W h_op h_v
    ·
      cases h_nm : (nm.toList.isEmpty)
      ·
        have E : usesF 6 op v nm (th).isEmpty (el).isEmpty has = false := by unfold usesF strc; simp [h_op, h_v, h_nm]
        rw [E]
        exact ho_6_2 op v p1 p2 nm ((th).length) ((el).length) d1 d2 q1 q2 has W h_op h_v h_nm
      ·
        cases has
        ·
          have E : usesF 6 op v nm (th).isEmpty (el).isEmpty false = true := by unfold usesF strc; simp [h_op, h_v, h_nm]
          rw [E]
          exact ho_6_4 op v p1 p2 nm ((th).length) ((el).length) d1 d2 q1 q2 false W h_op h_v h_nm
        ·
          have E : usesF 6 op v nm (th).isEmpty (el).isEmpty true = false := by unfold usesF strc; simp [h_op, h_v, h_nm]
          rw [E]
          exact ho_6_3 op v p1 p2 nm ((th).length) ((el).length) d1 d2 q1 q2 true W h_op h_v h_nm
theorem hol_7 (op v p1 p2 : Int) (nm : ByteArray) (th el : List Nd) (d1 d2 : Nat) (q1 q2 : Option Addr) (has : Bool) (W : World) :
    Calls Tryz.prog 62 #[.agg #[.int .i64 7, .int .i64 op, .int .u16 v, .string nm, .slice q1 th.length d1, .slice q2 el.length d2, .bool has, .int .i64 p1, .int .i64 p2]] W fun e w' => e = .returned (.bool (usesF 7 op v nm th.isEmpty el.isEmpty has)) ∧ Below W.heap.size W w' := by
  cases h_op : (op == 0)
  ·
    have E : usesF 7 op v nm (th).isEmpty (el).isEmpty has = false := by unfold usesF strc; simp [h_op]
    rw [E]
    exact ho_7_0 op v p1 p2 nm ((th).length) ((el).length) d1 d2 q1 q2 has W h_op
  ·
    cases h_v : (v == 0)
    ·
      have E : usesF 7 op v nm (th).isEmpty (el).isEmpty has = false := by unfold usesF strc; simp [h_op, h_v]
      rw [E]
      exact ho_7_1 op v p1 p2 nm ((th).length) ((el).length) d1 d2 q1 q2 has W h_op h_v
    ·
      cases h_nm : (nm.toList.isEmpty)
      ·
        have E : usesF 7 op v nm (th).isEmpty (el).isEmpty has = false := by unfold usesF strc; simp [h_op, h_v, h_nm]
        rw [E]
        exact ho_7_2 op v p1 p2 nm ((th).length) ((el).length) d1 d2 q1 q2 has W h_op h_v h_nm
      ·
        cases has
        ·
          rcases el with _ | ⟨el_a, el_r⟩
          ·
            have E : usesF 7 op v nm (th).isEmpty (([] : List Nd)).isEmpty false = true := by unfold usesF strc; simp [h_op, h_v, h_nm]
            rw [E]
            exact ho_7_5 op v p1 p2 nm ((th).length) ((([] : List Nd)).length) d1 d2 q1 q2 false W h_op h_v h_nm
          ·
            have E : usesF 7 op v nm (th).isEmpty ((el_a :: el_r)).isEmpty false = false := by unfold usesF strc; simp [h_op, h_v, h_nm]
            rw [E]
            exact ho_7_4 op v p1 p2 nm ((th).length) (el_r.length) d1 d2 q1 q2 false W h_op h_v h_nm (len_ne _)
        ·
          have E : usesF 7 op v nm (th).isEmpty (el).isEmpty true = false := by unfold usesF strc; simp [h_op, h_v, h_nm]
          rw [E]
          exact ho_7_3 op v p1 p2 nm ((th).length) ((el).length) d1 d2 q1 q2 true W h_op h_v h_nm
theorem hol_8 (op v p1 p2 : Int) (nm : ByteArray) (th el : List Nd) (d1 d2 : Nat) (q1 q2 : Option Addr) (has : Bool) (W : World) :
    Calls Tryz.prog 62 #[.agg #[.int .i64 8, .int .i64 op, .int .u16 v, .string nm, .slice q1 th.length d1, .slice q2 el.length d2, .bool has, .int .i64 p1, .int .i64 p2]] W fun e w' => e = .returned (.bool (usesF 8 op v nm th.isEmpty el.isEmpty has)) ∧ Below W.heap.size W w' := by
  cases h_op : (op == 0)
  ·
    have E : usesF 8 op v nm (th).isEmpty (el).isEmpty has = false := by unfold usesF strc; simp [h_op]
    rw [E]
    exact ho_8_0 op v p1 p2 nm ((th).length) ((el).length) d1 d2 q1 q2 has W h_op
  ·
    cases h_v : (v == 0)
    ·
      have E : usesF 8 op v nm (th).isEmpty (el).isEmpty has = false := by unfold usesF strc; simp [h_op, h_v]
      rw [E]
      exact ho_8_1 op v p1 p2 nm ((th).length) ((el).length) d1 d2 q1 q2 has W h_op h_v
    ·
      cases h_nm : (nm.toList.isEmpty)
      ·
        have E : usesF 8 op v nm (th).isEmpty (el).isEmpty has = false := by unfold usesF strc; simp [h_op, h_v, h_nm]
        rw [E]
        exact ho_8_2 op v p1 p2 nm ((th).length) ((el).length) d1 d2 q1 q2 has W h_op h_v h_nm
      ·
        cases has
        ·
          rcases el with _ | ⟨el_a, el_r⟩
          ·
            have E : usesF 8 op v nm (th).isEmpty (([] : List Nd)).isEmpty false = true := by unfold usesF strc; simp [h_op, h_v, h_nm]
            rw [E]
            exact ho_8_5 op v p1 p2 nm ((th).length) ((([] : List Nd)).length) d1 d2 q1 q2 false W h_op h_v h_nm
          ·
            have E : usesF 8 op v nm (th).isEmpty ((el_a :: el_r)).isEmpty false = false := by unfold usesF strc; simp [h_op, h_v, h_nm]
            rw [E]
            exact ho_8_4 op v p1 p2 nm ((th).length) (el_r.length) d1 d2 q1 q2 false W h_op h_v h_nm (len_ne _)
        ·
          have E : usesF 8 op v nm (th).isEmpty (el).isEmpty true = false := by unfold usesF strc; simp [h_op, h_v, h_nm]
          rw [E]
          exact ho_8_3 op v p1 p2 nm ((th).length) ((el).length) d1 d2 q1 q2 true W h_op h_v h_nm
theorem hol_9 (op v p1 p2 : Int) (nm : ByteArray) (th el : List Nd) (d1 d2 : Nat) (q1 q2 : Option Addr) (has : Bool) (W : World) :
    Calls Tryz.prog 62 #[.agg #[.int .i64 9, .int .i64 op, .int .u16 v, .string nm, .slice q1 th.length d1, .slice q2 el.length d2, .bool has, .int .i64 p1, .int .i64 p2]] W fun e w' => e = .returned (.bool (usesF 9 op v nm th.isEmpty el.isEmpty has)) ∧ Below W.heap.size W w' := by
  cases h_op : (op == 0)
  ·
    have E : usesF 9 op v nm (th).isEmpty (el).isEmpty has = false := by unfold usesF strc; simp [h_op]
    rw [E]
    exact ho_9_0 op v p1 p2 nm ((th).length) ((el).length) d1 d2 q1 q2 has W h_op
  ·
    cases h_v : (v == 0)
    ·
      have E : usesF 9 op v nm (th).isEmpty (el).isEmpty has = false := by unfold usesF strc; simp [h_op, h_v]
      rw [E]
      exact ho_9_1 op v p1 p2 nm ((th).length) ((el).length) d1 d2 q1 q2 has W h_op h_v
    ·
      cases h_nm : (nm.toList.isEmpty)
      ·
        have E : usesF 9 op v nm (th).isEmpty (el).isEmpty has = false := by unfold usesF strc; simp [h_op, h_v, h_nm]
        rw [E]
        exact ho_9_2 op v p1 p2 nm ((th).length) ((el).length) d1 d2 q1 q2 has W h_op h_v h_nm
      ·
        cases has
        ·
          rcases th with _ | ⟨th_a, th_r⟩
          ·
            rcases el with _ | ⟨el_a, el_r⟩
            ·
              have E : usesF 9 op v nm (([] : List Nd)).isEmpty (([] : List Nd)).isEmpty false = true := by unfold usesF strc; simp [h_op, h_v, h_nm]
              rw [E]
              exact ho_9_6 op v p1 p2 nm ((([] : List Nd)).length) ((([] : List Nd)).length) d1 d2 q1 q2 false W h_op h_v h_nm
            ·
              have E : usesF 9 op v nm (([] : List Nd)).isEmpty ((el_a :: el_r)).isEmpty false = false := by unfold usesF strc; simp [h_op, h_v, h_nm]
              rw [E]
              exact ho_9_5 op v p1 p2 nm ((([] : List Nd)).length) (el_r.length) d1 d2 q1 q2 false W h_op h_v h_nm (len_ne _)
          ·
            have E : usesF 9 op v nm ((th_a :: th_r)).isEmpty (el).isEmpty false = false := by unfold usesF strc; simp [h_op, h_v, h_nm]
            rw [E]
            exact ho_9_4 op v p1 p2 nm (th_r.length) ((el).length) d1 d2 q1 q2 false W h_op h_v h_nm (len_ne _)
        ·
          have E : usesF 9 op v nm (th).isEmpty (el).isEmpty true = false := by unfold usesF strc; simp [h_op, h_v, h_nm]
          rw [E]
          exact ho_9_3 op v p1 p2 nm ((th).length) ((el).length) d1 d2 q1 q2 true W h_op h_v h_nm
theorem hollow_any (n : Nd) (h1 : 1 ≤ n.k) (h9 : n.k ≤ 9) (d1 d2 : Nat) (q1 q2 : Option Addr) (W : World) :
    Calls Tryz.prog 62 #[.agg (ndc n (.slice q1 n.th.length d1) (.slice q2 n.el.length d2)).toArray] W fun e w' => e = .returned (.bool (uses n)) ∧ Below W.heap.size W w' := by
  obtain ⟨k, op, v, nm, th, el, has, p⟩ := n
  unfold ndc uses
  simp only at h1 h9 ⊢
  by_cases c1 : k = 1
  · subst c1; exact hol_1 op v p.1 p.2 nm th el d1 d2 q1 q2 has W
  by_cases c2 : k = 2
  · subst c2; exact hol_2 op v p.1 p.2 nm th el d1 d2 q1 q2 has W
  by_cases c3 : k = 3
  · subst c3; exact hol_3 op v p.1 p.2 nm th el d1 d2 q1 q2 has W
  by_cases c4 : k = 4
  · subst c4; cases has
    · exact hol_4f op v p.1 p.2 nm th el d1 d2 q1 q2 false W
    · exact hol_4t op v p.1 p.2 nm th el d1 d2 q1 q2 true W
  by_cases c5 : k = 5
  · subst c5; exact hol_5 op v p.1 p.2 nm th el d1 d2 q1 q2 has W
  by_cases c6 : k = 6
  · subst c6; exact hol_6 op v p.1 p.2 nm th el d1 d2 q1 q2 has W
  by_cases c7 : k = 7
  · subst c7; exact hol_7 op v p.1 p.2 nm th el d1 d2 q1 q2 has W
  by_cases c8 : k = 8
  · subst c8; exact hol_8 op v p.1 p.2 nm th el d1 d2 q1 q2 has W
  by_cases c9 : k = 9
  · subst c9; exact hol_9 op v p.1 p.2 nm th el d1 d2 q1 q2 has W
  omega
end Go.Proofs.YtlilefhmohkfkaaGreatDoor.V
/-! wispref10.nodes. -/
namespace Go.Proofs.YtlilefhmohkfkaaGreatDoor.V
open Go.RowKit
open Go.Proofs
open Go.Proofs.YtlilefhmohkfkaaGreatDoor.Y (Nd Df Ps ndc dfc hid NV DV D1 cells6 cells9 BV)
open R (ck cks cks_take_succ cks_stop)
set_option linter.unusedVariables false
set_option linter.unusedSimpArgs false
set_option maxHeartbeats 2000000
set_option maxRecDepth 100000
def CV (names : List ByteArray) (n : Nd) : Prop := ∀ (tv ev nv : Value) (O : Nat → Prop) (i : Nat × Bool) (W : World), (∀ j, O j → j < W.heap.size) → NV W O tv n.th → NV W O ev n.el → SV W nv names → i.1 ≤ 32 →
    Calls Tryz.prog 53 #[.agg (ndc n tv ev).toArray, nv, .int .i64 (i.1 : Int), .bool i.2] W fun e w' => e = .returned (.int .i64 (ck names n i)) ∧ Below W.heap.size W w'
theorem nodes_of (names : List ByteArray) (l : List Nd) (hn : ∀ m ∈ l, CV names m) (v nv : Value) (O : Nat → Prop) (i : Nat × Bool) (W : World) (hO : ∀ j, O j → j < W.heap.size) (h : NV W O v l) (hS : SV W nv names) (hi : i.1 ≤ 32 ∨ l = []) :
    Calls Tryz.prog 41 #[v, nv, .int .i64 (i.1 : Int), .bool i.2] W fun e w' => e = .returned (.int .i64 (cks names l i)) ∧ Below W.heap.size W w' := by
  obtain ⟨p, c, rfl, hl, hp⟩ := h.ex
  clear h
  obtain ⟨dp, dO⟩ := i
  obtain ⟨np, nc, rfl, _, _⟩ := id hS
  have HS := hid hS
  clear hS
  simp only at hi ⊢
  go_enter Tryz.func41, Tryz.ntmps41
  go_wp2
  go_loopw [9] (fun ix wr => ∃ k : Nat, k ≤ l.length ∧ ix = .int .i64 (k : Int) ∧ Below W.heap.size W wr ∧ cks names (l.take k) (dp, dO) = 0) (fun ix _ => l.length - (intOf ix).toNat)
  case atStart => exact ⟨0, by omega, rfl, Below.refl _ _, rfl⟩
  case round =>
    obtain ⟨k, hk, rfl, hb, hz⟩ := hrel
    by_cases hlt : k < l.length
    · have i1 : (k : Int) < l.length := by omega
      have ea := List.getElem?_eq_getElem hlt
      have hm := hn l[k] (List.getElem_mem _)
      generalize l[k] = n at *
      obtain ⟨b, o, rfl, hOb, hN⟩ := hp k n ea
      obtain ⟨tv, ev, hc, ht, he⟩ := hN.ex
      obtain ⟨q1, d1, rfl, _, _⟩ := ht.ex
      obtain ⟨q2, d2, rfl, _, _⟩ := he.ex
      have k1 := hb.block b (hO b hOb)
      obtain ⟨g0, g1, g2, g3, g4, g5, g6, g7, g8⟩ := cells9 fun j x hx => (World.cell?_of_block (w := W) (a := ⟨b, o + k * 9 + j, none⟩) k1).trans (hc j x hx)
      have hle : dp ≤ 32 := by
        rcases hi with h | h
        · exact h
        · rw [h] at hlt; simp at hlt
      have hcall := hm _ _ _ O (dp, dO) wr (fun j hj => Nat.lt_of_lt_of_le (hO j hj) hb.size) (ht.below hb hO) (he.below hb hO) (HS.out.below hb) hle
      unfold ndc at hcall
      simp only at hcall
      have HT := hid (cks_take_succ names l k n (dp, dO) ea hz)
      have HST := hid (cks_stop names l (k + 1) (dp, dO))
      have HB := hid hb
      clear hp hm hn hc ht he hN k1 ea hz hb hi hle hO
      generalize hy : ck names n (dp, dO) = y at *
      clear hy
      go_wp2_with fail
      refine hcall.mono ?_
      rintro e w2 ⟨rfl, hb2⟩
      have HB2 := hid (HB.out.trans (hb2.mono HB.out.size))
      clear hcall hb2 g0 g1 g2 g3 g4 g5 g6 g7 g8
      by_cases h0 : y = 0
      · subst h0
        go_wp2
        go_roundw
        case rel =>
          first
            | exact ⟨k + 1, by omega, by go_num, HB2.out, HT.out⟩
            | ((repeat apply Exists.intro); refine ⟨⟨k + 1, by omega, ?_, HB2.out, HT.out⟩, rfl⟩; go_num)
        case measure => simp [intOf]; omega
      · have hne : (y != 0) = true := by simpa using h0
        have HY := hid h0
        go_wp2
        go_ret
        exact ⟨by rw [HST.out (by rw [HT.out]; exact HY.out), HT.out]; rfl, HB2.out⟩
    · have i1 : ¬ (k : Int) < l.length := by omega
      rw [List.take_of_length_le (by omega)] at hz
      have HZ := hid hz
      clear hz
      go_wp2
      go_ret
      exact ⟨by rw [HZ.out]; rfl, hb⟩
end Go.Proofs.YtlilefhmohkfkaaGreatDoor.V
