import Derived.Test.YtgponcjjnjpfkaaGreatCMath
import Derived.Test.YtgponcjjnjpfkaaGreatProg
import Derived.WalkKit
import Derived.WalkSpells
import Derived.WalkLawsBesides
namespace Go.Proofs.YtgponcjjnjpfkaaGreat.C
open Go.RowKit

theorem ret_int {k : IntKind} {a b : Int} (h : a = b) : Ending.returned (.int k a) = .returned (.int k b) := by rw [h]
theorem ret_ib {k : IntKind} {a b : Int} {p q : Bool} (h : a = b) (h' : p = q) :
    Ending.returned (.tuple #[.int k a, .bool p]) = .returned (.tuple #[.int k b, .bool q]) := by rw [h, h']
theorem ret_bool {p q : Bool} (h : p = q) : Ending.returned (.bool p) = .returned (.bool q) := by rw [h]

theorem not_39 (x : Int) (hx : C x) : bits BinOp.xor IntKind.u16 IntKind.u16.max x = un 39 x := by
  have e : IntKind.u16.max = 65535 := rfl
  rw [e, u16_xor 65535 x (by decide) (by decide) hx.1 hx.2, ← un_39 x hx]
  have k := hx
  unfold C at k
  have h : (65535 : Int).toNat ^^^ x.toNat = 65535 - x.toNat := xor_ones x.toNat (by omega)
  rw [h]; omega
set_option maxHeartbeats 400000 in
theorem signed_any (x : Int) (hx : C x) (w : World) :
    Calls Tryz.prog 134 #[.int .u16 x] w fun e w' => e = .returned (.int .i64 (sg x)) ∧ w' = w := by
  obtain ⟨h1, h2⟩ := hx
  by_cases h : x < 32768
  · go_enter Tryz.func134, Tryz.ntmps134
    go_wp2
    go_ret
    exact ⟨ret_int (by unfold sg; rw [if_pos h]), rfl⟩
  · go_enter Tryz.func134, Tryz.ntmps134
    go_wp2
    go_ret
    exact ⟨ret_int (by unfold sg; rw [if_neg (by omega)]), rfl⟩
set_option maxHeartbeats 400000 in
theorem cell_any (n : Int) (w : World) :
    Calls Tryz.prog 135 #[.int .i64 n] w fun e w' => e = .returned (.int .u16 (cl n)) ∧ w' = w := by
  go_enter Tryz.func135, Tryz.ntmps135
  go_wp2
  go_ret
  exact ⟨ret_int (by unfold cl; exact IntKind.wrap_u16 n), rfl⟩
set_option maxHeartbeats 400000 in
theorem flag_any (b : Bool) (w : World) :
    Calls Tryz.prog 136 #[.bool b] w fun e w' => e = .returned (.int .u16 (fl b)) ∧ w' = w := by
  cases b
  · go_enter Tryz.func136, Tryz.ntmps136
    go_wp2
    go_ret
    exact ⟨rfl, rfl⟩
  · go_enter Tryz.func136, Tryz.ntmps136
    go_wp2
    go_ret
    exact ⟨rfl, rfl⟩
set_option maxHeartbeats 400000 in
theorem quotient_any (n m : Int) (hn : -65536 ≤ n ∧ n ≤ 65536) (w : World) :
    Calls Tryz.prog 137 #[.int .i64 n, .int .i64 m] w fun e w' => e = .returned (.int .u16 (cl (qt n m))) ∧ w' = w := by
  by_cases h : m = 0
  · subst h
    go_enter Tryz.func137, Tryz.ntmps137
    go_wp2
    go_ret
    exact ⟨rfl, rfl⟩
  · have h0 : (m == 0) = false := by simpa using h
    have hq := tdiv_range n m hn
    have hh : Hid (n.tdiv m = qt n m) := by show _ = _; simp [qt, h]
    go_enter Tryz.func137, Tryz.ntmps137
    go_wp2_with (first | (go_at_call 135; refine (cell_any _ _).mono ?_; rintro e w' ⟨rfl, rfl⟩))
    go_ret
    exact ⟨ret_int (by rw [hh.out]), rfl⟩
set_option maxHeartbeats 400000 in
theorem remainder_any (n m : Int) (hn : -65536 ≤ n ∧ n ≤ 65536) (w : World) :
    Calls Tryz.prog 138 #[.int .i64 n, .int .i64 m] w fun e w' => e = .returned (.int .u16 (cl (rm n m))) ∧ w' = w := by
  by_cases h : m = 0
  · subst h
    go_enter Tryz.func138, Tryz.ntmps138
    go_wp2
    go_ret
    exact ⟨rfl, rfl⟩
  · have h0 : (m == 0) = false := by simpa using h
    have hq := tmod_range n m hn
    have hh : Hid (n.tmod m = rm n m) := by show _ = _; simp [rm, h]
    go_enter Tryz.func138, Tryz.ntmps138
    go_wp2_with (first | (go_at_call 135; refine (cell_any _ _).mono ?_; rintro e w' ⟨rfl, rfl⟩))
    go_ret
    exact ⟨ret_int (by rw [hh.out]), rfl⟩
set_option maxHeartbeats 400000 in
theorem unary_28 (x : Int) (hx : C x) (w : World) :
    Calls Tryz.prog 127 #[.int .i64 28, .int .u16 x] w fun e w' => e = .returned (.tuple #[.int .u16 (un 28 x), .bool true]) ∧ w' = w := by
  have hs := sg_range hx
  go_enter Tryz.func127, Tryz.ntmps127
  go_wp2_with (first | (go_at_call 134; refine (signed_any _ (by assumption) _).mono ?_; rintro e w' ⟨rfl, rfl⟩) | (go_at_call 135; refine (cell_any _ _).mono ?_; rintro e w' ⟨rfl, rfl⟩) | (go_at_call 136; refine (flag_any _ _).mono ?_; rintro e w' ⟨rfl, rfl⟩))
  go_ret2
  exact ⟨ret_ib (un_28 x) rfl, rfl⟩
set_option maxHeartbeats 400000 in
theorem unary_32 (x : Int) (hx : C x) (w : World) :
    Calls Tryz.prog 127 #[.int .i64 32, .int .u16 x] w fun e w' => e = .returned (.tuple #[.int .u16 (un 32 x), .bool true]) ∧ w' = w := by
  have hs := sg_range hx
  go_enter Tryz.func127, Tryz.ntmps127
  go_wp2_with (first | (go_at_call 134; refine (signed_any _ (by assumption) _).mono ?_; rintro e w' ⟨rfl, rfl⟩) | (go_at_call 135; refine (cell_any _ _).mono ?_; rintro e w' ⟨rfl, rfl⟩) | (go_at_call 136; refine (flag_any _ _).mono ?_; rintro e w' ⟨rfl, rfl⟩))
  go_ret2
  exact ⟨ret_ib (un_32 x) rfl, rfl⟩
set_option maxHeartbeats 400000 in
theorem unary_33 (x : Int) (hx : C x) (w : World) :
    Calls Tryz.prog 127 #[.int .i64 33, .int .u16 x] w fun e w' => e = .returned (.tuple #[.int .u16 (un 33 x), .bool true]) ∧ w' = w := by
  have hs := sg_range hx
  go_enter Tryz.func127, Tryz.ntmps127
  go_wp2_with (first | (go_at_call 134; refine (signed_any _ (by assumption) _).mono ?_; rintro e w' ⟨rfl, rfl⟩) | (go_at_call 135; refine (cell_any _ _).mono ?_; rintro e w' ⟨rfl, rfl⟩) | (go_at_call 136; refine (flag_any _ _).mono ?_; rintro e w' ⟨rfl, rfl⟩))
  go_ret2
  exact ⟨ret_ib (un_33 x) rfl, rfl⟩
set_option maxHeartbeats 400000 in
theorem unary_34 (x : Int) (hx : C x) (w : World) :
    Calls Tryz.prog 127 #[.int .i64 34, .int .u16 x] w fun e w' => e = .returned (.tuple #[.int .u16 (un 34 x), .bool true]) ∧ w' = w := by
  have hs := sg_range hx
  go_enter Tryz.func127, Tryz.ntmps127
  go_wp2_with (first | (go_at_call 134; refine (signed_any _ (by assumption) _).mono ?_; rintro e w' ⟨rfl, rfl⟩) | (go_at_call 135; refine (cell_any _ _).mono ?_; rintro e w' ⟨rfl, rfl⟩) | (go_at_call 136; refine (flag_any _ _).mono ?_; rintro e w' ⟨rfl, rfl⟩))
  go_ret2
  exact ⟨ret_ib (un_34 x) rfl, rfl⟩
set_option maxHeartbeats 400000 in
theorem unary_35 (x : Int) (hx : C x) (w : World) :
    Calls Tryz.prog 127 #[.int .i64 35, .int .u16 x] w fun e w' => e = .returned (.tuple #[.int .u16 (un 35 x), .bool true]) ∧ w' = w := by
  have hs := sg_range hx
  go_enter Tryz.func127, Tryz.ntmps127
  go_wp2_with (first | (go_at_call 134; refine (signed_any _ (by assumption) _).mono ?_; rintro e w' ⟨rfl, rfl⟩) | (go_at_call 135; refine (cell_any _ _).mono ?_; rintro e w' ⟨rfl, rfl⟩) | (go_at_call 136; refine (flag_any _ _).mono ?_; rintro e w' ⟨rfl, rfl⟩))
  go_ret2
  exact ⟨ret_ib (un_35 x) rfl, rfl⟩
set_option maxHeartbeats 400000 in
theorem unary_48 (x : Int) (hx : C x) (w : World) :
    Calls Tryz.prog 127 #[.int .i64 48, .int .u16 x] w fun e w' => e = .returned (.tuple #[.int .u16 (un 48 x), .bool true]) ∧ w' = w := by
  have hs := sg_range hx
  go_enter Tryz.func127, Tryz.ntmps127
  go_wp2_with (first | (go_at_call 134; refine (signed_any _ (by assumption) _).mono ?_; rintro e w' ⟨rfl, rfl⟩) | (go_at_call 135; refine (cell_any _ _).mono ?_; rintro e w' ⟨rfl, rfl⟩) | (go_at_call 136; refine (flag_any _ _).mono ?_; rintro e w' ⟨rfl, rfl⟩))
  go_ret2
  exact ⟨ret_ib (un_48 x) rfl, rfl⟩
set_option maxHeartbeats 400000 in
theorem unary_49 (x : Int) (hx : C x) (w : World) :
    Calls Tryz.prog 127 #[.int .i64 49, .int .u16 x] w fun e w' => e = .returned (.tuple #[.int .u16 (un 49 x), .bool true]) ∧ w' = w := by
  have hs := sg_range hx
  go_enter Tryz.func127, Tryz.ntmps127
  go_wp2_with (first | (go_at_call 134; refine (signed_any _ (by assumption) _).mono ?_; rintro e w' ⟨rfl, rfl⟩) | (go_at_call 135; refine (cell_any _ _).mono ?_; rintro e w' ⟨rfl, rfl⟩) | (go_at_call 136; refine (flag_any _ _).mono ?_; rintro e w' ⟨rfl, rfl⟩))
  go_ret2
  exact ⟨ret_ib (un_49 x) rfl, rfl⟩
set_option maxHeartbeats 400000 in
theorem unary_39 (x : Int) (hx : C x) (w : World) :
    Calls Tryz.prog 127 #[.int .i64 39, .int .u16 x] w fun e w' => e = .returned (.tuple #[.int .u16 (un 39 x), .bool true]) ∧ w' = w := by
  have hs := sg_range hx
  have hx' := hx
  unfold C at hx'
  go_enter Tryz.func127, Tryz.ntmps127
  go_wp2_with (first | (go_at_call 134; refine (signed_any _ (by assumption) _).mono ?_; rintro e w' ⟨rfl, rfl⟩) | (go_at_call 135; refine (cell_any _ _).mono ?_; rintro e w' ⟨rfl, rfl⟩) | (go_at_call 136; refine (flag_any _ _).mono ?_; rintro e w' ⟨rfl, rfl⟩))
  go_ret2
  exact ⟨ret_ib (not_39 x hx) rfl, rfl⟩
set_option maxHeartbeats 400000 in
theorem unary_29p (x : Int) (hx : C x) (h : x < 32768) (w : World) :
    Calls Tryz.prog 127 #[.int .i64 29, .int .u16 x] w fun e w' => e = .returned (.tuple #[.int .u16 (un 29 x), .bool true]) ∧ w' = w := by
  have hs := sg_range hx
  have h0 : 0 ≤ sg x := by have hx' := hx; unfold C at hx'; unfold sg; rw [if_pos h]; omega
  go_enter Tryz.func127, Tryz.ntmps127
  go_wp2_with (first | (go_at_call 134; refine (signed_any _ (by assumption) _).mono ?_; rintro e w' ⟨rfl, rfl⟩) | (go_at_call 135; refine (cell_any _ _).mono ?_; rintro e w' ⟨rfl, rfl⟩) | (go_at_call 136; refine (flag_any _ _).mono ?_; rintro e w' ⟨rfl, rfl⟩))
  go_ret2
  exact ⟨ret_ib (un_29p x hx h) rfl, rfl⟩
set_option maxHeartbeats 400000 in
theorem unary_29n (x : Int) (hx : C x) (h : 32768 ≤ x) (w : World) :
    Calls Tryz.prog 127 #[.int .i64 29, .int .u16 x] w fun e w' => e = .returned (.tuple #[.int .u16 (un 29 x), .bool true]) ∧ w' = w := by
  have hs := sg_range hx
  have h0 : sg x < 0 := by have hx' := hx; unfold C at hx'; unfold sg; rw [if_neg (by omega)]; omega
  go_enter Tryz.func127, Tryz.ntmps127
  go_wp2_with (first | (go_at_call 134; refine (signed_any _ (by assumption) _).mono ?_; rintro e w' ⟨rfl, rfl⟩) | (go_at_call 135; refine (cell_any _ _).mono ?_; rintro e w' ⟨rfl, rfl⟩) | (go_at_call 136; refine (flag_any _ _).mono ?_; rintro e w' ⟨rfl, rfl⟩))
  go_ret2
  exact ⟨ret_ib (un_29n x h) rfl, rfl⟩
set_option maxHeartbeats 400000 in
theorem unary_no (op x : Int) (hx : C x) (h : isUn op = false) (w : World) :
    Calls Tryz.prog 127 #[.int .i64 op, .int .u16 x] w fun e w' => e = .returned (.tuple #[.int .u16 (un op x), .bool (isUn op)]) ∧ w' = w := by
  have hz : Hid ((0 : Int) = un op x) := un_no op x h
  have hf : Hid (isUn op = false) := h
  have hh := h
  simp only [isUn, Bool.or_eq_false_iff] at hh
  obtain ⟨⟨⟨⟨⟨⟨⟨⟨e28, e29⟩, e32⟩, e33⟩, e34⟩, e35⟩, e39⟩, e48⟩, e49⟩ := hh
  clear h
  go_enter Tryz.func127, Tryz.ntmps127
  go_wp2_with (first | (go_at_call 134; refine (signed_any _ (by assumption) _).mono ?_; rintro e w' ⟨rfl, rfl⟩) | (go_at_call 135; refine (cell_any _ _).mono ?_; rintro e w' ⟨rfl, rfl⟩) | (go_at_call 136; refine (flag_any _ _).mono ?_; rintro e w' ⟨rfl, rfl⟩))
  go_ret2
  exact ⟨ret_ib hz.out hf.out.symm, rfl⟩
theorem unary_any (op x : Int) (hx : C x) (w : World) :
    Calls Tryz.prog 127 #[.int .i64 op, .int .u16 x] w fun e w' => e = .returned (.tuple #[.int .u16 (un op x), .bool (isUn op)]) ∧ w' = w := by
  cases h : isUn op
  · rw [← h]; exact unary_no op x hx h w
  · simp only [isUn, Bool.or_eq_true, beq_iff_eq] at h
    rcases h with (((((((h | h) | h) | h) | h) | h) | h) | h) | h <;> subst h
    · exact unary_28 x hx w
    · by_cases k : x < 32768
      · exact unary_29p x hx k w
      · exact unary_29n x hx (by omega) w
    · exact unary_32 x hx w
    · exact unary_33 x hx w
    · exact unary_34 x hx w
    · exact unary_35 x hx w
    · exact unary_39 x hx w
    · exact unary_48 x hx w
    · exact unary_49 x hx w
end Go.Proofs.YtgponcjjnjpfkaaGreat.C
