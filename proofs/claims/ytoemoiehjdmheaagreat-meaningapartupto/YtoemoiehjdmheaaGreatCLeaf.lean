import Derived.Test.YtoemoiehjdmheaaGreatCMath
import Derived.Test.YtoemoiehjdmheaaGreatProg
import Derived.WalkKit
import Derived.WalkSpells
import Derived.WalkLawsBesides
namespace Go.Proofs.YtoemoiehjdmheaaGreat.C
open Go.RowKit
theorem ret_int {k : IntKind} {a b : Int} (h : a = b) : Ending.returned (.int k a) = .returned (.int k b) := by rw [h]
theorem ret_ib {k : IntKind} {a b : Int} {p q : Bool} (h : a = b) (h' : p = q) :
  Ending.returned (.tuple #[.int k a, .bool p]) = .returned (.tuple #[.int k b, .bool q]) := by rw [h, h']
theorem ret_bool {p q : Bool} (h : p = q) : Ending.returned (.bool p) = .returned (.bool q) := by rw [h]
theorem not_39 (x : Int) (hx : C x) : bits BinOp.xor IntKind.u16 IntKind.u16.max x = un 39 x := by
 have e : IntKind.u16.max = 65535 := rfl
 rw [e, u16_xor 65535 x (by decide) (by decide) hx.1 hx.2, <- un_39 x hx]
 have k := hx
 unfold C at k
 have h : (65535 : Int).toNat ^^^ x.toNat = 65535 - x.toNat := xor_ones x.toNat (by omega)
 rw [h]; omega
set_option maxHeartbeats 400000 in
theorem signed_any (x : Int) (hx : C x) (w : World) :
  Calls Tryz.prog 155 #[.int .u16 x] w fun e w' => e = .returned (.int .i64 (sg x)) /\ w' = w := by
 obtain ⟨h1, h2⟩ := hx
 by_cases h : x < 32768
 ·go_enter Tryz.func155, Tryz.ntmps155
  go_wp2
  go_ret
  exact ⟨ret_int (by unfold sg; rw [if_pos h]), rfl⟩
 ·go_enter Tryz.func155, Tryz.ntmps155
  go_wp2
  go_ret
  exact ⟨ret_int (by unfold sg; rw [if_neg (by omega)]), rfl⟩
set_option maxHeartbeats 400000 in
theorem cell_any (n : Int) (w : World) :
  Calls Tryz.prog 156 #[.int .i64 n] w fun e w' => e = .returned (.int .u16 (cl n)) /\ w' = w := by
 go_enter Tryz.func156, Tryz.ntmps156
 go_wp2
 go_ret
 exact ⟨ret_int (by unfold cl; exact IntKind.wrap_u16 n), rfl⟩
set_option maxHeartbeats 400000 in
theorem flag_any (b : Bool) (w : World) :
  Calls Tryz.prog 157 #[.bool b] w fun e w' => e = .returned (.int .u16 (fl b)) /\ w' = w := by
 cases b
 ·go_enter Tryz.func157, Tryz.ntmps157
  go_wp2
  go_ret
  exact ⟨rfl, rfl⟩
 ·go_enter Tryz.func157, Tryz.ntmps157
  go_wp2
  go_ret
  exact ⟨rfl, rfl⟩
set_option maxHeartbeats 400000 in
theorem quotient_any (n m : Int) (hn : -65536 <= n /\ n <= 65536) (w : World) :
  Calls Tryz.prog 162 #[.int .i64 n, .int .i64 m] w fun e w' => e = .returned (.int .u16 (cl (qt n m))) /\ w' = w := by
 by_cases h : m = 0
 ·subst h
  go_enter Tryz.func162, Tryz.ntmps162
  go_wp2
  go_ret
  exact ⟨rfl, rfl⟩
 ·have h0 : (m == 0) = false := by simpa using h
  have hq := tdiv_range n m hn
  have hh : Hid (n.tdiv m = qt n m) := by show _ = _; simp [qt, h]
  go_enter Tryz.func162, Tryz.ntmps162
  go_wp2_with (first | (go_at_call 156; refine (cell_any _ _).mono ?_; rintro e w' ⟨rfl, rfl⟩))
  go_ret
  exact ⟨ret_int (by rw [hh.out]), rfl⟩
set_option maxHeartbeats 400000 in
theorem remainder_any (n m : Int) (hn : -65536 <= n /\ n <= 65536) (w : World) :
  Calls Tryz.prog 163 #[.int .i64 n, .int .i64 m] w fun e w' => e = .returned (.int .u16 (cl (rm n m))) /\ w' = w := by
 by_cases h : m = 0
 ·subst h
  go_enter Tryz.func163, Tryz.ntmps163
  go_wp2
  go_ret
  exact ⟨rfl, rfl⟩
 ·have h0 : (m == 0) = false := by simpa using h
  have hq := tmod_range n m hn
  have hh : Hid (n.tmod m = rm n m) := by show _ = _; simp [rm, h]
  go_enter Tryz.func163, Tryz.ntmps163
  go_wp2_with (first | (go_at_call 156; refine (cell_any _ _).mono ?_; rintro e w' ⟨rfl, rfl⟩))
  go_ret
  exact ⟨ret_int (by rw [hh.out]), rfl⟩
set_option maxHeartbeats 400000 in
theorem unary_28 (x : Int) (hx : C x) (w : World) :
  Calls Tryz.prog 140 #[.int .i64 28, .int .u16 x] w fun e w' => e = .returned (.tuple #[.int .u16 (un 28 x), .bool true]) /\ w' = w := by
 have hs := sg_range hx
 go_enter Tryz.func140, Tryz.ntmps140
 go_wp2_with (first | (go_at_call 155; refine (signed_any _ (by assumption) _).mono ?_; rintro e w' ⟨rfl, rfl⟩) | (go_at_call 156; refine (cell_any _ _).mono ?_; rintro e w' ⟨rfl, rfl⟩) | (go_at_call 157; refine (flag_any _ _).mono ?_; rintro e w' ⟨rfl, rfl⟩))
 go_ret2
 exact ⟨ret_ib (un_28 x) rfl, rfl⟩
set_option maxHeartbeats 400000 in
theorem unary_32 (x : Int) (hx : C x) (w : World) :
  Calls Tryz.prog 140 #[.int .i64 32, .int .u16 x] w fun e w' => e = .returned (.tuple #[.int .u16 (un 32 x), .bool true]) /\ w' = w := by
 have hs := sg_range hx
 go_enter Tryz.func140, Tryz.ntmps140
 go_wp2_with (first | (go_at_call 155; refine (signed_any _ (by assumption) _).mono ?_; rintro e w' ⟨rfl, rfl⟩) | (go_at_call 156; refine (cell_any _ _).mono ?_; rintro e w' ⟨rfl, rfl⟩) | (go_at_call 157; refine (flag_any _ _).mono ?_; rintro e w' ⟨rfl, rfl⟩))
 go_ret2
 exact ⟨ret_ib (un_32 x) rfl, rfl⟩
set_option maxHeartbeats 400000 in
theorem unary_33 (x : Int) (hx : C x) (w : World) :
  Calls Tryz.prog 140 #[.int .i64 33, .int .u16 x] w fun e w' => e = .returned (.tuple #[.int .u16 (un 33 x), .bool true]) /\ w' = w := by
 have hs := sg_range hx
 go_enter Tryz.func140, Tryz.ntmps140
 go_wp2_with (first | (go_at_call 155; refine (signed_any _ (by assumption) _).mono ?_; rintro e w' ⟨rfl, rfl⟩) | (go_at_call 156; refine (cell_any _ _).mono ?_; rintro e w' ⟨rfl, rfl⟩) | (go_at_call 157; refine (flag_any _ _).mono ?_; rintro e w' ⟨rfl, rfl⟩))
 go_ret2
 exact ⟨ret_ib (un_33 x) rfl, rfl⟩
set_option maxHeartbeats 400000 in
theorem unary_34 (x : Int) (hx : C x) (w : World) :
  Calls Tryz.prog 140 #[.int .i64 34, .int .u16 x] w fun e w' => e = .returned (.tuple #[.int .u16 (un 34 x), .bool true]) /\ w' = w := by
 have hs := sg_range hx
 go_enter Tryz.func140, Tryz.ntmps140
 go_wp2_with (first | (go_at_call 155; refine (signed_any _ (by assumption) _).mono ?_; rintro e w' ⟨rfl, rfl⟩) | (go_at_call 156; refine (cell_any _ _).mono ?_; rintro e w' ⟨rfl, rfl⟩) | (go_at_call 157; refine (flag_any _ _).mono ?_; rintro e w' ⟨rfl, rfl⟩))
 go_ret2
 exact ⟨ret_ib (un_34 x) rfl, rfl⟩
set_option maxHeartbeats 400000 in
theorem unary_35 (x : Int) (hx : C x) (w : World) :
  Calls Tryz.prog 140 #[.int .i64 35, .int .u16 x] w fun e w' => e = .returned (.tuple #[.int .u16 (un 35 x), .bool true]) /\ w' = w := by
 have hs := sg_range hx
 go_enter Tryz.func140, Tryz.ntmps140
 go_wp2_with (first | (go_at_call 155; refine (signed_any _ (by assumption) _).mono ?_; rintro e w' ⟨rfl, rfl⟩) | (go_at_call 156; refine (cell_any _ _).mono ?_; rintro e w' ⟨rfl, rfl⟩) | (go_at_call 157; refine (flag_any _ _).mono ?_; rintro e w' ⟨rfl, rfl⟩))
 go_ret2
 exact ⟨ret_ib (un_35 x) rfl, rfl⟩
set_option maxHeartbeats 400000 in
theorem unary_48 (x : Int) (hx : C x) (w : World) :
  Calls Tryz.prog 140 #[.int .i64 48, .int .u16 x] w fun e w' => e = .returned (.tuple #[.int .u16 (un 48 x), .bool true]) /\ w' = w := by
 have hs := sg_range hx
 go_enter Tryz.func140, Tryz.ntmps140
 go_wp2_with (first | (go_at_call 155; refine (signed_any _ (by assumption) _).mono ?_; rintro e w' ⟨rfl, rfl⟩) | (go_at_call 156; refine (cell_any _ _).mono ?_; rintro e w' ⟨rfl, rfl⟩) | (go_at_call 157; refine (flag_any _ _).mono ?_; rintro e w' ⟨rfl, rfl⟩))
 go_ret2
 exact ⟨ret_ib (un_48 x) rfl, rfl⟩
set_option maxHeartbeats 400000 in
theorem unary_49 (x : Int) (hx : C x) (w : World) :
  Calls Tryz.prog 140 #[.int .i64 49, .int .u16 x] w fun e w' => e = .returned (.tuple #[.int .u16 (un 49 x), .bool true]) /\ w' = w := by
 have hs := sg_range hx
 go_enter Tryz.func140, Tryz.ntmps140
 go_wp2_with (first | (go_at_call 155; refine (signed_any _ (by assumption) _).mono ?_; rintro e w' ⟨rfl, rfl⟩) | (go_at_call 156; refine (cell_any _ _).mono ?_; rintro e w' ⟨rfl, rfl⟩) | (go_at_call 157; refine (flag_any _ _).mono ?_; rintro e w' ⟨rfl, rfl⟩))
 go_ret2
 exact ⟨ret_ib (un_49 x) rfl, rfl⟩
set_option maxHeartbeats 400000 in
theorem unary_39 (x : Int) (hx : C x) (w : World) :
  Calls Tryz.prog 140 #[.int .i64 39, .int .u16 x] w fun e w' => e = .returned (.tuple #[.int .u16 (un 39 x), .bool true]) /\ w' = w := by
 have hs := sg_range hx
 have hx' := hx
 unfold C at hx'
 go_enter Tryz.func140, Tryz.ntmps140
 go_wp2_with (first | (go_at_call 155; refine (signed_any _ (by assumption) _).mono ?_; rintro e w' ⟨rfl, rfl⟩) | (go_at_call 156; refine (cell_any _ _).mono ?_; rintro e w' ⟨rfl, rfl⟩) | (go_at_call 157; refine (flag_any _ _).mono ?_; rintro e w' ⟨rfl, rfl⟩))
 go_ret2
 exact ⟨ret_ib (not_39 x hx) rfl, rfl⟩
set_option maxHeartbeats 400000 in
theorem unary_29p (x : Int) (hx : C x) (h : x < 32768) (w : World) :
  Calls Tryz.prog 140 #[.int .i64 29, .int .u16 x] w fun e w' => e = .returned (.tuple #[.int .u16 (un 29 x), .bool true]) /\ w' = w := by
 have hs := sg_range hx
 have h0 : 0 <= sg x := by have hx' := hx; unfold C at hx'; unfold sg; rw [if_pos h]; omega
 go_enter Tryz.func140, Tryz.ntmps140
 go_wp2_with (first | (go_at_call 155; refine (signed_any _ (by assumption) _).mono ?_; rintro e w' ⟨rfl, rfl⟩) | (go_at_call 156; refine (cell_any _ _).mono ?_; rintro e w' ⟨rfl, rfl⟩) | (go_at_call 157; refine (flag_any _ _).mono ?_; rintro e w' ⟨rfl, rfl⟩))
 go_ret2
 exact ⟨ret_ib (un_29p x hx h) rfl, rfl⟩
set_option maxHeartbeats 400000 in
theorem unary_29n (x : Int) (hx : C x) (h : 32768 <= x) (w : World) :
  Calls Tryz.prog 140 #[.int .i64 29, .int .u16 x] w fun e w' => e = .returned (.tuple #[.int .u16 (un 29 x), .bool true]) /\ w' = w := by
 have hs := sg_range hx
 have h0 : sg x < 0 := by have hx' := hx; unfold C at hx'; unfold sg; rw [if_neg (by omega)]; omega
 go_enter Tryz.func140, Tryz.ntmps140
 go_wp2_with (first | (go_at_call 155; refine (signed_any _ (by assumption) _).mono ?_; rintro e w' ⟨rfl, rfl⟩) | (go_at_call 156; refine (cell_any _ _).mono ?_; rintro e w' ⟨rfl, rfl⟩) | (go_at_call 157; refine (flag_any _ _).mono ?_; rintro e w' ⟨rfl, rfl⟩))
 go_ret2
 exact ⟨ret_ib (un_29n x h) rfl, rfl⟩
set_option maxHeartbeats 400000 in
theorem unary_no (op x : Int) (hx : C x) (h : isUn op = false) (w : World) :
  Calls Tryz.prog 140 #[.int .i64 op, .int .u16 x] w fun e w' => e = .returned (.tuple #[.int .u16 (un op x), .bool (isUn op)]) /\ w' = w := by
 have hz : Hid ((0 : Int) = un op x) := un_no op x h
 have hf : Hid (isUn op = false) := h
 have hh := h
 simp only [isUn, Bool.or_eq_false_iff] at hh
 obtain ⟨⟨⟨⟨⟨⟨⟨⟨e28, e29⟩, e32⟩, e33⟩, e34⟩, e35⟩, e39⟩, e48⟩, e49⟩ := hh
 clear h
 go_enter Tryz.func140, Tryz.ntmps140
 go_wp2_with (first | (go_at_call 155; refine (signed_any _ (by assumption) _).mono ?_; rintro e w' ⟨rfl, rfl⟩) | (go_at_call 156; refine (cell_any _ _).mono ?_; rintro e w' ⟨rfl, rfl⟩) | (go_at_call 157; refine (flag_any _ _).mono ?_; rintro e w' ⟨rfl, rfl⟩))
 go_ret2
 exact ⟨ret_ib hz.out hf.out.symm, rfl⟩
theorem unary_any (op x : Int) (hx : C x) (w : World) :
  Calls Tryz.prog 140 #[.int .i64 op, .int .u16 x] w fun e w' => e = .returned (.tuple #[.int .u16 (un op x), .bool (isUn op)]) /\ w' = w := by
 cases h : isUn op
 ·rw [<- h]; exact unary_no op x hx h w
 ·simp only [isUn, Bool.or_eq_true, beq_iff_eq] at h
  rcases h with (((((((h | h) | h) | h) | h) | h) | h) | h) | h <;> subst h
  ·exact unary_28 x hx w
  ·by_cases k : x < 32768
   ·exact unary_29p x hx k w
   ·exact unary_29n x hx (by omega) w
  ·exact unary_32 x hx w
  ·exact unary_33 x hx w
  ·exact unary_34 x hx w
  ·exact unary_35 x hx w
  ·exact unary_39 x hx w
  ·exact unary_48 x hx w
  ·exact unary_49 x hx w
theorem b_36 (x y : Int) (hx : C x) (hy : C y) : bits BinOp.and IntKind.u16 x y = bi 36 x y := by
 rw [u16_and x y hx.1 hx.2 hy.1 hy.2]; exact bi_36 x y hx
theorem b_37 (x y : Int) (hx : C x) (hy : C y) : bits BinOp.or IntKind.u16 x y = bi 37 x y := by
 rw [u16_or x y hx.1 hx.2 hy.1 hy.2]; exact bi_37 x y hx hy
theorem b_38 (x y : Int) (hx : C x) (hy : C y) : bits BinOp.xor IntKind.u16 x y = bi 38 x y := by
 rw [u16_xor x y hx.1 hx.2 hy.1 hy.2]; exact bi_38 x y hx hy
theorem b_40 (x y : Int) (hy : C y) : IntKind.u16.wrap (x * 2 ^ min y.toNat 16) = bi 40 x y := by
 unfold C at hy
 rw [IntKind.wrap_u16]
 by_cases h : 15 < y
 ·rw [<- bi_40g x y h, show min y.toNat 16 = 16 from by omega]; omega
 ·rw [<- bi_40l x y h, show min y.toNat 16 = y.toNat from by omega]; rfl
theorem b_41 (x y : Int) (hx : C x) : x / 2 ^ min y.toNat 16 = bi 41 x y := by
 by_cases h : 15 < y
 ·rw [<- bi_41g x y h, show min y.toNat 16 = 16 from by omega]; unfold C at hx; omega
 ·rw [<- bi_41l x y hx h, show min y.toNat 16 = y.toNat from by omega]
set_option maxHeartbeats 400000 in
theorem bin_36 (x y : Int) (hx : C x) (hy : C y) (w : World) :
  Calls Tryz.prog 152 #[.int .i64 36, .int .u16 x, .int .u16 y] w fun e w' => e = .returned (.tuple #[.int .u16 (bi 36 x y), .bool true]) /\ w' = w := by
 go_enter Tryz.func152, Tryz.ntmps152
 go_wp2_with (first | (go_at_call 155; refine (signed_any _ (by assumption) _).mono ?_; rintro e w' ⟨rfl, rfl⟩) | (go_at_call 156; refine (cell_any _ _).mono ?_; rintro e w' ⟨rfl, rfl⟩) | (go_at_call 157; refine (flag_any _ _).mono ?_; rintro e w' ⟨rfl, rfl⟩) | (go_at_call 162; refine (quotient_any _ _ (by omega) _).mono ?_; rintro e w' ⟨rfl, rfl⟩) | (go_at_call 163; refine (remainder_any _ _ (by omega) _).mono ?_; rintro e w' ⟨rfl, rfl⟩))
 go_ret2
 exact ⟨ret_ib (b_36 x y hx hy) rfl, rfl⟩
set_option maxHeartbeats 400000 in
theorem bin_37 (x y : Int) (hx : C x) (hy : C y) (w : World) :
  Calls Tryz.prog 152 #[.int .i64 37, .int .u16 x, .int .u16 y] w fun e w' => e = .returned (.tuple #[.int .u16 (bi 37 x y), .bool true]) /\ w' = w := by
 go_enter Tryz.func152, Tryz.ntmps152
 go_wp2_with (first | (go_at_call 155; refine (signed_any _ (by assumption) _).mono ?_; rintro e w' ⟨rfl, rfl⟩) | (go_at_call 156; refine (cell_any _ _).mono ?_; rintro e w' ⟨rfl, rfl⟩) | (go_at_call 157; refine (flag_any _ _).mono ?_; rintro e w' ⟨rfl, rfl⟩) | (go_at_call 162; refine (quotient_any _ _ (by omega) _).mono ?_; rintro e w' ⟨rfl, rfl⟩) | (go_at_call 163; refine (remainder_any _ _ (by omega) _).mono ?_; rintro e w' ⟨rfl, rfl⟩))
 go_ret2
 exact ⟨ret_ib (b_37 x y hx hy) rfl, rfl⟩
set_option maxHeartbeats 400000 in
theorem bin_38 (x y : Int) (hx : C x) (hy : C y) (w : World) :
  Calls Tryz.prog 152 #[.int .i64 38, .int .u16 x, .int .u16 y] w fun e w' => e = .returned (.tuple #[.int .u16 (bi 38 x y), .bool true]) /\ w' = w := by
 go_enter Tryz.func152, Tryz.ntmps152
 go_wp2_with (first | (go_at_call 155; refine (signed_any _ (by assumption) _).mono ?_; rintro e w' ⟨rfl, rfl⟩) | (go_at_call 156; refine (cell_any _ _).mono ?_; rintro e w' ⟨rfl, rfl⟩) | (go_at_call 157; refine (flag_any _ _).mono ?_; rintro e w' ⟨rfl, rfl⟩) | (go_at_call 162; refine (quotient_any _ _ (by omega) _).mono ?_; rintro e w' ⟨rfl, rfl⟩) | (go_at_call 163; refine (remainder_any _ _ (by omega) _).mono ?_; rintro e w' ⟨rfl, rfl⟩))
 go_ret2
 exact ⟨ret_ib (b_38 x y hx hy) rfl, rfl⟩
set_option maxHeartbeats 400000 in
theorem bin_40 (x y : Int) (hx : C x) (hy : C y) (w : World) :
  Calls Tryz.prog 152 #[.int .i64 40, .int .u16 x, .int .u16 y] w fun e w' => e = .returned (.tuple #[.int .u16 (bi 40 x y), .bool true]) /\ w' = w := by
 have kx := hx
 have ky := hy
 unfold C at kx ky
 go_enter Tryz.func152, Tryz.ntmps152
 go_wp2_with (first | (go_at_call 155; refine (signed_any _ (by assumption) _).mono ?_; rintro e w' ⟨rfl, rfl⟩) | (go_at_call 156; refine (cell_any _ _).mono ?_; rintro e w' ⟨rfl, rfl⟩) | (go_at_call 157; refine (flag_any _ _).mono ?_; rintro e w' ⟨rfl, rfl⟩) | (go_at_call 162; refine (quotient_any _ _ (by omega) _).mono ?_; rintro e w' ⟨rfl, rfl⟩) | (go_at_call 163; refine (remainder_any _ _ (by omega) _).mono ?_; rintro e w' ⟨rfl, rfl⟩))
 go_ret2
 exact ⟨ret_ib (b_40 x y hy) rfl, rfl⟩
set_option maxHeartbeats 400000 in
theorem bin_41 (x y : Int) (hx : C x) (hy : C y) (w : World) :
  Calls Tryz.prog 152 #[.int .i64 41, .int .u16 x, .int .u16 y] w fun e w' => e = .returned (.tuple #[.int .u16 (bi 41 x y), .bool true]) /\ w' = w := by
 have kx := hx
 have ky := hy
 unfold C at kx ky
 go_enter Tryz.func152, Tryz.ntmps152
 go_wp2_with (first | (go_at_call 155; refine (signed_any _ (by assumption) _).mono ?_; rintro e w' ⟨rfl, rfl⟩) | (go_at_call 156; refine (cell_any _ _).mono ?_; rintro e w' ⟨rfl, rfl⟩) | (go_at_call 157; refine (flag_any _ _).mono ?_; rintro e w' ⟨rfl, rfl⟩) | (go_at_call 162; refine (quotient_any _ _ (by omega) _).mono ?_; rintro e w' ⟨rfl, rfl⟩) | (go_at_call 163; refine (remainder_any _ _ (by omega) _).mono ?_; rintro e w' ⟨rfl, rfl⟩))
 go_ret2
 exact ⟨ret_ib (b_41 x y hx) rfl, rfl⟩
set_option maxHeartbeats 400000 in
theorem bin_21 (x y : Int) (hx : C x) (hy : C y) (w : World) :
  Calls Tryz.prog 153 #[.int .i64 21, .int .u16 x, .int .u16 y] w fun e w' => e = .returned (.tuple #[.int .u16 (bi 21 x y), .bool true]) /\ w' = w := by
 have hs := sg_range hx
 have ht := sg_range hy
 go_enter Tryz.func153, Tryz.ntmps153
 go_wp2_with (first | (go_at_call 155; refine (signed_any _ (by assumption) _).mono ?_; rintro e w' ⟨rfl, rfl⟩) | (go_at_call 156; refine (cell_any _ _).mono ?_; rintro e w' ⟨rfl, rfl⟩) | (go_at_call 157; refine (flag_any _ _).mono ?_; rintro e w' ⟨rfl, rfl⟩) | (go_at_call 162; refine (quotient_any _ _ (by omega) _).mono ?_; rintro e w' ⟨rfl, rfl⟩) | (go_at_call 163; refine (remainder_any _ _ (by omega) _).mono ?_; rintro e w' ⟨rfl, rfl⟩))
 go_ret2
 exact ⟨ret_ib (bi_21 x y) rfl, rfl⟩
set_option maxHeartbeats 400000 in
theorem bin_22 (x y : Int) (hx : C x) (hy : C y) (w : World) :
  Calls Tryz.prog 153 #[.int .i64 22, .int .u16 x, .int .u16 y] w fun e w' => e = .returned (.tuple #[.int .u16 (bi 22 x y), .bool true]) /\ w' = w := by
 have hs := sg_range hx
 have ht := sg_range hy
 go_enter Tryz.func153, Tryz.ntmps153
 go_wp2_with (first | (go_at_call 155; refine (signed_any _ (by assumption) _).mono ?_; rintro e w' ⟨rfl, rfl⟩) | (go_at_call 156; refine (cell_any _ _).mono ?_; rintro e w' ⟨rfl, rfl⟩) | (go_at_call 157; refine (flag_any _ _).mono ?_; rintro e w' ⟨rfl, rfl⟩) | (go_at_call 162; refine (quotient_any _ _ (by omega) _).mono ?_; rintro e w' ⟨rfl, rfl⟩) | (go_at_call 163; refine (remainder_any _ _ (by omega) _).mono ?_; rintro e w' ⟨rfl, rfl⟩))
 go_ret2
 exact ⟨ret_ib (bi_22 x y) rfl, rfl⟩
set_option maxHeartbeats 400000 in
theorem bin_23 (x y : Int) (hx : C x) (hy : C y) (w : World) :
  Calls Tryz.prog 153 #[.int .i64 23, .int .u16 x, .int .u16 y] w fun e w' => e = .returned (.tuple #[.int .u16 (bi 23 x y), .bool true]) /\ w' = w := by
 have hs := sg_range hx
 have ht := sg_range hy
 have hm := mul_range (sg x) (sg y) (by omega) (by omega)
 go_enter Tryz.func153, Tryz.ntmps153
 go_wp2_with (first | (go_at_call 155; refine (signed_any _ (by assumption) _).mono ?_; rintro e w' ⟨rfl, rfl⟩) | (go_at_call 156; refine (cell_any _ _).mono ?_; rintro e w' ⟨rfl, rfl⟩) | (go_at_call 157; refine (flag_any _ _).mono ?_; rintro e w' ⟨rfl, rfl⟩) | (go_at_call 162; refine (quotient_any _ _ (by omega) _).mono ?_; rintro e w' ⟨rfl, rfl⟩) | (go_at_call 163; refine (remainder_any _ _ (by omega) _).mono ?_; rintro e w' ⟨rfl, rfl⟩))
 go_ret2
 exact ⟨ret_ib (bi_23 x y) rfl, rfl⟩
set_option maxHeartbeats 400000 in
theorem bin_24 (x y : Int) (hx : C x) (hy : C y) (w : World) :
  Calls Tryz.prog 153 #[.int .i64 24, .int .u16 x, .int .u16 y] w fun e w' => e = .returned (.tuple #[.int .u16 (bi 24 x y), .bool true]) /\ w' = w := by
 have hs := sg_range hx
 have ht := sg_range hy
 go_enter Tryz.func153, Tryz.ntmps153
 go_wp2_with (first | (go_at_call 155; refine (signed_any _ (by assumption) _).mono ?_; rintro e w' ⟨rfl, rfl⟩) | (go_at_call 156; refine (cell_any _ _).mono ?_; rintro e w' ⟨rfl, rfl⟩) | (go_at_call 157; refine (flag_any _ _).mono ?_; rintro e w' ⟨rfl, rfl⟩) | (go_at_call 162; refine (quotient_any _ _ (by omega) _).mono ?_; rintro e w' ⟨rfl, rfl⟩) | (go_at_call 163; refine (remainder_any _ _ (by omega) _).mono ?_; rintro e w' ⟨rfl, rfl⟩))
 go_ret2
 exact ⟨ret_ib (bi_24 x y hy) rfl, rfl⟩
set_option maxHeartbeats 400000 in
theorem bin_25 (x y : Int) (hx : C x) (hy : C y) (w : World) :
  Calls Tryz.prog 153 #[.int .i64 25, .int .u16 x, .int .u16 y] w fun e w' => e = .returned (.tuple #[.int .u16 (bi 25 x y), .bool true]) /\ w' = w := by
 have hs := sg_range hx
 have ht := sg_range hy
 go_enter Tryz.func153, Tryz.ntmps153
 go_wp2_with (first | (go_at_call 155; refine (signed_any _ (by assumption) _).mono ?_; rintro e w' ⟨rfl, rfl⟩) | (go_at_call 156; refine (cell_any _ _).mono ?_; rintro e w' ⟨rfl, rfl⟩) | (go_at_call 157; refine (flag_any _ _).mono ?_; rintro e w' ⟨rfl, rfl⟩) | (go_at_call 162; refine (quotient_any _ _ (by omega) _).mono ?_; rintro e w' ⟨rfl, rfl⟩) | (go_at_call 163; refine (remainder_any _ _ (by omega) _).mono ?_; rintro e w' ⟨rfl, rfl⟩))
 go_ret2
 exact ⟨ret_ib (bi_25 x y hy) rfl, rfl⟩
set_option maxHeartbeats 400000 in
theorem bin_26 (x y : Int) (hx : C x) (hy : C y) (w : World) :
  Calls Tryz.prog 153 #[.int .i64 26, .int .u16 x, .int .u16 y] w fun e w' => e = .returned (.tuple #[.int .u16 (bi 26 x y), .bool true]) /\ w' = w := by
 have hs := sg_range hx
 have ht := sg_range hy
 have kx := hx
 have ky := hy
 unfold C at kx ky
 go_enter Tryz.func153, Tryz.ntmps153
 go_wp2_with (first | (go_at_call 155; refine (signed_any _ (by assumption) _).mono ?_; rintro e w' ⟨rfl, rfl⟩) | (go_at_call 156; refine (cell_any _ _).mono ?_; rintro e w' ⟨rfl, rfl⟩) | (go_at_call 157; refine (flag_any _ _).mono ?_; rintro e w' ⟨rfl, rfl⟩) | (go_at_call 162; refine (quotient_any _ _ (by omega) _).mono ?_; rintro e w' ⟨rfl, rfl⟩) | (go_at_call 163; refine (remainder_any _ _ (by omega) _).mono ?_; rintro e w' ⟨rfl, rfl⟩))
 go_ret2
 exact ⟨ret_ib (bi_26 x y hx) rfl, rfl⟩
set_option maxHeartbeats 400000 in
theorem bin_27 (x y : Int) (hx : C x) (hy : C y) (w : World) :
  Calls Tryz.prog 153 #[.int .i64 27, .int .u16 x, .int .u16 y] w fun e w' => e = .returned (.tuple #[.int .u16 (bi 27 x y), .bool true]) /\ w' = w := by
 have hs := sg_range hx
 have ht := sg_range hy
 have kx := hx
 have ky := hy
 unfold C at kx ky
 go_enter Tryz.func153, Tryz.ntmps153
 go_wp2_with (first | (go_at_call 155; refine (signed_any _ (by assumption) _).mono ?_; rintro e w' ⟨rfl, rfl⟩) | (go_at_call 156; refine (cell_any _ _).mono ?_; rintro e w' ⟨rfl, rfl⟩) | (go_at_call 157; refine (flag_any _ _).mono ?_; rintro e w' ⟨rfl, rfl⟩) | (go_at_call 162; refine (quotient_any _ _ (by omega) _).mono ?_; rintro e w' ⟨rfl, rfl⟩) | (go_at_call 163; refine (remainder_any _ _ (by omega) _).mono ?_; rintro e w' ⟨rfl, rfl⟩))
 go_ret2
 exact ⟨ret_ib (bi_27 x y hx) rfl, rfl⟩
set_option maxHeartbeats 400000 in
theorem bin_30l (x y : Int) (hx : C x) (hy : C y) (h : sg x <= sg y) (w : World) :
  Calls Tryz.prog 153 #[.int .i64 30, .int .u16 x, .int .u16 y] w fun e w' => e = .returned (.tuple #[.int .u16 (bi 30 x y), .bool true]) /\ w' = w := by
 have hs := sg_range hx
 have ht := sg_range hy
 go_enter Tryz.func153, Tryz.ntmps153
 go_wp2_with (first | (go_at_call 155; refine (signed_any _ (by assumption) _).mono ?_; rintro e w' ⟨rfl, rfl⟩) | (go_at_call 156; refine (cell_any _ _).mono ?_; rintro e w' ⟨rfl, rfl⟩) | (go_at_call 157; refine (flag_any _ _).mono ?_; rintro e w' ⟨rfl, rfl⟩) | (go_at_call 162; refine (quotient_any _ _ (by omega) _).mono ?_; rintro e w' ⟨rfl, rfl⟩) | (go_at_call 163; refine (remainder_any _ _ (by omega) _).mono ?_; rintro e w' ⟨rfl, rfl⟩))
 go_ret2
 exact ⟨ret_ib (bi_30l x y h) rfl, rfl⟩
set_option maxHeartbeats 400000 in
theorem bin_30g (x y : Int) (hx : C x) (hy : C y) (h : sg y < sg x) (w : World) :
  Calls Tryz.prog 153 #[.int .i64 30, .int .u16 x, .int .u16 y] w fun e w' => e = .returned (.tuple #[.int .u16 (bi 30 x y), .bool true]) /\ w' = w := by
 have hs := sg_range hx
 have ht := sg_range hy
 go_enter Tryz.func153, Tryz.ntmps153
 go_wp2_with (first | (go_at_call 155; refine (signed_any _ (by assumption) _).mono ?_; rintro e w' ⟨rfl, rfl⟩) | (go_at_call 156; refine (cell_any _ _).mono ?_; rintro e w' ⟨rfl, rfl⟩) | (go_at_call 157; refine (flag_any _ _).mono ?_; rintro e w' ⟨rfl, rfl⟩) | (go_at_call 162; refine (quotient_any _ _ (by omega) _).mono ?_; rintro e w' ⟨rfl, rfl⟩) | (go_at_call 163; refine (remainder_any _ _ (by omega) _).mono ?_; rintro e w' ⟨rfl, rfl⟩))
 go_ret2
 exact ⟨ret_ib (bi_30g x y h) rfl, rfl⟩
set_option maxHeartbeats 400000 in
theorem bin_31l (x y : Int) (hx : C x) (hy : C y) (h : sg x < sg y) (w : World) :
  Calls Tryz.prog 153 #[.int .i64 31, .int .u16 x, .int .u16 y] w fun e w' => e = .returned (.tuple #[.int .u16 (bi 31 x y), .bool true]) /\ w' = w := by
 have hs := sg_range hx
 have ht := sg_range hy
 go_enter Tryz.func153, Tryz.ntmps153
 go_wp2_with (first | (go_at_call 155; refine (signed_any _ (by assumption) _).mono ?_; rintro e w' ⟨rfl, rfl⟩) | (go_at_call 156; refine (cell_any _ _).mono ?_; rintro e w' ⟨rfl, rfl⟩) | (go_at_call 157; refine (flag_any _ _).mono ?_; rintro e w' ⟨rfl, rfl⟩) | (go_at_call 162; refine (quotient_any _ _ (by omega) _).mono ?_; rintro e w' ⟨rfl, rfl⟩) | (go_at_call 163; refine (remainder_any _ _ (by omega) _).mono ?_; rintro e w' ⟨rfl, rfl⟩))
 go_ret2
 exact ⟨ret_ib (bi_31l x y h) rfl, rfl⟩
set_option maxHeartbeats 400000 in
theorem bin_31g (x y : Int) (hx : C x) (hy : C y) (h : sg y <= sg x) (w : World) :
  Calls Tryz.prog 153 #[.int .i64 31, .int .u16 x, .int .u16 y] w fun e w' => e = .returned (.tuple #[.int .u16 (bi 31 x y), .bool true]) /\ w' = w := by
 have hs := sg_range hx
 have ht := sg_range hy
 go_enter Tryz.func153, Tryz.ntmps153
 go_wp2_with (first | (go_at_call 155; refine (signed_any _ (by assumption) _).mono ?_; rintro e w' ⟨rfl, rfl⟩) | (go_at_call 156; refine (cell_any _ _).mono ?_; rintro e w' ⟨rfl, rfl⟩) | (go_at_call 157; refine (flag_any _ _).mono ?_; rintro e w' ⟨rfl, rfl⟩) | (go_at_call 162; refine (quotient_any _ _ (by omega) _).mono ?_; rintro e w' ⟨rfl, rfl⟩) | (go_at_call 163; refine (remainder_any _ _ (by omega) _).mono ?_; rintro e w' ⟨rfl, rfl⟩))
 go_ret2
 exact ⟨ret_ib (bi_31g x y h) rfl, rfl⟩
set_option maxHeartbeats 400000 in
theorem bin_42 (x y : Int) (hx : C x) (hy : C y) (w : World) :
  Calls Tryz.prog 154 #[.int .i64 42, .int .u16 x, .int .u16 y] w fun e w' => e = .returned (.tuple #[.int .u16 (bi 42 x y), .bool true]) /\ w' = w := by
 have hs := sg_range hx
 have ht := sg_range hy
 go_enter Tryz.func154, Tryz.ntmps154
 go_wp2_with (first | (go_at_call 155; refine (signed_any _ (by assumption) _).mono ?_; rintro e w' ⟨rfl, rfl⟩) | (go_at_call 156; refine (cell_any _ _).mono ?_; rintro e w' ⟨rfl, rfl⟩) | (go_at_call 157; refine (flag_any _ _).mono ?_; rintro e w' ⟨rfl, rfl⟩) | (go_at_call 162; refine (quotient_any _ _ (by omega) _).mono ?_; rintro e w' ⟨rfl, rfl⟩) | (go_at_call 163; refine (remainder_any _ _ (by omega) _).mono ?_; rintro e w' ⟨rfl, rfl⟩))
 go_ret2
 exact ⟨ret_ib (bi_42 x y) rfl, rfl⟩
set_option maxHeartbeats 400000 in
theorem bin_43 (x y : Int) (hx : C x) (hy : C y) (w : World) :
  Calls Tryz.prog 154 #[.int .i64 43, .int .u16 x, .int .u16 y] w fun e w' => e = .returned (.tuple #[.int .u16 (bi 43 x y), .bool true]) /\ w' = w := by
 have hs := sg_range hx
 have ht := sg_range hy
 go_enter Tryz.func154, Tryz.ntmps154
 go_wp2_with (first | (go_at_call 155; refine (signed_any _ (by assumption) _).mono ?_; rintro e w' ⟨rfl, rfl⟩) | (go_at_call 156; refine (cell_any _ _).mono ?_; rintro e w' ⟨rfl, rfl⟩) | (go_at_call 157; refine (flag_any _ _).mono ?_; rintro e w' ⟨rfl, rfl⟩) | (go_at_call 162; refine (quotient_any _ _ (by omega) _).mono ?_; rintro e w' ⟨rfl, rfl⟩) | (go_at_call 163; refine (remainder_any _ _ (by omega) _).mono ?_; rintro e w' ⟨rfl, rfl⟩))
 go_ret2
 exact ⟨ret_ib (bi_43 x y) rfl, rfl⟩
set_option maxHeartbeats 400000 in
theorem bin_44 (x y : Int) (hx : C x) (hy : C y) (w : World) :
  Calls Tryz.prog 154 #[.int .i64 44, .int .u16 x, .int .u16 y] w fun e w' => e = .returned (.tuple #[.int .u16 (bi 44 x y), .bool true]) /\ w' = w := by
 have hs := sg_range hx
 have ht := sg_range hy
 go_enter Tryz.func154, Tryz.ntmps154
 go_wp2_with (first | (go_at_call 155; refine (signed_any _ (by assumption) _).mono ?_; rintro e w' ⟨rfl, rfl⟩) | (go_at_call 156; refine (cell_any _ _).mono ?_; rintro e w' ⟨rfl, rfl⟩) | (go_at_call 157; refine (flag_any _ _).mono ?_; rintro e w' ⟨rfl, rfl⟩) | (go_at_call 162; refine (quotient_any _ _ (by omega) _).mono ?_; rintro e w' ⟨rfl, rfl⟩) | (go_at_call 163; refine (remainder_any _ _ (by omega) _).mono ?_; rintro e w' ⟨rfl, rfl⟩))
 go_ret2
 exact ⟨ret_ib (bi_44 x y) rfl, rfl⟩
set_option maxHeartbeats 400000 in
theorem bin_45 (x y : Int) (hx : C x) (hy : C y) (w : World) :
  Calls Tryz.prog 154 #[.int .i64 45, .int .u16 x, .int .u16 y] w fun e w' => e = .returned (.tuple #[.int .u16 (bi 45 x y), .bool true]) /\ w' = w := by
 have hs := sg_range hx
 have ht := sg_range hy
 go_enter Tryz.func154, Tryz.ntmps154
 go_wp2_with (first | (go_at_call 155; refine (signed_any _ (by assumption) _).mono ?_; rintro e w' ⟨rfl, rfl⟩) | (go_at_call 156; refine (cell_any _ _).mono ?_; rintro e w' ⟨rfl, rfl⟩) | (go_at_call 157; refine (flag_any _ _).mono ?_; rintro e w' ⟨rfl, rfl⟩) | (go_at_call 162; refine (quotient_any _ _ (by omega) _).mono ?_; rintro e w' ⟨rfl, rfl⟩) | (go_at_call 163; refine (remainder_any _ _ (by omega) _).mono ?_; rintro e w' ⟨rfl, rfl⟩))
 go_ret2
 exact ⟨ret_ib (bi_45 x y) rfl, rfl⟩
set_option maxHeartbeats 400000 in
theorem bin_46 (x y : Int) (hx : C x) (hy : C y) (w : World) :
  Calls Tryz.prog 154 #[.int .i64 46, .int .u16 x, .int .u16 y] w fun e w' => e = .returned (.tuple #[.int .u16 (bi 46 x y), .bool true]) /\ w' = w := by
 have hs := sg_range hx
 have ht := sg_range hy
 have kx := hx
 have ky := hy
 unfold C at kx ky
 go_enter Tryz.func154, Tryz.ntmps154
 go_wp2_with (first | (go_at_call 155; refine (signed_any _ (by assumption) _).mono ?_; rintro e w' ⟨rfl, rfl⟩) | (go_at_call 156; refine (cell_any _ _).mono ?_; rintro e w' ⟨rfl, rfl⟩) | (go_at_call 157; refine (flag_any _ _).mono ?_; rintro e w' ⟨rfl, rfl⟩) | (go_at_call 162; refine (quotient_any _ _ (by omega) _).mono ?_; rintro e w' ⟨rfl, rfl⟩) | (go_at_call 163; refine (remainder_any _ _ (by omega) _).mono ?_; rintro e w' ⟨rfl, rfl⟩))
 go_ret2
 exact ⟨ret_ib (bi_46 x y) rfl, rfl⟩
set_option maxHeartbeats 400000 in
theorem bin_47 (x y : Int) (hx : C x) (hy : C y) (w : World) :
  Calls Tryz.prog 154 #[.int .i64 47, .int .u16 x, .int .u16 y] w fun e w' => e = .returned (.tuple #[.int .u16 (bi 47 x y), .bool true]) /\ w' = w := by
 have hs := sg_range hx
 have ht := sg_range hy
 have kx := hx
 have ky := hy
 unfold C at kx ky
 go_enter Tryz.func154, Tryz.ntmps154
 go_wp2_with (first | (go_at_call 155; refine (signed_any _ (by assumption) _).mono ?_; rintro e w' ⟨rfl, rfl⟩) | (go_at_call 156; refine (cell_any _ _).mono ?_; rintro e w' ⟨rfl, rfl⟩) | (go_at_call 157; refine (flag_any _ _).mono ?_; rintro e w' ⟨rfl, rfl⟩) | (go_at_call 162; refine (quotient_any _ _ (by omega) _).mono ?_; rintro e w' ⟨rfl, rfl⟩) | (go_at_call 163; refine (remainder_any _ _ (by omega) _).mono ?_; rintro e w' ⟨rfl, rfl⟩))
 go_ret2
 exact ⟨ret_ib (bi_47 x y) rfl, rfl⟩
set_option maxHeartbeats 400000 in
theorem bit_no (op x y : Int) (h : isBit op = false) (w : World) :
  Calls Tryz.prog 152 #[.int .i64 op, .int .u16 x, .int .u16 y] w fun e w' => e = .returned (.tuple #[.int .u16 0, .bool false]) /\ w' = w := by
 simp only [isBit, Bool.or_eq_false_iff] at h
 obtain ⟨⟨⟨⟨e0, e1⟩, e2⟩, e3⟩, e4⟩ := h
 go_enter Tryz.func152, Tryz.ntmps152
 go_wp2_with (first | (go_at_call 155; refine (signed_any _ (by assumption) _).mono ?_; rintro e w' ⟨rfl, rfl⟩) | (go_at_call 156; refine (cell_any _ _).mono ?_; rintro e w' ⟨rfl, rfl⟩) | (go_at_call 157; refine (flag_any _ _).mono ?_; rintro e w' ⟨rfl, rfl⟩) | (go_at_call 162; refine (quotient_any _ _ (by omega) _).mono ?_; rintro e w' ⟨rfl, rfl⟩) | (go_at_call 163; refine (remainder_any _ _ (by omega) _).mono ?_; rintro e w' ⟨rfl, rfl⟩))
 go_ret2
 exact ⟨rfl, rfl⟩
set_option maxHeartbeats 400000 in
theorem ari_no (op x y : Int) (hx : C x) (hy : C y) (h : isAri op = false) (w : World) :
  Calls Tryz.prog 153 #[.int .i64 op, .int .u16 x, .int .u16 y] w fun e w' => e = .returned (.tuple #[.int .u16 0, .bool false]) /\ w' = w := by
 simp only [isAri, Bool.or_eq_false_iff] at h
 obtain ⟨⟨⟨⟨⟨⟨⟨⟨e0, e1⟩, e2⟩, e3⟩, e4⟩, e5⟩, e6⟩, e7⟩, e8⟩ := h
 go_enter Tryz.func153, Tryz.ntmps153
 go_wp2_with (first | (go_at_call 155; refine (signed_any _ (by assumption) _).mono ?_; rintro e w' ⟨rfl, rfl⟩) | (go_at_call 156; refine (cell_any _ _).mono ?_; rintro e w' ⟨rfl, rfl⟩) | (go_at_call 157; refine (flag_any _ _).mono ?_; rintro e w' ⟨rfl, rfl⟩) | (go_at_call 162; refine (quotient_any _ _ (by omega) _).mono ?_; rintro e w' ⟨rfl, rfl⟩) | (go_at_call 163; refine (remainder_any _ _ (by omega) _).mono ?_; rintro e w' ⟨rfl, rfl⟩))
 go_ret2
 exact ⟨rfl, rfl⟩
set_option maxHeartbeats 400000 in
theorem cmp_no (op x y : Int) (hx : C x) (hy : C y) (h : isCmp op = false) (w : World) :
  Calls Tryz.prog 154 #[.int .i64 op, .int .u16 x, .int .u16 y] w fun e w' => e = .returned (.tuple #[.int .u16 0, .bool false]) /\ w' = w := by
 simp only [isCmp, Bool.or_eq_false_iff] at h
 obtain ⟨⟨⟨⟨⟨e0, e1⟩, e2⟩, e3⟩, e4⟩, e5⟩ := h
 go_enter Tryz.func154, Tryz.ntmps154
 go_wp2_with (first | (go_at_call 155; refine (signed_any _ (by assumption) _).mono ?_; rintro e w' ⟨rfl, rfl⟩) | (go_at_call 156; refine (cell_any _ _).mono ?_; rintro e w' ⟨rfl, rfl⟩) | (go_at_call 157; refine (flag_any _ _).mono ?_; rintro e w' ⟨rfl, rfl⟩) | (go_at_call 162; refine (quotient_any _ _ (by omega) _).mono ?_; rintro e w' ⟨rfl, rfl⟩) | (go_at_call 163; refine (remainder_any _ _ (by omega) _).mono ?_; rintro e w' ⟨rfl, rfl⟩))
 go_ret2
 exact ⟨rfl, rfl⟩
theorem bit_yes (op x y : Int) (hx : C x) (hy : C y) (h : isBit op = true) (w : World) :
  Calls Tryz.prog 152 #[.int .i64 op, .int .u16 x, .int .u16 y] w fun e w' => e = .returned (.tuple #[.int .u16 (bi op x y), .bool true]) /\ w' = w := by
 simp only [isBit, Bool.or_eq_true, beq_iff_eq] at h
 rcases h with (((h | h) | h) | h) | h <;> subst h
 ·exact bin_36 x y hx hy w
 ·exact bin_37 x y hx hy w
 ·exact bin_38 x y hx hy w
 ·exact bin_40 x y hx hy w
 ·exact bin_41 x y hx hy w
theorem ari_yes (op x y : Int) (hx : C x) (hy : C y) (h : isAri op = true) (w : World) :
  Calls Tryz.prog 153 #[.int .i64 op, .int .u16 x, .int .u16 y] w fun e w' => e = .returned (.tuple #[.int .u16 (bi op x y), .bool true]) /\ w' = w := by
 simp only [isAri, Bool.or_eq_true, beq_iff_eq] at h
 rcases h with (((((((h | h) | h) | h) | h) | h) | h) | h) | h <;> subst h
 ·exact bin_22 x y hx hy w
 ·exact bin_21 x y hx hy w
 ·exact bin_23 x y hx hy w
 ·exact bin_26 x y hx hy w
 ·exact bin_24 x y hx hy w
 ·exact bin_27 x y hx hy w
 ·exact bin_25 x y hx hy w
 ·by_cases k : sg y < sg x
  ·exact bin_30g x y hx hy k w
  ·exact bin_30l x y hx hy (by omega) w
 ·by_cases k : sg x < sg y
  ·exact bin_31l x y hx hy k w
  ·exact bin_31g x y hx hy (by omega) w
theorem cmp_yes (op x y : Int) (hx : C x) (hy : C y) (h : isCmp op = true) (w : World) :
  Calls Tryz.prog 154 #[.int .i64 op, .int .u16 x, .int .u16 y] w fun e w' => e = .returned (.tuple #[.int .u16 (bi op x y), .bool true]) /\ w' = w := by
 simp only [isCmp, Bool.or_eq_true, beq_iff_eq] at h
 rcases h with ((((h | h) | h) | h) | h) | h <;> subst h
 ·exact bin_42 x y hx hy w
 ·exact bin_43 x y hx hy w
 ·exact bin_46 x y hx hy w
 ·exact bin_44 x y hx hy w
 ·exact bin_47 x y hx hy w
 ·exact bin_45 x y hx hy w
set_option maxHeartbeats 400000 in
theorem binary_any (op x y : Int) (hx : C x) (hy : C y) (w : World) :
  Calls Tryz.prog 138 #[.int .i64 op, .int .u16 x, .int .u16 y] w fun e w' => e = .returned (.tuple #[.int .u16 (bi op x y), .bool (isBi op)]) /\ w' = w := by
 cases h : isBit op
 ·cases k : isAri op
  ·cases l : isCmp op
   ·have hz : Hid ((0 : Int) = bi op x y) := bi_no op x y (isBi_none h k l)
    have hf : Hid (isBi op = false) := isBi_none h k l
    have H : Hid (isBit op = false) := h
    have K : Hid (isAri op = false) := k
    have L : Hid (isCmp op = false) := l
    clear h k l
    go_enter Tryz.func138, Tryz.ntmps138
    go_wp2_with (first | (go_at_call 152; refine (bit_no _ _ _ H.out _).mono ?_; rintro e w' ⟨rfl, rfl⟩) | (go_at_call 153; refine (ari_no _ _ _ hx hy K.out _).mono ?_; rintro e w' ⟨rfl, rfl⟩) | (go_at_call 154; refine (cmp_no _ _ _ hx hy L.out _).mono ?_; rintro e w' ⟨rfl, rfl⟩))
    go_ret2
    exact ⟨ret_ib hz.out hf.out.symm, rfl⟩
   ·have hf : Hid (isBi op = true) := isBi_cmp l
    have H : Hid (isBit op = false) := h
    have K : Hid (isAri op = false) := k
    have L : Hid (isCmp op = true) := l
    clear h k l
    go_enter Tryz.func138, Tryz.ntmps138
    go_wp2_with (first | (go_at_call 152; refine (bit_no _ _ _ H.out _).mono ?_; rintro e w' ⟨rfl, rfl⟩) | (go_at_call 153; refine (ari_no _ _ _ hx hy K.out _).mono ?_; rintro e w' ⟨rfl, rfl⟩) | (go_at_call 154; refine (cmp_yes _ _ _ hx hy L.out _).mono ?_; rintro e w' ⟨rfl, rfl⟩))
    go_ret2
    exact ⟨ret_ib rfl hf.out.symm, rfl⟩
  ·have hf : Hid (isBi op = true) := isBi_ari k
   have H : Hid (isBit op = false) := h
   have K : Hid (isAri op = true) := k
   clear h k
   go_enter Tryz.func138, Tryz.ntmps138
   go_wp2_with (first | (go_at_call 152; refine (bit_no _ _ _ H.out _).mono ?_; rintro e w' ⟨rfl, rfl⟩) | (go_at_call 153; refine (ari_yes _ _ _ hx hy K.out _).mono ?_; rintro e w' ⟨rfl, rfl⟩))
   go_ret2
   exact ⟨ret_ib rfl hf.out.symm, rfl⟩
 ·have hf : Hid (isBi op = true) := isBi_bit h
  have H : Hid (isBit op = true) := h
  clear h
  go_enter Tryz.func138, Tryz.ntmps138
  go_wp2_with (first | (go_at_call 152; refine (bit_yes _ _ _ hx hy H.out _).mono ?_; rintro e w' ⟨rfl, rfl⟩))
  go_ret2
  exact ⟨ret_ib rfl hf.out.symm, rfl⟩
end Go.Proofs.YtoemoiehjdmheaaGreat.C
