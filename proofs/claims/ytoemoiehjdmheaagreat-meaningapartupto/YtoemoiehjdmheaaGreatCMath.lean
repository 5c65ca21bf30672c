
namespace Go.Proofs.YtoemoiehjdmheaaGreat.C
def C (x : Int) : Prop := 0 <= x /\ x < 65536
def sg (x : Int) : Int := if x < 32768 then x else x - 65536
def cl (n : Int) : Int := n % 65536
def fl (b : Bool) : Int := if b then 65535 else 0
def unRaw (op x : Int) : Int :=
 if op = 28 then -x else if op = 29 then (if x < 32768 then x else -x) else if op = 32 then x + 1 else if op = 33 then x - 1
 else if op = 34 then x + x else if op = 35 then sg x / 2 else if op = 39 then 65535 - x
 else if op = 48 then fl (decide (x = 0)) else if op = 49 then fl (decide (sg x < 0)) else 0
def un (op x : Int) : Int := cl (unRaw op x)
def isUn (op : Int) : Bool :=
 op == 28 || op == 29 || op == 32 || op == 33 || op == 34 || op == 35 || op == 39 || op == 48 || op == 49
def biRaw (op x y : Int) : Int :=
 if op = 21 then x + y else if op = 22 then x - y else if op = 23 then x * y
 else if op = 24 then (if y = 0 then 0 else (sg x).tdiv (sg y)) else if op = 25 then (if y = 0 then 0 else (sg x).tmod (sg y))
 else if op = 26 then (if y = 0 then 0 else x / y) else if op = 27 then (if y = 0 then 0 else x % y)
 else if op = 30 then min (sg x) (sg y) else if op = 31 then max (sg x) (sg y)
 else if op = 36 then ((x.toNat &&& y.toNat : Nat) : Int) else if op = 37 then ((x.toNat ||| y.toNat : Nat) : Int)
 else if op = 38 then ((x.toNat ^^^ y.toNat : Nat) : Int)
 else if op = 40 then (if 15 < y then 0 else x * 2 ^ y.toNat) else if op = 41 then (if 15 < y then 0 else x / 2 ^ y.toNat)
 else if op = 42 then fl (decide (x = y)) else if op = 43 then fl (decide (x ≠ y))
 else if op = 44 then fl (decide (sg x < sg y)) else if op = 45 then fl (decide (sg y < sg x))
 else if op = 46 then fl (decide (x < y)) else if op = 47 then fl (decide (y < x)) else 0
def bi (op x y : Int) : Int := cl (biRaw op x y)
def isBi (op : Int) : Bool :=
 op == 21 || op == 22 || op == 23 || op == 24 || op == 25 || op == 26 || op == 27 || op == 30 || op == 31 || op == 36
 || op == 37 || op == 38 || op == 40 || op == 41 || op == 42 || op == 43 || op == 44 || op == 45 || op == 46 || op == 47
theorem C_cl (n : Int) : C (cl n) := by unfold C cl; omega
theorem C_un (op x : Int) : C (un op x) := C_cl _
theorem C_bi (op x y : Int) : C (bi op x y) := C_cl _
theorem cl_id {n : Int} (h : C n) : cl n = n := by unfold C at h; unfold cl; omega
theorem sg_range {x : Int} (h : C x) : -32768 <= sg x /\ sg x <= 32767 := by unfold C at h; unfold sg; split <;> omega
theorem sg_mod (x : Int) : sg x % 65536 = x % 65536 := by unfold sg; split <;> omega
theorem un_28 (x : Int) : cl (-sg x) = un 28 x := by have := sg_mod x; simp [un, unRaw, cl]; omega
theorem un_29n (x : Int) (h : 32768 <= x) : cl (-sg x) = un 29 x := by
 have := sg_mod x
 have k : ¬ x < 32768 := by omega
 simp [un, unRaw, cl, k]; omega
theorem un_29p (x : Int) (hx : C x) (h : x < 32768) : x = un 29 x := by unfold C at hx; simp [un, unRaw, cl, h]; omega
theorem un_32 (x : Int) : cl (sg x + 1) = un 32 x := by have := sg_mod x; simp [un, unRaw, cl]; omega
theorem un_33 (x : Int) : cl (sg x - 1) = un 33 x := by have := sg_mod x; simp [un, unRaw, cl]; omega
theorem un_34 (x : Int) : cl (sg x + sg x) = un 34 x := by have := sg_mod x; simp [un, unRaw, cl]; omega
theorem un_35 (x : Int) : cl (sg x / 2) = un 35 x := by simp [un, unRaw]
theorem un_39 (x : Int) (hx : C x) : 65535 - x = un 39 x := by unfold C at hx; simp [un, unRaw, cl]; omega
theorem C_fl (b : Bool) : C (fl b) := by cases b <;> simp [fl, C]
theorem un_48 (x : Int) : fl (decide (x = 0)) = un 48 x := by simp [un, unRaw, cl_id (C_fl _)]
theorem un_49 (x : Int) : fl (decide (sg x < 0)) = un 49 x := by simp [un, unRaw, cl_id (C_fl _)]
theorem un_no (op x : Int) (h : isUn op = false) : (0 : Int) = un op x := by
 simp [isUn] at h; simp [un, unRaw, h, cl]
theorem sg_zero {x : Int} (h : C x) : sg x = 0 ↔ x = 0 := by unfold C at h; unfold sg; split <;> omega
theorem tdiv_range (n m : Int) (h : -65536 <= n /\ n <= 65536) : -65536 <= n.tdiv m /\ n.tdiv m <= 65536 := by
 have h1 : (n.tdiv m).natAbs <= n.natAbs := by rw [Int.natAbs_tdiv]; exact Nat.div_le_self _ _
 generalize n.tdiv m = q at h1 ⊢
 omega
theorem tmod_range (n m : Int) (h : -65536 <= n /\ n <= 65536) : -65536 <= n.tmod m /\ n.tmod m <= 65536 := by
 have h1 : (n.tmod m).natAbs <= n.natAbs := by rw [Int.natAbs_tmod]; exact Nat.mod_le _ _
 generalize n.tmod m = q at h1 ⊢
 omega
theorem mul_range (n m : Int) (h : -65536 <= n /\ n <= 65536) (k : -65536 <= m /\ m <= 65536) : -4294967296 <= n * m /\ n * m <= 4294967296 := by
 have h1 : (n * m).natAbs <= 65536 * 65536 := by rw [Int.natAbs_mul]; exact Nat.mul_le_mul (by omega) (by omega)
 generalize n * m = q at h1 ⊢
 omega
theorem xor_ones (X : Nat) (h : X < 65536) : 65535 ^^^ X = 65535 - X := by
 have h1 : (BitVec.allOnes 16 ^^^ BitVec.ofNat 16 X).toNat = 65535 - X := by
  rw [<- BitVec.not_def, BitVec.toNat_not, BitVec.toNat_ofNat]; omega
 rw [BitVec.toNat_xor, BitVec.toNat_ofNat, BitVec.toNat_allOnes] at h1
 have e : X % 2 ^ 16 = X := by omega
 rw [e] at h1
 exact h1
theorem bi_21 (x y : Int) : cl (sg x + sg y) = bi 21 x y := by have := sg_mod x; have := sg_mod y; simp [bi, biRaw, cl]; omega
theorem bi_22 (x y : Int) : cl (sg x + -sg y) = bi 22 x y := by have := sg_mod x; have := sg_mod y; simp [bi, biRaw, cl]; omega
theorem bi_23 (x y : Int) : cl (sg x * sg y) = bi 23 x y := by
 simp only [bi, biRaw, cl]; simp
 rw [Int.mul_emod, sg_mod, sg_mod, <- Int.mul_emod]
def qt (n m : Int) : Int := if m = 0 then 0 else n.tdiv m
def rm (n m : Int) : Int := if m = 0 then 0 else n.tmod m
theorem bi_24 (x y : Int) (hy : C y) : cl (qt (sg x) (sg y)) = bi 24 x y := by
 simp [qt, bi, biRaw, sg_zero hy]
theorem bi_25 (x y : Int) (hy : C y) : cl (rm (sg x) (sg y)) = bi 25 x y := by
 simp [rm, bi, biRaw, sg_zero hy]
theorem bi_26 (x y : Int) (hx : C x) : cl (qt x y) = bi 26 x y := by
 simp [qt, bi, biRaw, Int.tdiv_eq_ediv_of_nonneg hx.1]
theorem bi_27 (x y : Int) (hx : C x) : cl (rm x y) = bi 27 x y := by
 simp [rm, bi, biRaw, Int.tmod_eq_emod_of_nonneg hx.1]
theorem bi_30l (x y : Int) (h : sg x <= sg y) : cl (sg x) = bi 30 x y := by simp [bi, biRaw, Int.min_eq_left h]
theorem bi_30g (x y : Int) (h : sg y < sg x) : cl (sg y) = bi 30 x y := by simp [bi, biRaw, Int.min_eq_right (Int.le_of_lt h)]
theorem bi_31l (x y : Int) (h : sg x < sg y) : cl (sg y) = bi 31 x y := by simp [bi, biRaw, Int.max_eq_right (Int.le_of_lt h)]
theorem bi_31g (x y : Int) (h : sg y <= sg x) : cl (sg x) = bi 31 x y := by simp [bi, biRaw, Int.max_eq_left h]
theorem and_lt {x y : Int} (hx : C x) : x.toNat &&& y.toNat < 65536 := Nat.lt_of_le_of_lt Nat.and_le_left (by unfold C at hx; omega)
theorem or_lt {x y : Int} (hx : C x) (hy : C y) : x.toNat ||| y.toNat < 65536 := Nat.or_lt_two_pow (n := 16) (by unfold C at hx; omega) (by unfold C at hy; omega)
theorem xor_lt {x y : Int} (hx : C x) (hy : C y) : x.toNat ^^^ y.toNat < 65536 := Nat.xor_lt_two_pow (n := 16) (by unfold C at hx; omega) (by unfold C at hy; omega)
theorem bi_36 (x y : Int) (hx : C x) : ((x.toNat &&& y.toNat : Nat) : Int) = bi 36 x y := by
 have := and_lt (y := y) hx; simp only [bi, biRaw, cl]; simp only [Int.reduceEq, ite_false, ite_true]; omega
theorem bi_37 (x y : Int) (hx : C x) (hy : C y) : ((x.toNat ||| y.toNat : Nat) : Int) = bi 37 x y := by
 have := or_lt hx hy; simp only [bi, biRaw, cl]; simp only [Int.reduceEq, ite_false, ite_true]; omega
theorem bi_38 (x y : Int) (hx : C x) (hy : C y) : ((x.toNat ^^^ y.toNat : Nat) : Int) = bi 38 x y := by
 have := xor_lt hx hy; simp only [bi, biRaw, cl]; simp only [Int.reduceEq, ite_false, ite_true]; omega
theorem bi_40g (x y : Int) (h : 15 < y) : (0 : Int) = bi 40 x y := by simp [bi, biRaw, cl, h]
theorem bi_40l (x y : Int) (h : ¬ 15 < y) : cl (x * 2 ^ y.toNat) = bi 40 x y := by simp [bi, biRaw, cl, h]
theorem bi_41g (x y : Int) (h : 15 < y) : (0 : Int) = bi 41 x y := by simp [bi, biRaw, cl, h]
theorem C_shr (x : Int) (k : Nat) (hx : C x) : C (x / 2 ^ k) := by
 obtain ⟨h0, h1⟩ := hx
 have hp : (0 : Int) < 2 ^ k := Int.pow_pos (by decide)
 exact ⟨Int.ediv_nonneg h0 (Int.le_of_lt hp), Int.lt_of_le_of_lt (Int.ediv_le_self _ h0) h1⟩
theorem bi_41l (x y : Int) (hx : C x) (h : ¬ 15 < y) : x / 2 ^ y.toNat = bi 41 x y := by
 have := cl_id (C_shr x y.toNat hx); simp [bi, biRaw, h, this]
theorem bi_42 (x y : Int) : fl (decide (x = y)) = bi 42 x y := by simp [bi, biRaw, cl_id (C_fl _)]
theorem bi_43 (x y : Int) : fl (x != y) = bi 43 x y := by
 have e : (x != y) = decide (x ≠ y) := by rw [Bool.eq_iff_iff]; simp
 rw [e]; simp only [bi, biRaw]; simp only [Int.reduceEq, ite_false, ite_true, cl_id (C_fl _)]
theorem bi_44 (x y : Int) : fl (decide (sg x < sg y)) = bi 44 x y := by simp [bi, biRaw, cl_id (C_fl _)]
theorem bi_45 (x y : Int) : fl (decide (sg y < sg x)) = bi 45 x y := by simp [bi, biRaw, cl_id (C_fl _)]
theorem bi_46 (x y : Int) : fl (decide (x < y)) = bi 46 x y := by simp [bi, biRaw, cl_id (C_fl _)]
theorem bi_47 (x y : Int) : fl (decide (y < x)) = bi 47 x y := by simp [bi, biRaw, cl_id (C_fl _)]
theorem bi_no (op x y : Int) (h : isBi op = false) : (0 : Int) = bi op x y := by
 simp [isBi] at h; simp [bi, biRaw, h, cl]
def isBit (op : Int) : Bool := op == 36 || op == 37 || op == 38 || op == 40 || op == 41
def isAri (op : Int) : Bool := op == 22 || op == 21 || op == 23 || op == 26 || op == 24 || op == 27 || op == 25 || op == 30 || op == 31
def isCmp (op : Int) : Bool := op == 42 || op == 43 || op == 46 || op == 44 || op == 47 || op == 45
theorem isBi_bit {op : Int} (h : isBit op = true) : isBi op = true := by
 simp only [isBit, isBi, Bool.or_eq_true, beq_iff_eq] at h ⊢; omega
theorem isBi_ari {op : Int} (h : isAri op = true) : isBi op = true := by
 simp only [isAri, isBi, Bool.or_eq_true, beq_iff_eq] at h ⊢; omega
theorem isBi_cmp {op : Int} (h : isCmp op = true) : isBi op = true := by
 simp only [isCmp, isBi, Bool.or_eq_true, beq_iff_eq] at h ⊢; omega
theorem isBi_none {op : Int} (h : isBit op = false) (k : isAri op = false) (l : isCmp op = false) : isBi op = false := by
 simp only [isBit, isAri, isCmp, isBi, Bool.or_eq_false_iff, beq_eq_false_iff_ne] at h k l ⊢; omega
end Go.Proofs.YtoemoiehjdmheaaGreat.C
