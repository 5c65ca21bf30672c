import Derived.Test.YtoemoiehjdmheaaGreatPDo
import Derived.Test.YtoemoiehjdmheaaGreatPRow
import Derived.Test.YtoemoiehjdmheaaGreatPEntB
import Derived.Test.YtoemoiehjdmheaaGreatPEntC
import Derived.Test.YtoemoiehjdmheaaGreatPDoesA
import Derived.Test.YtoemoiehjdmheaaGreatPDoes
namespace Go.Proofs.YtoemoiehjdmheaaGreat.P
open Go.RowKit
open Go.Proofs
set_option linter.unusedVariables false
set_option linter.unusedSimpArgs false
set_option maxHeartbeats 2000000
set_option maxRecDepth 100000
structure RW where
 i : Nat
 o : Nat
 k : Int
 bl : Nat
 s : Nat
def rw_ (op : Int) : RW := match op with
 | 6 => ⟨2, 0, 0, 0, 2⟩
 | 9 => ⟨0, 0, 0, 0, 0⟩
 | 12 => ⟨1, 2, 0, 0, 0⟩
 | 13 => ⟨1, 0, 0, 0, 0⟩
 | 14 => ⟨2, 2, 0, 0, 0⟩
 | 15 => ⟨2, 3, 0, 0, 0⟩
 | 16 => ⟨3, 3, 0, 0, 0⟩
 | 17 => ⟨2, 1, 0, 0, 0⟩
 | 18 => ⟨2, 3, 0, 0, 0⟩
 | 19 => ⟨2, 4, 0, 0, 0⟩
 | 20 => ⟨2, 0, 0, 0, 0⟩
 | 50 => ⟨1, 1, 0, 0, 0⟩
 | 51 => ⟨2, 0, 0, 0, 0⟩
 | 52 => ⟨1, 1, 0, 0, 0⟩
 | 53 => ⟨2, 0, 0, 0, 0⟩
 | 54 => ⟨2, 0, 0, 0, 0⟩
 | 55 => ⟨1, 0, 0, 0, 1⟩
 | 56 => ⟨0, 1, 4, 0, 0⟩
 | 57 => ⟨0, 1, 4, 0, 0⟩
 | 58 => ⟨0, 1, 3, 0, 0⟩
 | 59 => ⟨0, 1, 3, 2, 0⟩
 | 60 => ⟨3, 0, 0, 0, 0⟩
 | 61 => ⟨0, 1, 0, 0, 0⟩
 | 62 => ⟨2, 0, 0, 0, 0⟩
 | 63 => ⟨1, 0, 0, 0, 0⟩
 | op => if C.isUn op then ⟨1, 1, 0, 0, 0⟩ else ⟨2, 1, 0, 0, 0⟩
def putN (op x y z s : Int) (m : M.MS) : List Int := match op with
 | 12 => [x, x]
 | 14 => [y, x]
 | 15 => [x, y, x]
 | 16 => [y, z, x]
 | 17 => [y]
 | 18 => [y, x, y]
 | 19 => [x, y, x, y]
 | 50 => [M.cl m x]
 | 52 => [M.ld m x]
 | 56 => [s]
 | 57 => [s]
 | 58 => [s]
 | 59 => [s]
 | 61 => [m.pad]
 | op => if C.isUn op then [C.un op x] else if C.isBi op then [C.bi op x y] else []
def retN (op x y : Int) (R : List (Int × Int)) : List (Int × Int) := match op with
 | 6 => R ++ [(2, x), (3, y)]
 | 55 => R ++ [(4, x)]
 | 56 => R.take (R.length - 1)
 | _ => R
def memN (op x y z : Int) (m : M.MS) : M.MS := match op with
 | 51 => M.sc m y x
 | 53 => M.st m y (M.b8 x)
 | 54 => M.sc m y ((M.cl m y + x) % 65536)
 | 60 => M.plt m x y z
 | 62 => M.st (M.sc m 65284 x) 65286 (M.b8 y)
 | 63 => M.st m 65280 (M.b8 x)
 | _ => m
def plain (op : Int) : Bool := op == 6 || op == 9 || (decide (12 <= op) && decide (op <= 63))
def fl (op : Int) (D : List Int) (R : List (Int × Int)) : Int := flt (rw_ op).i (rw_ op).o (rw_ op).k (rw_ op).bl (rw_ op).s D R
def nD (op : Int) (D : List Int) (R : List (Int × Int)) (m : M.MS) : List Int := rest D (rw_ op).i ++ putN op (xAt D (rw_ op).i 0) (xAt D (rw_ op).i 1) (xAt D (rw_ op).i 2) (lk (rw_ op).k (rw_ op).bl R).1 m
def nR (op : Int) (D : List Int) (R : List (Int × Int)) : List (Int × Int) := retN op (xAt D (rw_ op).i 0) (xAt D (rw_ op).i 1) R
def nM (op : Int) (D : List Int) (m : M.MS) : M.MS := memN op (xAt D (rw_ op).i 0) (xAt D (rw_ op).i 1) (xAt D (rw_ op).i 2) m
theorem flt0 {i o : Nat} {k : Int} {bl s : Nat} {D : List Int} {R : List (Int × Int)} (h : flt i o k bl s D R = 0) : i <= D.length /\ (rest D i).length + o <= 256 /\ (lk k bl R).2 = 0 /\ R.length + s <= 128 := by
 unfold flt at h
 by_cases a0 : S.need D.length i o = 0
 ·rw [if_neg (by simpa using a0)] at h
  by_cases a1 : (lk k bl R).2 = 0
  ·rw [if_neg (by simpa using a1)] at h
   by_cases a2 : 128 < R.length + s
   ·rw [if_pos a2] at h; cases h
   ·unfold S.need at a0
    split at a0
    ·cases a0
    split at a0
    ·cases a0
    rw [rest_len]
    exact ⟨by omega, by omega, a1, by omega⟩
  ·rw [if_pos a1] at h; exact absurd h a1
 ·rw [if_pos a0] at h; exact absurd h a0
theorem C_xAt (D : List Int) (h : ∀ x ∈ D, C.C x) (i j : Nat) : C.C (xAt D i j) := by
 unfold xAt
 cases e : (tops D i)[j]? with
 | none => exact ⟨by simp, by simp⟩
 | some a => exact h a (List.mem_of_mem_drop (List.mem_of_getElem? e))
theorem lk_saved {R : List (Int × Int)} (h : (lk 4 0 R).2 = 0) : R = R.take (R.length - 1) ++ [(4, (lk 4 0 R).1)] := by
 unfold lk at h ⊢
 simp only [Nat.sub_zero] at h ⊢
 rw [if_neg (by decide)] at h ⊢
 by_cases a : R.length <= 0
 ·rw [if_pos a] at h; cases h
 rw [if_neg a] at h ⊢
 by_cases b : ((R[R.length - 1]?).getD (0, 0)).1 = 4
 ·rw [if_pos b]
  have hj : R.length - 1 < R.length := by omega
  have e : R[R.length - 1]? = some R[R.length - 1] := List.getElem?_eq_getElem hj
  rw [e] at b ⊢
  simp only [Option.getD_some] at b ⊢
  have e2 : R.drop (R.length - 1) = [R[R.length - 1]] := by rw [List.drop_eq_getElem_cons hj, List.drop_of_length_le (by omega)]
  have e3 : R[R.length - 1] = (4, (R[R.length - 1]).2) := Prod.ext b rfl
  rw [<- e3, <- e2, List.take_append_drop]
 ·rw [if_neg b] at h; cases h
def AtD (op : Int) : Prop := ∀ (bd br bm : Nat) (F : Nat -> Prop) (D : List Int) (R : List (Int × Int)) (m : M.MS), (∀ x ∈ D, C.C x) -> m.tones.length <= 999000 -> ∀ W : World, PS W bd br bm F D R m -> Calls Tryz.prog 72 #[.int .i64 op, .pointer (some ⟨bd, 0, none⟩), .pointer (some ⟨br, 0, none⟩), .pointer (some ⟨bm, 0, none⟩)] W fun e W' => e = .returned (.int .i64 (fl op D R)) /\ (fl op D R ≠ 0 -> Below W.heap.size W W') /\ (fl op D R = 0 -> PD W W' bd br bm F (nD op D R m) (nR op D R) (nM op D m))
theorem at_6 : AtD 6 := fun bd br bm F D R m hD ht W h =>
 do_row 6 ⟨#[]⟩ 2 0 3 false 0 0 2 96 (by decide) (by decide) (fun w => ent_6 w) Tryz.call96 bd br bm F D R m W h ([]) (nR 6 D R) (nM 6 D m) (fun hf G w hw => by
  rw [List.append_nil]
  exact do_do 6 _ _ _ _ bd br bm G _ R m w hw (flt0 hf).2.2.2)
theorem at_9 : AtD 9 := fun bd br bm F D R m hD ht W h =>
 do_row 9 ⟨#[110, 111, 112]⟩ 0 0 1 false 0 0 0 98 (by decide) (by decide) (fun w => ent_9 w) Tryz.call98 bd br bm F D R m W h ([]) (nR 9 D R) (nM 9 D m) (fun hf G w hw => by
  rw [List.append_nil]
  exact do_nop 9 _ _ _ _ bd br bm G _ R m w hw)
theorem at_12 : AtD 12 := fun bd br bm F D R m hD ht W h =>
 do_row 12 ⟨#[100, 117, 112]⟩ 1 2 1 false 0 0 0 99 (by decide) (by decide) (fun w => ent_12 w) Tryz.call99 bd br bm F D R m W h ([(xAt D 1 0), (xAt D 1 0)]) (nR 12 D R) (nM 12 D m) (fun hf G w hw => do_dup 12 _ _ _ _ bd br bm G _ R m w hw (flt0 hf).2.1)
theorem at_13 : AtD 13 := fun bd br bm F D R m hD ht W h =>
 do_row 13 ⟨#[100, 114, 111, 112]⟩ 1 0 1 false 0 0 0 101 (by decide) (by decide) (fun w => ent_13 w) Tryz.call101 bd br bm F D R m W h ([]) (nR 13 D R) (nM 13 D m) (fun hf G w hw => by
  rw [List.append_nil]
  exact do_drop 13 _ _ _ _ bd br bm G _ R m w hw)
theorem at_14 : AtD 14 := fun bd br bm F D R m hD ht W h =>
 do_row 14 ⟨#[115, 119, 97, 112]⟩ 2 2 1 false 0 0 0 102 (by decide) (by decide) (fun w => ent_14 w) Tryz.call102 bd br bm F D R m W h ([(xAt D 2 1), (xAt D 2 0)]) (nR 14 D R) (nM 14 D m) (fun hf G w hw => do_swap 14 _ _ _ _ bd br bm G _ R m w hw (flt0 hf).2.1)
theorem at_15 : AtD 15 := fun bd br bm F D R m hD ht W h =>
 do_row 15 ⟨#[111, 118, 101, 114]⟩ 2 3 1 false 0 0 0 103 (by decide) (by decide) (fun w => ent_15 w) Tryz.call103 bd br bm F D R m W h ([(xAt D 2 0), (xAt D 2 1), (xAt D 2 0)]) (nR 15 D R) (nM 15 D m) (fun hf G w hw => do_over 15 _ _ _ _ bd br bm G _ R m w hw (flt0 hf).2.1)
theorem at_16 : AtD 16 := fun bd br bm F D R m hD ht W h =>
 do_row 16 ⟨#[114, 111, 116]⟩ 3 3 1 false 0 0 0 104 (by decide) (by decide) (fun w => ent_16 w) Tryz.call104 bd br bm F D R m W h ([(xAt D 3 1), (xAt D 3 2), (xAt D 3 0)]) (nR 16 D R) (nM 16 D m) (fun hf G w hw => do_rot 16 _ _ _ _ bd br bm G _ R m w hw (flt0 hf).2.1)
theorem at_17 : AtD 17 := fun bd br bm F D R m hD ht W h =>
 do_row 17 ⟨#[110, 105, 112]⟩ 2 1 1 false 0 0 0 105 (by decide) (by decide) (fun w => ent_17 w) Tryz.call105 bd br bm F D R m W h ([(xAt D 2 1)]) (nR 17 D R) (nM 17 D m) (fun hf G w hw => do_nip 17 _ _ _ _ bd br bm G _ R m w hw (flt0 hf).2.1)
theorem at_18 : AtD 18 := fun bd br bm F D R m hD ht W h =>
 do_row 18 ⟨#[116, 117, 99, 107]⟩ 2 3 1 false 0 0 0 106 (by decide) (by decide) (fun w => ent_18 w) Tryz.call106 bd br bm F D R m W h ([(xAt D 2 1), (xAt D 2 0), (xAt D 2 1)]) (nR 18 D R) (nM 18 D m) (fun hf G w hw => do_tuck 18 _ _ _ _ bd br bm G _ R m w hw (flt0 hf).2.1)
theorem at_19 : AtD 19 := fun bd br bm F D R m hD ht W h =>
 do_row 19 ⟨#[50, 100, 117, 112]⟩ 2 4 2 false 0 0 0 107 (by decide) (by decide) (fun w => ent_19 w) Tryz.call107 bd br bm F D R m W h ([(xAt D 2 0), (xAt D 2 1), (xAt D 2 0), (xAt D 2 1)]) (nR 19 D R) (nM 19 D m) (fun hf G w hw => do_dup2 19 _ _ _ _ bd br bm G _ R m w hw (flt0 hf).2.1)
theorem at_20 : AtD 20 := fun bd br bm F D R m hD ht W h =>
 do_row 20 ⟨#[50, 100, 114, 111, 112]⟩ 2 0 1 false 0 0 0 108 (by decide) (by decide) (fun w => ent_20 w) Tryz.call108 bd br bm F D R m W h ([]) (nR 20 D R) (nM 20 D m) (fun hf G w hw => by
  rw [List.append_nil]
  exact do_drop2 20 _ _ _ _ bd br bm G _ R m w hw)
theorem at_21 : AtD 21 := fun bd br bm F D R m hD ht W h =>
 do_row 21 ⟨#[43]⟩ 2 1 1 false 0 0 0 137 (by decide) (by decide) (fun w => ent_21 w) Tryz.call137 bd br bm F D R m W h ([C.bi 21 (xAt D 2 0) (xAt D 2 1)]) (nR 21 D R) (nM 21 D m) (fun hf G w hw => do_bin 21 _ _ _ _ bd br bm G _ R m w hw (C_xAt D hD 2 0) (C_xAt D hD 2 1) (flt0 hf).2.1)
theorem at_22 : AtD 22 := fun bd br bm F D R m hD ht W h =>
 do_row 22 ⟨#[45]⟩ 2 1 1 false 0 0 0 137 (by decide) (by decide) (fun w => ent_22 w) Tryz.call137 bd br bm F D R m W h ([C.bi 22 (xAt D 2 0) (xAt D 2 1)]) (nR 22 D R) (nM 22 D m) (fun hf G w hw => do_bin 22 _ _ _ _ bd br bm G _ R m w hw (C_xAt D hD 2 0) (C_xAt D hD 2 1) (flt0 hf).2.1)
theorem at_23 : AtD 23 := fun bd br bm F D R m hD ht W h =>
 do_row 23 ⟨#[42]⟩ 2 1 3 false 0 0 0 137 (by decide) (by decide) (fun w => ent_23 w) Tryz.call137 bd br bm F D R m W h ([C.bi 23 (xAt D 2 0) (xAt D 2 1)]) (nR 23 D R) (nM 23 D m) (fun hf G w hw => do_bin 23 _ _ _ _ bd br bm G _ R m w hw (C_xAt D hD 2 0) (C_xAt D hD 2 1) (flt0 hf).2.1)
theorem at_24 : AtD 24 := fun bd br bm F D R m hD ht W h =>
 do_row 24 ⟨#[47]⟩ 2 1 4 false 0 0 0 137 (by decide) (by decide) (fun w => ent_24 w) Tryz.call137 bd br bm F D R m W h ([C.bi 24 (xAt D 2 0) (xAt D 2 1)]) (nR 24 D R) (nM 24 D m) (fun hf G w hw => do_bin 24 _ _ _ _ bd br bm G _ R m w hw (C_xAt D hD 2 0) (C_xAt D hD 2 1) (flt0 hf).2.1)
theorem at_25 : AtD 25 := fun bd br bm F D R m hD ht W h =>
 do_row 25 ⟨#[109, 111, 100]⟩ 2 1 4 false 0 0 0 137 (by decide) (by decide) (fun w => ent_25 w) Tryz.call137 bd br bm F D R m W h ([C.bi 25 (xAt D 2 0) (xAt D 2 1)]) (nR 25 D R) (nM 25 D m) (fun hf G w hw => do_bin 25 _ _ _ _ bd br bm G _ R m w hw (C_xAt D hD 2 0) (C_xAt D hD 2 1) (flt0 hf).2.1)
theorem at_26 : AtD 26 := fun bd br bm F D R m hD ht W h =>
 do_row 26 ⟨#[117, 47]⟩ 2 1 4 false 0 0 0 137 (by decide) (by decide) (fun w => ent_26 w) Tryz.call137 bd br bm F D R m W h ([C.bi 26 (xAt D 2 0) (xAt D 2 1)]) (nR 26 D R) (nM 26 D m) (fun hf G w hw => do_bin 26 _ _ _ _ bd br bm G _ R m w hw (C_xAt D hD 2 0) (C_xAt D hD 2 1) (flt0 hf).2.1)
theorem at_27 : AtD 27 := fun bd br bm F D R m hD ht W h =>
 do_row 27 ⟨#[117, 109, 111, 100]⟩ 2 1 4 false 0 0 0 137 (by decide) (by decide) (fun w => ent_27 w) Tryz.call137 bd br bm F D R m W h ([C.bi 27 (xAt D 2 0) (xAt D 2 1)]) (nR 27 D R) (nM 27 D m) (fun hf G w hw => do_bin 27 _ _ _ _ bd br bm G _ R m w hw (C_xAt D hD 2 0) (C_xAt D hD 2 1) (flt0 hf).2.1)
theorem at_28 : AtD 28 := fun bd br bm F D R m hD ht W h =>
 do_row 28 ⟨#[110, 101, 103, 97, 116, 101]⟩ 1 1 1 false 0 0 0 139 (by decide) (by decide) (fun w => ent_28 w) Tryz.call139 bd br bm F D R m W h ([C.un 28 (xAt D 1 0)]) (nR 28 D R) (nM 28 D m) (fun hf G w hw => do_un 28 _ _ _ _ bd br bm G _ R m w hw (C_xAt D hD 1 0) (flt0 hf).2.1)
theorem at_29 : AtD 29 := fun bd br bm F D R m hD ht W h =>
 do_row 29 ⟨#[97, 98, 115]⟩ 1 1 1 false 0 0 0 139 (by decide) (by decide) (fun w => ent_29 w) Tryz.call139 bd br bm F D R m W h ([C.un 29 (xAt D 1 0)]) (nR 29 D R) (nM 29 D m) (fun hf G w hw => do_un 29 _ _ _ _ bd br bm G _ R m w hw (C_xAt D hD 1 0) (flt0 hf).2.1)
theorem at_30 : AtD 30 := fun bd br bm F D R m hD ht W h =>
 do_row 30 ⟨#[109, 105, 110]⟩ 2 1 1 false 0 0 0 137 (by decide) (by decide) (fun w => ent_30 w) Tryz.call137 bd br bm F D R m W h ([C.bi 30 (xAt D 2 0) (xAt D 2 1)]) (nR 30 D R) (nM 30 D m) (fun hf G w hw => do_bin 30 _ _ _ _ bd br bm G _ R m w hw (C_xAt D hD 2 0) (C_xAt D hD 2 1) (flt0 hf).2.1)
theorem at_31 : AtD 31 := fun bd br bm F D R m hD ht W h =>
 do_row 31 ⟨#[109, 97, 120]⟩ 2 1 1 false 0 0 0 137 (by decide) (by decide) (fun w => ent_31 w) Tryz.call137 bd br bm F D R m W h ([C.bi 31 (xAt D 2 0) (xAt D 2 1)]) (nR 31 D R) (nM 31 D m) (fun hf G w hw => do_bin 31 _ _ _ _ bd br bm G _ R m w hw (C_xAt D hD 2 0) (C_xAt D hD 2 1) (flt0 hf).2.1)
theorem at_32 : AtD 32 := fun bd br bm F D R m hD ht W h =>
 do_row 32 ⟨#[49, 43]⟩ 1 1 1 false 0 0 0 139 (by decide) (by decide) (fun w => ent_32 w) Tryz.call139 bd br bm F D R m W h ([C.un 32 (xAt D 1 0)]) (nR 32 D R) (nM 32 D m) (fun hf G w hw => do_un 32 _ _ _ _ bd br bm G _ R m w hw (C_xAt D hD 1 0) (flt0 hf).2.1)
theorem at_33 : AtD 33 := fun bd br bm F D R m hD ht W h =>
 do_row 33 ⟨#[49, 45]⟩ 1 1 1 false 0 0 0 139 (by decide) (by decide) (fun w => ent_33 w) Tryz.call139 bd br bm F D R m W h ([C.un 33 (xAt D 1 0)]) (nR 33 D R) (nM 33 D m) (fun hf G w hw => do_un 33 _ _ _ _ bd br bm G _ R m w hw (C_xAt D hD 1 0) (flt0 hf).2.1)
theorem at_34 : AtD 34 := fun bd br bm F D R m hD ht W h =>
 do_row 34 ⟨#[50, 42]⟩ 1 1 1 false 0 0 0 139 (by decide) (by decide) (fun w => ent_34 w) Tryz.call139 bd br bm F D R m W h ([C.un 34 (xAt D 1 0)]) (nR 34 D R) (nM 34 D m) (fun hf G w hw => do_un 34 _ _ _ _ bd br bm G _ R m w hw (C_xAt D hD 1 0) (flt0 hf).2.1)
theorem at_35 : AtD 35 := fun bd br bm F D R m hD ht W h =>
 do_row 35 ⟨#[50, 47]⟩ 1 1 1 false 0 0 0 139 (by decide) (by decide) (fun w => ent_35 w) Tryz.call139 bd br bm F D R m W h ([C.un 35 (xAt D 1 0)]) (nR 35 D R) (nM 35 D m) (fun hf G w hw => do_un 35 _ _ _ _ bd br bm G _ R m w hw (C_xAt D hD 1 0) (flt0 hf).2.1)
theorem at_36 : AtD 36 := fun bd br bm F D R m hD ht W h =>
 do_row 36 ⟨#[97, 110, 100]⟩ 2 1 1 false 0 0 0 137 (by decide) (by decide) (fun w => ent_36 w) Tryz.call137 bd br bm F D R m W h ([C.bi 36 (xAt D 2 0) (xAt D 2 1)]) (nR 36 D R) (nM 36 D m) (fun hf G w hw => do_bin 36 _ _ _ _ bd br bm G _ R m w hw (C_xAt D hD 2 0) (C_xAt D hD 2 1) (flt0 hf).2.1)
theorem at_37 : AtD 37 := fun bd br bm F D R m hD ht W h =>
 do_row 37 ⟨#[111, 114]⟩ 2 1 1 false 0 0 0 137 (by decide) (by decide) (fun w => ent_37 w) Tryz.call137 bd br bm F D R m W h ([C.bi 37 (xAt D 2 0) (xAt D 2 1)]) (nR 37 D R) (nM 37 D m) (fun hf G w hw => do_bin 37 _ _ _ _ bd br bm G _ R m w hw (C_xAt D hD 2 0) (C_xAt D hD 2 1) (flt0 hf).2.1)
theorem at_38 : AtD 38 := fun bd br bm F D R m hD ht W h =>
 do_row 38 ⟨#[120, 111, 114]⟩ 2 1 1 false 0 0 0 137 (by decide) (by decide) (fun w => ent_38 w) Tryz.call137 bd br bm F D R m W h ([C.bi 38 (xAt D 2 0) (xAt D 2 1)]) (nR 38 D R) (nM 38 D m) (fun hf G w hw => do_bin 38 _ _ _ _ bd br bm G _ R m w hw (C_xAt D hD 2 0) (C_xAt D hD 2 1) (flt0 hf).2.1)
theorem at_39 : AtD 39 := fun bd br bm F D R m hD ht W h =>
 do_row 39 ⟨#[105, 110, 118, 101, 114, 116]⟩ 1 1 1 false 0 0 0 139 (by decide) (by decide) (fun w => ent_39 w) Tryz.call139 bd br bm F D R m W h ([C.un 39 (xAt D 1 0)]) (nR 39 D R) (nM 39 D m) (fun hf G w hw => do_un 39 _ _ _ _ bd br bm G _ R m w hw (C_xAt D hD 1 0) (flt0 hf).2.1)
theorem at_40 : AtD 40 := fun bd br bm F D R m hD ht W h =>
 do_row 40 ⟨#[108, 115, 104, 105, 102, 116]⟩ 2 1 1 false 0 0 0 137 (by decide) (by decide) (fun w => ent_40 w) Tryz.call137 bd br bm F D R m W h ([C.bi 40 (xAt D 2 0) (xAt D 2 1)]) (nR 40 D R) (nM 40 D m) (fun hf G w hw => do_bin 40 _ _ _ _ bd br bm G _ R m w hw (C_xAt D hD 2 0) (C_xAt D hD 2 1) (flt0 hf).2.1)
theorem at_41 : AtD 41 := fun bd br bm F D R m hD ht W h =>
 do_row 41 ⟨#[114, 115, 104, 105, 102, 116]⟩ 2 1 1 false 0 0 0 137 (by decide) (by decide) (fun w => ent_41 w) Tryz.call137 bd br bm F D R m W h ([C.bi 41 (xAt D 2 0) (xAt D 2 1)]) (nR 41 D R) (nM 41 D m) (fun hf G w hw => do_bin 41 _ _ _ _ bd br bm G _ R m w hw (C_xAt D hD 2 0) (C_xAt D hD 2 1) (flt0 hf).2.1)
theorem at_42 : AtD 42 := fun bd br bm F D R m hD ht W h =>
 do_row 42 ⟨#[61]⟩ 2 1 1 false 0 0 0 137 (by decide) (by decide) (fun w => ent_42 w) Tryz.call137 bd br bm F D R m W h ([C.bi 42 (xAt D 2 0) (xAt D 2 1)]) (nR 42 D R) (nM 42 D m) (fun hf G w hw => do_bin 42 _ _ _ _ bd br bm G _ R m w hw (C_xAt D hD 2 0) (C_xAt D hD 2 1) (flt0 hf).2.1)
theorem at_43 : AtD 43 := fun bd br bm F D R m hD ht W h =>
 do_row 43 ⟨#[60, 62]⟩ 2 1 1 false 0 0 0 137 (by decide) (by decide) (fun w => ent_43 w) Tryz.call137 bd br bm F D R m W h ([C.bi 43 (xAt D 2 0) (xAt D 2 1)]) (nR 43 D R) (nM 43 D m) (fun hf G w hw => do_bin 43 _ _ _ _ bd br bm G _ R m w hw (C_xAt D hD 2 0) (C_xAt D hD 2 1) (flt0 hf).2.1)
theorem at_44 : AtD 44 := fun bd br bm F D R m hD ht W h =>
 do_row 44 ⟨#[60]⟩ 2 1 1 false 0 0 0 137 (by decide) (by decide) (fun w => ent_44 w) Tryz.call137 bd br bm F D R m W h ([C.bi 44 (xAt D 2 0) (xAt D 2 1)]) (nR 44 D R) (nM 44 D m) (fun hf G w hw => do_bin 44 _ _ _ _ bd br bm G _ R m w hw (C_xAt D hD 2 0) (C_xAt D hD 2 1) (flt0 hf).2.1)
theorem at_45 : AtD 45 := fun bd br bm F D R m hD ht W h =>
 do_row 45 ⟨#[62]⟩ 2 1 1 false 0 0 0 137 (by decide) (by decide) (fun w => ent_45 w) Tryz.call137 bd br bm F D R m W h ([C.bi 45 (xAt D 2 0) (xAt D 2 1)]) (nR 45 D R) (nM 45 D m) (fun hf G w hw => do_bin 45 _ _ _ _ bd br bm G _ R m w hw (C_xAt D hD 2 0) (C_xAt D hD 2 1) (flt0 hf).2.1)
theorem at_46 : AtD 46 := fun bd br bm F D R m hD ht W h =>
 do_row 46 ⟨#[117, 60]⟩ 2 1 1 false 0 0 0 137 (by decide) (by decide) (fun w => ent_46 w) Tryz.call137 bd br bm F D R m W h ([C.bi 46 (xAt D 2 0) (xAt D 2 1)]) (nR 46 D R) (nM 46 D m) (fun hf G w hw => do_bin 46 _ _ _ _ bd br bm G _ R m w hw (C_xAt D hD 2 0) (C_xAt D hD 2 1) (flt0 hf).2.1)
theorem at_47 : AtD 47 := fun bd br bm F D R m hD ht W h =>
 do_row 47 ⟨#[117, 62]⟩ 2 1 1 false 0 0 0 137 (by decide) (by decide) (fun w => ent_47 w) Tryz.call137 bd br bm F D R m W h ([C.bi 47 (xAt D 2 0) (xAt D 2 1)]) (nR 47 D R) (nM 47 D m) (fun hf G w hw => do_bin 47 _ _ _ _ bd br bm G _ R m w hw (C_xAt D hD 2 0) (C_xAt D hD 2 1) (flt0 hf).2.1)
theorem at_48 : AtD 48 := fun bd br bm F D R m hD ht W h =>
 do_row 48 ⟨#[48, 61]⟩ 1 1 1 false 0 0 0 139 (by decide) (by decide) (fun w => ent_48 w) Tryz.call139 bd br bm F D R m W h ([C.un 48 (xAt D 1 0)]) (nR 48 D R) (nM 48 D m) (fun hf G w hw => do_un 48 _ _ _ _ bd br bm G _ R m w hw (C_xAt D hD 1 0) (flt0 hf).2.1)
theorem at_49 : AtD 49 := fun bd br bm F D R m hD ht W h =>
 do_row 49 ⟨#[48, 60]⟩ 1 1 1 false 0 0 0 139 (by decide) (by decide) (fun w => ent_49 w) Tryz.call139 bd br bm F D R m W h ([C.un 49 (xAt D 1 0)]) (nR 49 D R) (nM 49 D m) (fun hf G w hw => do_un 49 _ _ _ _ bd br bm G _ R m w hw (C_xAt D hD 1 0) (flt0 hf).2.1)
theorem at_50 : AtD 50 := fun bd br bm F D R m hD ht W h =>
 do_row 50 ⟨#[64]⟩ 1 1 2 false 0 0 0 111 (by decide) (by decide) (fun w => ent_50 w) Tryz.call111 bd br bm F D R m W h ([M.cl m (xAt D 1 0)]) (nR 50 D R) (nM 50 D m) (fun hf G w hw => do_fetch 50 _ _ _ _ bd br bm G _ R m w hw (C_xAt D hD 1 0) (flt0 hf).2.1)
theorem at_51 : AtD 51 := fun bd br bm F D R m hD ht W h =>
 do_row 51 ⟨#[33]⟩ 2 0 2 false 0 0 0 113 (by decide) (by decide) (fun w => ent_51 w) Tryz.call113 bd br bm F D R m W h ([]) (nR 51 D R) (nM 51 D m) (fun hf G w hw => by
  rw [List.append_nil]
  exact do_store 51 _ _ _ _ bd br bm G _ R m w hw (C_xAt D hD 2 0) (C_xAt D hD 2 1) ht)
theorem at_52 : AtD 52 := fun bd br bm F D R m hD ht W h =>
 do_row 52 ⟨#[99, 64]⟩ 1 1 2 false 0 0 0 115 (by decide) (by decide) (fun w => ent_52 w) Tryz.call115 bd br bm F D R m W h ([M.ld m (xAt D 1 0)]) (nR 52 D R) (nM 52 D m) (fun hf G w hw => do_cfetch 52 _ _ _ _ bd br bm G _ R m w hw (C_xAt D hD 1 0) (flt0 hf).2.1)
theorem at_53 : AtD 53 := fun bd br bm F D R m hD ht W h =>
 do_row 53 ⟨#[99, 33]⟩ 2 0 2 false 0 0 0 117 (by decide) (by decide) (fun w => ent_53 w) Tryz.call117 bd br bm F D R m W h ([]) (nR 53 D R) (nM 53 D m) (fun hf G w hw => by
  rw [List.append_nil]
  exact do_cstore 53 _ _ _ _ bd br bm G _ R m w hw (C_xAt D hD 2 0) (C_xAt D hD 2 1) ht)
theorem at_54 : AtD 54 := fun bd br bm F D R m hD ht W h =>
 do_row 54 ⟨#[43, 33]⟩ 2 0 3 false 0 0 0 119 (by decide) (by decide) (fun w => ent_54 w) Tryz.call119 bd br bm F D R m W h ([]) (nR 54 D R) (nM 54 D m) (fun hf G w hw => by
  rw [List.append_nil]
  exact do_plus 54 _ _ _ _ bd br bm G _ R m w hw (C_xAt D hD 2 0) (C_xAt D hD 2 1) ht)
theorem at_55 : AtD 55 := fun bd br bm F D R m hD ht W h =>
 do_row 55 ⟨#[62, 114]⟩ 1 0 1 false 0 0 1 120 (by decide) (by decide) (fun w => ent_55 w) Tryz.call120 bd br bm F D R m W h ([]) (nR 55 D R) (nM 55 D m) (fun hf G w hw => by
  rw [List.append_nil]
  exact do_toR 55 _ _ _ _ bd br bm G _ R m w hw (flt0 hf).2.2.2)
theorem at_56 : AtD 56 := fun bd br bm F D R m hD ht W h =>
 do_row 56 ⟨#[114, 62]⟩ 0 1 1 false 4 0 0 121 (by decide) (by decide) (fun w => ent_56 w) Tryz.call121 bd br bm F D R m W h ([(lk 4 0 R).1]) (nR 56 D R) (nM 56 D m) (fun hf G w hw => do_fromR 56 _ _ _ _ bd br bm G _ R m w hw _ _ (lk_saved (flt0 hf).2.2.1) (flt0 hf).2.1)
theorem at_57 : AtD 57 := fun bd br bm F D R m hD ht W h =>
 do_row 57 ⟨#[114, 64]⟩ 0 1 1 false 4 0 0 144 (by decide) (by decide) (fun w => ent_57 w) Tryz.call144 bd br bm F D R m W h ([(lk 4 0 R).1]) (nR 57 D R) (nM 57 D m) (fun hf G w hw => do_peek 57 _ _ _ _ bd br bm G _ R m w hw (flt0 hf).2.1)
theorem at_58 : AtD 58 := fun bd br bm F D R m hD ht W h =>
 do_row 58 ⟨#[105]⟩ 0 1 1 false 3 0 0 144 (by decide) (by decide) (fun w => ent_58 w) Tryz.call144 bd br bm F D R m W h ([(lk 3 0 R).1]) (nR 58 D R) (nM 58 D m) (fun hf G w hw => do_peek 58 _ _ _ _ bd br bm G _ R m w hw (flt0 hf).2.1)
theorem at_59 : AtD 59 := fun bd br bm F D R m hD ht W h =>
 do_row 59 ⟨#[106]⟩ 0 1 1 false 3 2 0 144 (by decide) (by decide) (fun w => ent_59 w) Tryz.call144 bd br bm F D R m W h ([(lk 3 2 R).1]) (nR 59 D R) (nM 59 D m) (fun hf G w hw => do_peek 59 _ _ _ _ bd br bm G _ R m w hw (flt0 hf).2.1)
theorem at_60 : AtD 60 := fun bd br bm F D R m hD ht W h =>
 do_row 60 ⟨#[112, 108, 111, 116]⟩ 3 0 3 false 0 0 0 123 (by decide) (by decide) (fun w => ent_60 w) Tryz.call123 bd br bm F D R m W h ([]) (nR 60 D R) (nM 60 D m) (fun hf G w hw => by
  rw [List.append_nil]
  exact do_plot 60 _ _ _ _ bd br bm G _ R m w hw (C_xAt D hD 3 0) (C_xAt D hD 3 1) ht)
theorem at_61 : AtD 61 := fun bd br bm F D R m hD ht W h =>
 do_row 61 ⟨#[112, 97, 100]⟩ 0 1 1 false 0 0 0 125 (by decide) (by decide) (fun w => ent_61 w) Tryz.call125 bd br bm F D R m W h ([m.pad]) (nR 61 D R) (nM 61 D m) (fun hf G w hw => do_pad 61 _ _ _ _ bd br bm G _ R m w hw (flt0 hf).2.1)
theorem at_62 : AtD 62 := fun bd br bm F D R m hD ht W h =>
 do_row 62 ⟨#[116, 111, 110, 101]⟩ 2 0 2 false 0 0 0 127 (by decide) (by decide) (fun w => ent_62 w) Tryz.call127 bd br bm F D R m W h ([]) (nR 62 D R) (nM 62 D m) (fun hf G w hw => by
  rw [List.append_nil]
  exact do_tone 62 _ _ _ _ bd br bm G _ R m w hw (C_xAt D hD 2 0) (C_xAt D hD 2 1) ht)
theorem at_63 : AtD 63 := fun bd br bm F D R m hD ht W h =>
 do_row 63 ⟨#[98, 97, 110, 107]⟩ 1 0 1 false 0 0 0 129 (by decide) (by decide) (fun w => ent_63 w) Tryz.call129 bd br bm F D R m W h ([]) (nR 63 D R) (nM 63 D m) (fun hf G w hw => by
  rw [List.append_nil]
  exact do_bank 63 _ _ _ _ bd br bm G _ R m w hw (C_xAt D hD 1 0) (C_xAt D hD 1 1) ht)
theorem plain_cases (op : Int) (h : plain op = true) : op = 6 \/ op = 9 \/ op = 12 \/ op = 13 \/ op = 14 \/ op = 15 \/ op = 16 \/ op = 17 \/ op = 18 \/ op = 19 \/ op = 20 \/ op = 21 \/ op = 22 \/ op = 23 \/ op = 24 \/ op = 25 \/ op = 26 \/ op = 27 \/ op = 28 \/ op = 29 \/ op = 30 \/ op = 31 \/ op = 32 \/ op = 33 \/ op = 34 \/ op = 35 \/ op = 36 \/ op = 37 \/ op = 38 \/ op = 39 \/ op = 40 \/ op = 41 \/ op = 42 \/ op = 43 \/ op = 44 \/ op = 45 \/ op = 46 \/ op = 47 \/ op = 48 \/ op = 49 \/ op = 50 \/ op = 51 \/ op = 52 \/ op = 53 \/ op = 54 \/ op = 55 \/ op = 56 \/ op = 57 \/ op = 58 \/ op = 59 \/ op = 60 \/ op = 61 \/ op = 62 \/ op = 63 := by
 unfold plain at h
 simp only [Bool.or_eq_true, Bool.and_eq_true, beq_iff_eq, decide_eq_true_eq] at h
 omega
theorem do_any (op : Int) (hp : plain op = true) (bd br bm : Nat) (F : Nat -> Prop) (D : List Int) (R : List (Int × Int)) (m : M.MS) (hD : ∀ x ∈ D, C.C x) (ht : m.tones.length <= 999000) (W : World) (h : PS W bd br bm F D R m) : Calls Tryz.prog 72 #[.int .i64 op, .pointer (some ⟨bd, 0, none⟩), .pointer (some ⟨br, 0, none⟩), .pointer (some ⟨bm, 0, none⟩)] W fun e W' => e = .returned (.int .i64 (fl op D R)) /\ (fl op D R ≠ 0 -> Below W.heap.size W W') /\ (fl op D R = 0 -> PD W W' bd br bm F (nD op D R m) (nR op D R) (nM op D m)) := by
 rcases plain_cases op hp with rfl | rfl | rfl | rfl | rfl | rfl | rfl | rfl | rfl | rfl | rfl | rfl | rfl | rfl | rfl | rfl | rfl | rfl | rfl | rfl | rfl | rfl | rfl | rfl | rfl | rfl | rfl | rfl | rfl | rfl | rfl | rfl | rfl | rfl | rfl | rfl | rfl | rfl | rfl | rfl | rfl | rfl | rfl | rfl | rfl | rfl | rfl | rfl | rfl | rfl | rfl | rfl | rfl | rfl
 ·exact at_6 bd br bm F D R m hD ht W h
 ·exact at_9 bd br bm F D R m hD ht W h
 ·exact at_12 bd br bm F D R m hD ht W h
 ·exact at_13 bd br bm F D R m hD ht W h
 ·exact at_14 bd br bm F D R m hD ht W h
 ·exact at_15 bd br bm F D R m hD ht W h
 ·exact at_16 bd br bm F D R m hD ht W h
 ·exact at_17 bd br bm F D R m hD ht W h
 ·exact at_18 bd br bm F D R m hD ht W h
 ·exact at_19 bd br bm F D R m hD ht W h
 ·exact at_20 bd br bm F D R m hD ht W h
 ·exact at_21 bd br bm F D R m hD ht W h
 ·exact at_22 bd br bm F D R m hD ht W h
 ·exact at_23 bd br bm F D R m hD ht W h
 ·exact at_24 bd br bm F D R m hD ht W h
 ·exact at_25 bd br bm F D R m hD ht W h
 ·exact at_26 bd br bm F D R m hD ht W h
 ·exact at_27 bd br bm F D R m hD ht W h
 ·exact at_28 bd br bm F D R m hD ht W h
 ·exact at_29 bd br bm F D R m hD ht W h
 ·exact at_30 bd br bm F D R m hD ht W h
 ·exact at_31 bd br bm F D R m hD ht W h
 ·exact at_32 bd br bm F D R m hD ht W h
 ·exact at_33 bd br bm F D R m hD ht W h
 ·exact at_34 bd br bm F D R m hD ht W h
 ·exact at_35 bd br bm F D R m hD ht W h
 ·exact at_36 bd br bm F D R m hD ht W h
 ·exact at_37 bd br bm F D R m hD ht W h
 ·exact at_38 bd br bm F D R m hD ht W h
 ·exact at_39 bd br bm F D R m hD ht W h
 ·exact at_40 bd br bm F D R m hD ht W h
 ·exact at_41 bd br bm F D R m hD ht W h
 ·exact at_42 bd br bm F D R m hD ht W h
 ·exact at_43 bd br bm F D R m hD ht W h
 ·exact at_44 bd br bm F D R m hD ht W h
 ·exact at_45 bd br bm F D R m hD ht W h
 ·exact at_46 bd br bm F D R m hD ht W h
 ·exact at_47 bd br bm F D R m hD ht W h
 ·exact at_48 bd br bm F D R m hD ht W h
 ·exact at_49 bd br bm F D R m hD ht W h
 ·exact at_50 bd br bm F D R m hD ht W h
 ·exact at_51 bd br bm F D R m hD ht W h
 ·exact at_52 bd br bm F D R m hD ht W h
 ·exact at_53 bd br bm F D R m hD ht W h
 ·exact at_54 bd br bm F D R m hD ht W h
 ·exact at_55 bd br bm F D R m hD ht W h
 ·exact at_56 bd br bm F D R m hD ht W h
 ·exact at_57 bd br bm F D R m hD ht W h
 ·exact at_58 bd br bm F D R m hD ht W h
 ·exact at_59 bd br bm F D R m hD ht W h
 ·exact at_60 bd br bm F D R m hD ht W h
 ·exact at_61 bd br bm F D R m hD ht W h
 ·exact at_62 bd br bm F D R m hD ht W h
 ·exact at_63 bd br bm F D R m hD ht W h
end Go.Proofs.YtoemoiehjdmheaaGreat.P
