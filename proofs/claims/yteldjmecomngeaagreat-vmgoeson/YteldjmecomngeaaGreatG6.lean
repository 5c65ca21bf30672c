import Derived.Test.YteldjmecomngeaaGreatG5
import Derived.Laws.Rows
import Derived.ProofKit
import Derived.Laws.CopyRow
import Derived.Maps.RangeRun
import Derived.Deep.RegionHeld
import Derived.BigQuiet
import Derived.Deep.QuietTactic
/-! Do at every plain number. -/
namespace Go.Proofs.YteldjmecomngeaaGreat.P
open Go.RowKit
open Go.Proofs
set_option linter.unusedVariables false
set_option linter.unusedSimpArgs false
set_option maxHeartbeats 2000000
set_option maxRecDepth 100000
/-- In, Out; the kind that is looked at, how far below; how many cells are saved. -/
structure RW where
  i : Nat
  o : Nat
  k : Int
  bl : Nat
  s : Nat
def rw_ (op : Int) : RW := match op with
  | 6 => ⟨2, 0, 0, 0, 2⟩
  | 9 => ⟨0, 0, 0, 0, 0⟩
  | 12 => ⟨1, 2, 0, 0, 0⟩
  | 13 => ⟨1, 0, 0, 0, 0⟩
  | 14 => ⟨2, 2, 0, 0, 0⟩
  | 15 => ⟨2, 3, 0, 0, 0⟩
  | 16 => ⟨3, 3, 0, 0, 0⟩
  | 17 => ⟨2, 1, 0, 0, 0⟩
  | 18 => ⟨2, 3, 0, 0, 0⟩
  | 19 => ⟨2, 4, 0, 0, 0⟩
  | 20 => ⟨2, 0, 0, 0, 0⟩
  | 50 => ⟨1, 1, 0, 0, 0⟩
  | 51 => ⟨2, 0, 0, 0, 0⟩
  | 52 => ⟨1, 1, 0, 0, 0⟩
  | 53 => ⟨2, 0, 0, 0, 0⟩
  | 54 => ⟨2, 0, 0, 0, 0⟩
  | 55 => ⟨1, 0, 0, 0, 1⟩
  | 56 => ⟨0, 1, 4, 0, 0⟩
  | 57 => ⟨0, 1, 4, 0, 0⟩
  | 58 => ⟨0, 1, 3, 0, 0⟩
  | 59 => ⟨0, 1, 3, 2, 0⟩
  | 60 => ⟨3, 0, 0, 0, 0⟩
  | 61 => ⟨0, 1, 0, 0, 0⟩
  | 62 => ⟨2, 0, 0, 0, 0⟩
  | 63 => ⟨1, 0, 0, 0, 0⟩
  | op => if C.isUn op then ⟨1, 1, 0, 0, 0⟩ else ⟨2, 1, 0, 0, 0⟩
def putN (op x y z s : Int) (m : M.MS) : List Int := match op with
  | 12 => [x, x]
  | 14 => [y, x]
  | 15 => [x, y, x]
  | 16 => [y, z, x]
  | 17 => [y]
  | 18 => [y, x, y]
  | 19 => [x, y, x, y]
  | 50 => [M.cl m x]
  | 52 => [M.ld m x]
  | 56 => [s]
  | 57 => [s]
  | 58 => [s]
  | 59 => [s]
  | 61 => [m.pad]
  | op => if C.isUn op then [C.un op x] else if C.isBi op then [C.bi op x y] else []
def retN (op x y : Int) (R : List (Int × Int)) : List (Int × Int) := match op with
  | 6 => R ++ [(2, x), (3, y)]
  | 55 => R ++ [(4, x)]
  | 56 => R.take (R.length - 1)
  | _ => R
def memN (op x y z : Int) (m : M.MS) : M.MS := match op with
  | 51 => M.sc m y x
  | 53 => M.st m y (M.b8 x)
  | 54 => M.sc m y ((M.cl m y + x) % 65536)
  | 60 => M.plt m x y z
  | 62 => M.st (M.sc m 65284 x) 65286 (M.b8 y)
  | 63 => M.st m 65280 (M.b8 x)
  | _ => m
def plain (op : Int) : Bool := op == 6 || op == 9 || (decide (12 ≤ op) && decide (op ≤ 63))
def fl (op : Int) (D : List Int) (R : List (Int × Int)) : Int := flt (rw_ op).i (rw_ op).o (rw_ op).k (rw_ op).bl (rw_ op).s D R
def nD (op : Int) (D : List Int) (R : List (Int × Int)) (m : M.MS) : List Int := rest D (rw_ op).i ++ putN op (xAt D (rw_ op).i 0) (xAt D (rw_ op).i 1) (xAt D (rw_ op).i 2) (lk (rw_ op).k (rw_ op).bl R).1 m
def nR (op : Int) (D : List Int) (R : List (Int × Int)) : List (Int × Int) := retN op (xAt D (rw_ op).i 0) (xAt D (rw_ op).i 1) R
def nM (op : Int) (D : List Int) (m : M.MS) : M.MS := memN op (xAt D (rw_ op).i 0) (xAt D (rw_ op).i 1) (xAt D (rw_ op).i 2) m
theorem flt0 {i o : Nat} {k : Int} {bl s : Nat} {D : List Int} {R : List (Int × Int)} (h : flt i o k bl s D R = 0) : i ≤ D.length ∧ (rest D i).length + o ≤ 256 ∧ (lk k bl R).2 = 0 ∧ R.length + s ≤ 128 := by
  unfold flt at h
  by_cases a0 : S.need D.length i o = 0
  · rw [if_neg (by simpa using a0)] at h
    by_cases a1 : (lk k bl R).2 = 0
    · rw [if_neg (by simpa using a1)] at h
      by_cases a2 : 128 < R.length + s
      · rw [if_pos a2] at h; cases h
      · unfold S.need at a0
        split at a0
        · cases a0
        split at a0
        · cases a0
        rw [rest_len]
        exact ⟨by omega, by omega, a1, by omega⟩
    · rw [if_pos a1] at h; exact absurd h a1
  · rw [if_pos a0] at h; exact absurd h a0
theorem C_xAt (D : List Int) (h : ∀ x ∈ D, C.C x) (i j : Nat) : C.C (xAt D i j) := by
  unfold xAt
  cases e : (tops D i)[j]? with
  | none => exact ⟨by simp, by simp⟩
  | some a => exact h a (List.mem_of_mem_drop (List.mem_of_getElem? e))
theorem lk_saved {R : List (Int × Int)} (h : (lk 4 0 R).2 = 0) : R = R.take (R.length - 1) ++ [(4, (lk 4 0 R).1)] := by
  unfold lk at h ⊢
  simp only [Nat.sub_zero] at h ⊢
  rw [if_neg (by decide)] at h ⊢
  by_cases a : R.length ≤ 0
  · rw [if_pos a] at h; cases h
  rw [if_neg a] at h ⊢
  by_cases b : ((R[R.length - 1]?).getD (0, 0)).1 = 4
  · rw [if_pos b]
    have hj : R.length - 1 < R.length := by omega
    have e : R[R.length - 1]? = some R[R.length - 1] := List.getElem?_eq_getElem hj
    rw [e] at b ⊢
    simp only [Option.getD_some] at b ⊢
    have e2 : R.drop (R.length - 1) = [R[R.length - 1]] := by rw [List.drop_eq_getElem_cons hj, List.drop_of_length_le (by omega)]
    have e3 : R[R.length - 1] = (4, (R[R.length - 1]).2) := Prod.ext b rfl
    rw [← e3, ← e2, List.take_append_drop]
  · rw [if_neg b] at h; cases h
theorem at_6 (bd br bm : Nat) (F : Nat → Prop) (D : List Int) (R : List (Int × Int)) (m : M.MS) (hD : ∀ x ∈ D, C.C x) (ht : m.tones.length ≤ 999000) (W : World) (h : PS W bd br bm F D R m) : Calls Tryz.prog 121 #[.int .i64 6, .pointer (some ⟨bd, 0, none⟩), .pointer (some ⟨br, 0, none⟩), .pointer (some ⟨bm, 0, none⟩)] W fun e W' => e = .returned (.int .i64 (fl 6 D R)) ∧ (fl 6 D R ≠ 0 → Below W.heap.size W W') ∧ (fl 6 D R = 0 → PD W W' bd br bm F (nD 6 D R m) (nR 6 D R) (nM 6 D m)) :=
  do_row 6 ⟨#[]⟩ 2 0 3 false 0 0 2 126 (by decide) (by decide) (fun w => ent_6 w) Tryz.call126 bd br bm F D R m W h ([]) (nR 6 D R) (nM 6 D m) (fun hf G w hw => by
    rw [List.append_nil]
    exact do_do 6 _ _ _ _ bd br bm G _ R m w hw (flt0 hf).2.2.2)
theorem at_9 (bd br bm : Nat) (F : Nat → Prop) (D : List Int) (R : List (Int × Int)) (m : M.MS) (hD : ∀ x ∈ D, C.C x) (ht : m.tones.length ≤ 999000) (W : World) (h : PS W bd br bm F D R m) : Calls Tryz.prog 121 #[.int .i64 9, .pointer (some ⟨bd, 0, none⟩), .pointer (some ⟨br, 0, none⟩), .pointer (some ⟨bm, 0, none⟩)] W fun e W' => e = .returned (.int .i64 (fl 9 D R)) ∧ (fl 9 D R ≠ 0 → Below W.heap.size W W') ∧ (fl 9 D R = 0 → PD W W' bd br bm F (nD 9 D R m) (nR 9 D R) (nM 9 D m)) :=
  do_row 9 ⟨#[110, 111, 112]⟩ 0 0 1 false 0 0 0 128 (by decide) (by decide) (fun w => ent_9 w) Tryz.call128 bd br bm F D R m W h ([]) (nR 9 D R) (nM 9 D m) (fun hf G w hw => by
    rw [List.append_nil]
    exact do_nop 9 _ _ _ _ bd br bm G _ R m w hw)
theorem at_12 (bd br bm : Nat) (F : Nat → Prop) (D : List Int) (R : List (Int × Int)) (m : M.MS) (hD : ∀ x ∈ D, C.C x) (ht : m.tones.length ≤ 999000) (W : World) (h : PS W bd br bm F D R m) : Calls Tryz.prog 121 #[.int .i64 12, .pointer (some ⟨bd, 0, none⟩), .pointer (some ⟨br, 0, none⟩), .pointer (some ⟨bm, 0, none⟩)] W fun e W' => e = .returned (.int .i64 (fl 12 D R)) ∧ (fl 12 D R ≠ 0 → Below W.heap.size W W') ∧ (fl 12 D R = 0 → PD W W' bd br bm F (nD 12 D R m) (nR 12 D R) (nM 12 D m)) :=
  do_row 12 ⟨#[100, 117, 112]⟩ 1 2 1 false 0 0 0 129 (by decide) (by decide) (fun w => ent_12 w) Tryz.call129 bd br bm F D R m W h ([(xAt D 1 0), (xAt D 1 0)]) (nR 12 D R) (nM 12 D m) (fun hf G w hw => do_dup 12 _ _ _ _ bd br bm G _ R m w hw (flt0 hf).2.1)
theorem at_13 (bd br bm : Nat) (F : Nat → Prop) (D : List Int) (R : List (Int × Int)) (m : M.MS) (hD : ∀ x ∈ D, C.C x) (ht : m.tones.length ≤ 999000) (W : World) (h : PS W bd br bm F D R m) : Calls Tryz.prog 121 #[.int .i64 13, .pointer (some ⟨bd, 0, none⟩), .pointer (some ⟨br, 0, none⟩), .pointer (some ⟨bm, 0, none⟩)] W fun e W' => e = .returned (.int .i64 (fl 13 D R)) ∧ (fl 13 D R ≠ 0 → Below W.heap.size W W') ∧ (fl 13 D R = 0 → PD W W' bd br bm F (nD 13 D R m) (nR 13 D R) (nM 13 D m)) :=
  do_row 13 ⟨#[100, 114, 111, 112]⟩ 1 0 1 false 0 0 0 131 (by decide) (by decide) (fun w => ent_13 w) Tryz.call131 bd br bm F D R m W h ([]) (nR 13 D R) (nM 13 D m) (fun hf G w hw => by
    rw [List.append_nil]
    exact do_drop 13 _ _ _ _ bd br bm G _ R m w hw)
theorem at_14 (bd br bm : Nat) (F : Nat → Prop) (D : List Int) (R : List (Int × Int)) (m : M.MS) (hD : ∀ x ∈ D, C.C x) (ht : m.tones.length ≤ 999000) (W : World) (h : PS W bd br bm F D R m) : Calls Tryz.prog 121 #[.int .i64 14, .pointer (some ⟨bd, 0, none⟩), .pointer (some ⟨br, 0, none⟩), .pointer (some ⟨bm, 0, none⟩)] W fun e W' => e = .returned (.int .i64 (fl 14 D R)) ∧ (fl 14 D R ≠ 0 → Below W.heap.size W W') ∧ (fl 14 D R = 0 → PD W W' bd br bm F (nD 14 D R m) (nR 14 D R) (nM 14 D m)) :=
  do_row 14 ⟨#[115, 119, 97, 112]⟩ 2 2 1 false 0 0 0 132 (by decide) (by decide) (fun w => ent_14 w) Tryz.call132 bd br bm F D R m W h ([(xAt D 2 1), (xAt D 2 0)]) (nR 14 D R) (nM 14 D m) (fun hf G w hw => do_swap 14 _ _ _ _ bd br bm G _ R m w hw (flt0 hf).2.1)
theorem at_15 (bd br bm : Nat) (F : Nat → Prop) (D : List Int) (R : List (Int × Int)) (m : M.MS) (hD : ∀ x ∈ D, C.C x) (ht : m.tones.length ≤ 999000) (W : World) (h : PS W bd br bm F D R m) : Calls Tryz.prog 121 #[.int .i64 15, .pointer (some ⟨bd, 0, none⟩), .pointer (some ⟨br, 0, none⟩), .pointer (some ⟨bm, 0, none⟩)] W fun e W' => e = .returned (.int .i64 (fl 15 D R)) ∧ (fl 15 D R ≠ 0 → Below W.heap.size W W') ∧ (fl 15 D R = 0 → PD W W' bd br bm F (nD 15 D R m) (nR 15 D R) (nM 15 D m)) :=
  do_row 15 ⟨#[111, 118, 101, 114]⟩ 2 3 1 false 0 0 0 133 (by decide) (by decide) (fun w => ent_15 w) Tryz.call133 bd br bm F D R m W h ([(xAt D 2 0), (xAt D 2 1), (xAt D 2 0)]) (nR 15 D R) (nM 15 D m) (fun hf G w hw => do_over 15 _ _ _ _ bd br bm G _ R m w hw (flt0 hf).2.1)
theorem at_16 (bd br bm : Nat) (F : Nat → Prop) (D : List Int) (R : List (Int × Int)) (m : M.MS) (hD : ∀ x ∈ D, C.C x) (ht : m.tones.length ≤ 999000) (W : World) (h : PS W bd br bm F D R m) : Calls Tryz.prog 121 #[.int .i64 16, .pointer (some ⟨bd, 0, none⟩), .pointer (some ⟨br, 0, none⟩), .pointer (some ⟨bm, 0, none⟩)] W fun e W' => e = .returned (.int .i64 (fl 16 D R)) ∧ (fl 16 D R ≠ 0 → Below W.heap.size W W') ∧ (fl 16 D R = 0 → PD W W' bd br bm F (nD 16 D R m) (nR 16 D R) (nM 16 D m)) :=
  do_row 16 ⟨#[114, 111, 116]⟩ 3 3 1 false 0 0 0 134 (by decide) (by decide) (fun w => ent_16 w) Tryz.call134 bd br bm F D R m W h ([(xAt D 3 1), (xAt D 3 2), (xAt D 3 0)]) (nR 16 D R) (nM 16 D m) (fun hf G w hw => do_rot 16 _ _ _ _ bd br bm G _ R m w hw (flt0 hf).2.1)
theorem at_17 (bd br bm : Nat) (F : Nat → Prop) (D : List Int) (R : List (Int × Int)) (m : M.MS) (hD : ∀ x ∈ D, C.C x) (ht : m.tones.length ≤ 999000) (W : World) (h : PS W bd br bm F D R m) : Calls Tryz.prog 121 #[.int .i64 17, .pointer (some ⟨bd, 0, none⟩), .pointer (some ⟨br, 0, none⟩), .pointer (some ⟨bm, 0, none⟩)] W fun e W' => e = .returned (.int .i64 (fl 17 D R)) ∧ (fl 17 D R ≠ 0 → Below W.heap.size W W') ∧ (fl 17 D R = 0 → PD W W' bd br bm F (nD 17 D R m) (nR 17 D R) (nM 17 D m)) :=
  do_row 17 ⟨#[110, 105, 112]⟩ 2 1 1 false 0 0 0 135 (by decide) (by decide) (fun w => ent_17 w) Tryz.call135 bd br bm F D R m W h ([(xAt D 2 1)]) (nR 17 D R) (nM 17 D m) (fun hf G w hw => do_nip 17 _ _ _ _ bd br bm G _ R m w hw (flt0 hf).2.1)
theorem at_18 (bd br bm : Nat) (F : Nat → Prop) (D : List Int) (R : List (Int × Int)) (m : M.MS) (hD : ∀ x ∈ D, C.C x) (ht : m.tones.length ≤ 999000) (W : World) (h : PS W bd br bm F D R m) : Calls Tryz.prog 121 #[.int .i64 18, .pointer (some ⟨bd, 0, none⟩), .pointer (some ⟨br, 0, none⟩), .pointer (some ⟨bm, 0, none⟩)] W fun e W' => e = .returned (.int .i64 (fl 18 D R)) ∧ (fl 18 D R ≠ 0 → Below W.heap.size W W') ∧ (fl 18 D R = 0 → PD W W' bd br bm F (nD 18 D R m) (nR 18 D R) (nM 18 D m)) :=
  do_row 18 ⟨#[116, 117, 99, 107]⟩ 2 3 1 false 0 0 0 136 (by decide) (by decide) (fun w => ent_18 w) Tryz.call136 bd br bm F D R m W h ([(xAt D 2 1), (xAt D 2 0), (xAt D 2 1)]) (nR 18 D R) (nM 18 D m) (fun hf G w hw => do_tuck 18 _ _ _ _ bd br bm G _ R m w hw (flt0 hf).2.1)
theorem at_19 (bd br bm : Nat) (F : Nat → Prop) (D : List Int) (R : List (Int × Int)) (m : M.MS) (hD : ∀ x ∈ D, C.C x) (ht : m.tones.length ≤ 999000) (W : World) (h : PS W bd br bm F D R m) : Calls Tryz.prog 121 #[.int .i64 19, .pointer (some ⟨bd, 0, none⟩), .pointer (some ⟨br, 0, none⟩), .pointer (some ⟨bm, 0, none⟩)] W fun e W' => e = .returned (.int .i64 (fl 19 D R)) ∧ (fl 19 D R ≠ 0 → Below W.heap.size W W') ∧ (fl 19 D R = 0 → PD W W' bd br bm F (nD 19 D R m) (nR 19 D R) (nM 19 D m)) :=
  do_row 19 ⟨#[50, 100, 117, 112]⟩ 2 4 2 false 0 0 0 137 (by decide) (by decide) (fun w => ent_19 w) Tryz.call137 bd br bm F D R m W h ([(xAt D 2 0), (xAt D 2 1), (xAt D 2 0), (xAt D 2 1)]) (nR 19 D R) (nM 19 D m) (fun hf G w hw => do_dup2 19 _ _ _ _ bd br bm G _ R m w hw (flt0 hf).2.1)
theorem at_20 (bd br bm : Nat) (F : Nat → Prop) (D : List Int) (R : List (Int × Int)) (m : M.MS) (hD : ∀ x ∈ D, C.C x) (ht : m.tones.length ≤ 999000) (W : World) (h : PS W bd br bm F D R m) : Calls Tryz.prog 121 #[.int .i64 20, .pointer (some ⟨bd, 0, none⟩), .pointer (some ⟨br, 0, none⟩), .pointer (some ⟨bm, 0, none⟩)] W fun e W' => e = .returned (.int .i64 (fl 20 D R)) ∧ (fl 20 D R ≠ 0 → Below W.heap.size W W') ∧ (fl 20 D R = 0 → PD W W' bd br bm F (nD 20 D R m) (nR 20 D R) (nM 20 D m)) :=
  do_row 20 ⟨#[50, 100, 114, 111, 112]⟩ 2 0 1 false 0 0 0 138 (by decide) (by decide) (fun w => ent_20 w) Tryz.call138 bd br bm F D R m W h ([]) (nR 20 D R) (nM 20 D m) (fun hf G w hw => by
    rw [List.append_nil]
    exact do_drop2 20 _ _ _ _ bd br bm G _ R m w hw)
theorem at_21 (bd br bm : Nat) (F : Nat → Prop) (D : List Int) (R : List (Int × Int)) (m : M.MS) (hD : ∀ x ∈ D, C.C x) (ht : m.tones.length ≤ 999000) (W : World) (h : PS W bd br bm F D R m) : Calls Tryz.prog 121 #[.int .i64 21, .pointer (some ⟨bd, 0, none⟩), .pointer (some ⟨br, 0, none⟩), .pointer (some ⟨bm, 0, none⟩)] W fun e W' => e = .returned (.int .i64 (fl 21 D R)) ∧ (fl 21 D R ≠ 0 → Below W.heap.size W W') ∧ (fl 21 D R = 0 → PD W W' bd br bm F (nD 21 D R m) (nR 21 D R) (nM 21 D m)) :=
  do_row 21 ⟨#[43]⟩ 2 1 1 false 0 0 0 166 (by decide) (by decide) (fun w => ent_21 w) Tryz.call166 bd br bm F D R m W h ([C.bi 21 (xAt D 2 0) (xAt D 2 1)]) (nR 21 D R) (nM 21 D m) (fun hf G w hw => do_bin 21 _ _ _ _ bd br bm G _ R m w hw (C_xAt D hD 2 0) (C_xAt D hD 2 1) (flt0 hf).2.1)
theorem at_22 (bd br bm : Nat) (F : Nat → Prop) (D : List Int) (R : List (Int × Int)) (m : M.MS) (hD : ∀ x ∈ D, C.C x) (ht : m.tones.length ≤ 999000) (W : World) (h : PS W bd br bm F D R m) : Calls Tryz.prog 121 #[.int .i64 22, .pointer (some ⟨bd, 0, none⟩), .pointer (some ⟨br, 0, none⟩), .pointer (some ⟨bm, 0, none⟩)] W fun e W' => e = .returned (.int .i64 (fl 22 D R)) ∧ (fl 22 D R ≠ 0 → Below W.heap.size W W') ∧ (fl 22 D R = 0 → PD W W' bd br bm F (nD 22 D R m) (nR 22 D R) (nM 22 D m)) :=
  do_row 22 ⟨#[45]⟩ 2 1 1 false 0 0 0 166 (by decide) (by decide) (fun w => ent_22 w) Tryz.call166 bd br bm F D R m W h ([C.bi 22 (xAt D 2 0) (xAt D 2 1)]) (nR 22 D R) (nM 22 D m) (fun hf G w hw => do_bin 22 _ _ _ _ bd br bm G _ R m w hw (C_xAt D hD 2 0) (C_xAt D hD 2 1) (flt0 hf).2.1)
theorem at_23 (bd br bm : Nat) (F : Nat → Prop) (D : List Int) (R : List (Int × Int)) (m : M.MS) (hD : ∀ x ∈ D, C.C x) (ht : m.tones.length ≤ 999000) (W : World) (h : PS W bd br bm F D R m) : Calls Tryz.prog 121 #[.int .i64 23, .pointer (some ⟨bd, 0, none⟩), .pointer (some ⟨br, 0, none⟩), .pointer (some ⟨bm, 0, none⟩)] W fun e W' => e = .returned (.int .i64 (fl 23 D R)) ∧ (fl 23 D R ≠ 0 → Below W.heap.size W W') ∧ (fl 23 D R = 0 → PD W W' bd br bm F (nD 23 D R m) (nR 23 D R) (nM 23 D m)) :=
  do_row 23 ⟨#[42]⟩ 2 1 3 false 0 0 0 166 (by decide) (by decide) (fun w => ent_23 w) Tryz.call166 bd br bm F D R m W h ([C.bi 23 (xAt D 2 0) (xAt D 2 1)]) (nR 23 D R) (nM 23 D m) (fun hf G w hw => do_bin 23 _ _ _ _ bd br bm G _ R m w hw (C_xAt D hD 2 0) (C_xAt D hD 2 1) (flt0 hf).2.1)
theorem at_24 (bd br bm : Nat) (F : Nat → Prop) (D : List Int) (R : List (Int × Int)) (m : M.MS) (hD : ∀ x ∈ D, C.C x) (ht : m.tones.length ≤ 999000) (W : World) (h : PS W bd br bm F D R m) : Calls Tryz.prog 121 #[.int .i64 24, .pointer (some ⟨bd, 0, none⟩), .pointer (some ⟨br, 0, none⟩), .pointer (some ⟨bm, 0, none⟩)] W fun e W' => e = .returned (.int .i64 (fl 24 D R)) ∧ (fl 24 D R ≠ 0 → Below W.heap.size W W') ∧ (fl 24 D R = 0 → PD W W' bd br bm F (nD 24 D R m) (nR 24 D R) (nM 24 D m)) :=
  do_row 24 ⟨#[47]⟩ 2 1 4 false 0 0 0 166 (by decide) (by decide) (fun w => ent_24 w) Tryz.call166 bd br bm F D R m W h ([C.bi 24 (xAt D 2 0) (xAt D 2 1)]) (nR 24 D R) (nM 24 D m) (fun hf G w hw => do_bin 24 _ _ _ _ bd br bm G _ R m w hw (C_xAt D hD 2 0) (C_xAt D hD 2 1) (flt0 hf).2.1)
theorem at_25 (bd br bm : Nat) (F : Nat → Prop) (D : List Int) (R : List (Int × Int)) (m : M.MS) (hD : ∀ x ∈ D, C.C x) (ht : m.tones.length ≤ 999000) (W : World) (h : PS W bd br bm F D R m) : Calls Tryz.prog 121 #[.int .i64 25, .pointer (some ⟨bd, 0, none⟩), .pointer (some ⟨br, 0, none⟩), .pointer (some ⟨bm, 0, none⟩)] W fun e W' => e = .returned (.int .i64 (fl 25 D R)) ∧ (fl 25 D R ≠ 0 → Below W.heap.size W W') ∧ (fl 25 D R = 0 → PD W W' bd br bm F (nD 25 D R m) (nR 25 D R) (nM 25 D m)) :=
  do_row 25 ⟨#[109, 111, 100]⟩ 2 1 4 false 0 0 0 166 (by decide) (by decide) (fun w => ent_25 w) Tryz.call166 bd br bm F D R m W h ([C.bi 25 (xAt D 2 0) (xAt D 2 1)]) (nR 25 D R) (nM 25 D m) (fun hf G w hw => do_bin 25 _ _ _ _ bd br bm G _ R m w hw (C_xAt D hD 2 0) (C_xAt D hD 2 1) (flt0 hf).2.1)
theorem at_26 (bd br bm : Nat) (F : Nat → Prop) (D : List Int) (R : List (Int × Int)) (m : M.MS) (hD : ∀ x ∈ D, C.C x) (ht : m.tones.length ≤ 999000) (W : World) (h : PS W bd br bm F D R m) : Calls Tryz.prog 121 #[.int .i64 26, .pointer (some ⟨bd, 0, none⟩), .pointer (some ⟨br, 0, none⟩), .pointer (some ⟨bm, 0, none⟩)] W fun e W' => e = .returned (.int .i64 (fl 26 D R)) ∧ (fl 26 D R ≠ 0 → Below W.heap.size W W') ∧ (fl 26 D R = 0 → PD W W' bd br bm F (nD 26 D R m) (nR 26 D R) (nM 26 D m)) :=
  do_row 26 ⟨#[117, 47]⟩ 2 1 4 false 0 0 0 166 (by decide) (by decide) (fun w => ent_26 w) Tryz.call166 bd br bm F D R m W h ([C.bi 26 (xAt D 2 0) (xAt D 2 1)]) (nR 26 D R) (nM 26 D m) (fun hf G w hw => do_bin 26 _ _ _ _ bd br bm G _ R m w hw (C_xAt D hD 2 0) (C_xAt D hD 2 1) (flt0 hf).2.1)
theorem at_27 (bd br bm : Nat) (F : Nat → Prop) (D : List Int) (R : List (Int × Int)) (m : M.MS) (hD : ∀ x ∈ D, C.C x) (ht : m.tones.length ≤ 999000) (W : World) (h : PS W bd br bm F D R m) : Calls Tryz.prog 121 #[.int .i64 27, .pointer (some ⟨bd, 0, none⟩), .pointer (some ⟨br, 0, none⟩), .pointer (some ⟨bm, 0, none⟩)] W fun e W' => e = .returned (.int .i64 (fl 27 D R)) ∧ (fl 27 D R ≠ 0 → Below W.heap.size W W') ∧ (fl 27 D R = 0 → PD W W' bd br bm F (nD 27 D R m) (nR 27 D R) (nM 27 D m)) :=
  do_row 27 ⟨#[117, 109, 111, 100]⟩ 2 1 4 false 0 0 0 166 (by decide) (by decide) (fun w => ent_27 w) Tryz.call166 bd br bm F D R m W h ([C.bi 27 (xAt D 2 0) (xAt D 2 1)]) (nR 27 D R) (nM 27 D m) (fun hf G w hw => do_bin 27 _ _ _ _ bd br bm G _ R m w hw (C_xAt D hD 2 0) (C_xAt D hD 2 1) (flt0 hf).2.1)
theorem at_28 (bd br bm : Nat) (F : Nat → Prop) (D : List Int) (R : List (Int × Int)) (m : M.MS) (hD : ∀ x ∈ D, C.C x) (ht : m.tones.length ≤ 999000) (W : World) (h : PS W bd br bm F D R m) : Calls Tryz.prog 121 #[.int .i64 28, .pointer (some ⟨bd, 0, none⟩), .pointer (some ⟨br, 0, none⟩), .pointer (some ⟨bm, 0, none⟩)] W fun e W' => e = .returned (.int .i64 (fl 28 D R)) ∧ (fl 28 D R ≠ 0 → Below W.heap.size W W') ∧ (fl 28 D R = 0 → PD W W' bd br bm F (nD 28 D R m) (nR 28 D R) (nM 28 D m)) :=
  do_row 28 ⟨#[110, 101, 103, 97, 116, 101]⟩ 1 1 1 false 0 0 0 168 (by decide) (by decide) (fun w => ent_28 w) Tryz.call168 bd br bm F D R m W h ([C.un 28 (xAt D 1 0)]) (nR 28 D R) (nM 28 D m) (fun hf G w hw => do_un 28 _ _ _ _ bd br bm G _ R m w hw (C_xAt D hD 1 0) (flt0 hf).2.1)
theorem at_29 (bd br bm : Nat) (F : Nat → Prop) (D : List Int) (R : List (Int × Int)) (m : M.MS) (hD : ∀ x ∈ D, C.C x) (ht : m.tones.length ≤ 999000) (W : World) (h : PS W bd br bm F D R m) : Calls Tryz.prog 121 #[.int .i64 29, .pointer (some ⟨bd, 0, none⟩), .pointer (some ⟨br, 0, none⟩), .pointer (some ⟨bm, 0, none⟩)] W fun e W' => e = .returned (.int .i64 (fl 29 D R)) ∧ (fl 29 D R ≠ 0 → Below W.heap.size W W') ∧ (fl 29 D R = 0 → PD W W' bd br bm F (nD 29 D R m) (nR 29 D R) (nM 29 D m)) :=
  do_row 29 ⟨#[97, 98, 115]⟩ 1 1 1 false 0 0 0 168 (by decide) (by decide) (fun w => ent_29 w) Tryz.call168 bd br bm F D R m W h ([C.un 29 (xAt D 1 0)]) (nR 29 D R) (nM 29 D m) (fun hf G w hw => do_un 29 _ _ _ _ bd br bm G _ R m w hw (C_xAt D hD 1 0) (flt0 hf).2.1)
theorem at_30 (bd br bm : Nat) (F : Nat → Prop) (D : List Int) (R : List (Int × Int)) (m : M.MS) (hD : ∀ x ∈ D, C.C x) (ht : m.tones.length ≤ 999000) (W : World) (h : PS W bd br bm F D R m) : Calls Tryz.prog 121 #[.int .i64 30, .pointer (some ⟨bd, 0, none⟩), .pointer (some ⟨br, 0, none⟩), .pointer (some ⟨bm, 0, none⟩)] W fun e W' => e = .returned (.int .i64 (fl 30 D R)) ∧ (fl 30 D R ≠ 0 → Below W.heap.size W W') ∧ (fl 30 D R = 0 → PD W W' bd br bm F (nD 30 D R m) (nR 30 D R) (nM 30 D m)) :=
  do_row 30 ⟨#[109, 105, 110]⟩ 2 1 1 false 0 0 0 166 (by decide) (by decide) (fun w => ent_30 w) Tryz.call166 bd br bm F D R m W h ([C.bi 30 (xAt D 2 0) (xAt D 2 1)]) (nR 30 D R) (nM 30 D m) (fun hf G w hw => do_bin 30 _ _ _ _ bd br bm G _ R m w hw (C_xAt D hD 2 0) (C_xAt D hD 2 1) (flt0 hf).2.1)
theorem at_31 (bd br bm : Nat) (F : Nat → Prop) (D : List Int) (R : List (Int × Int)) (m : M.MS) (hD : ∀ x ∈ D, C.C x) (ht : m.tones.length ≤ 999000) (W : World) (h : PS W bd br bm F D R m) : Calls Tryz.prog 121 #[.int .i64 31, .pointer (some ⟨bd, 0, none⟩), .pointer (some ⟨br, 0, none⟩), .pointer (some ⟨bm, 0, none⟩)] W fun e W' => e = .returned (.int .i64 (fl 31 D R)) ∧ (fl 31 D R ≠ 0 → Below W.heap.size W W') ∧ (fl 31 D R = 0 → PD W W' bd br bm F (nD 31 D R m) (nR 31 D R) (nM 31 D m)) :=
  do_row 31 ⟨#[109, 97, 120]⟩ 2 1 1 false 0 0 0 166 (by decide) (by decide) (fun w => ent_31 w) Tryz.call166 bd br bm F D R m W h ([C.bi 31 (xAt D 2 0) (xAt D 2 1)]) (nR 31 D R) (nM 31 D m) (fun hf G w hw => do_bin 31 _ _ _ _ bd br bm G _ R m w hw (C_xAt D hD 2 0) (C_xAt D hD 2 1) (flt0 hf).2.1)
theorem at_32 (bd br bm : Nat) (F : Nat → Prop) (D : List Int) (R : List (Int × Int)) (m : M.MS) (hD : ∀ x ∈ D, C.C x) (ht : m.tones.length ≤ 999000) (W : World) (h : PS W bd br bm F D R m) : Calls Tryz.prog 121 #[.int .i64 32, .pointer (some ⟨bd, 0, none⟩), .pointer (some ⟨br, 0, none⟩), .pointer (some ⟨bm, 0, none⟩)] W fun e W' => e = .returned (.int .i64 (fl 32 D R)) ∧ (fl 32 D R ≠ 0 → Below W.heap.size W W') ∧ (fl 32 D R = 0 → PD W W' bd br bm F (nD 32 D R m) (nR 32 D R) (nM 32 D m)) :=
  do_row 32 ⟨#[49, 43]⟩ 1 1 1 false 0 0 0 168 (by decide) (by decide) (fun w => ent_32 w) Tryz.call168 bd br bm F D R m W h ([C.un 32 (xAt D 1 0)]) (nR 32 D R) (nM 32 D m) (fun hf G w hw => do_un 32 _ _ _ _ bd br bm G _ R m w hw (C_xAt D hD 1 0) (flt0 hf).2.1)
theorem at_33 (bd br bm : Nat) (F : Nat → Prop) (D : List Int) (R : List (Int × Int)) (m : M.MS) (hD : ∀ x ∈ D, C.C x) (ht : m.tones.length ≤ 999000) (W : World) (h : PS W bd br bm F D R m) : Calls Tryz.prog 121 #[.int .i64 33, .pointer (some ⟨bd, 0, none⟩), .pointer (some ⟨br, 0, none⟩), .pointer (some ⟨bm, 0, none⟩)] W fun e W' => e = .returned (.int .i64 (fl 33 D R)) ∧ (fl 33 D R ≠ 0 → Below W.heap.size W W') ∧ (fl 33 D R = 0 → PD W W' bd br bm F (nD 33 D R m) (nR 33 D R) (nM 33 D m)) :=
  do_row 33 ⟨#[49, 45]⟩ 1 1 1 false 0 0 0 168 (by decide) (by decide) (fun w => ent_33 w) Tryz.call168 bd br bm F D R m W h ([C.un 33 (xAt D 1 0)]) (nR 33 D R) (nM 33 D m) (fun hf G w hw => do_un 33 _ _ _ _ bd br bm G _ R m w hw (C_xAt D hD 1 0) (flt0 hf).2.1)
theorem at_34 (bd br bm : Nat) (F : Nat → Prop) (D : List Int) (R : List (Int × Int)) (m : M.MS) (hD : ∀ x ∈ D, C.C x) (ht : m.tones.length ≤ 999000) (W : World) (h : PS W bd br bm F D R m) : Calls Tryz.prog 121 #[.int .i64 34, .pointer (some ⟨bd, 0, none⟩), .pointer (some ⟨br, 0, none⟩), .pointer (some ⟨bm, 0, none⟩)] W fun e W' => e = .returned (.int .i64 (fl 34 D R)) ∧ (fl 34 D R ≠ 0 → Below W.heap.size W W') ∧ (fl 34 D R = 0 → PD W W' bd br bm F (nD 34 D R m) (nR 34 D R) (nM 34 D m)) :=
  do_row 34 ⟨#[50, 42]⟩ 1 1 1 false 0 0 0 168 (by decide) (by decide) (fun w => ent_34 w) Tryz.call168 bd br bm F D R m W h ([C.un 34 (xAt D 1 0)]) (nR 34 D R) (nM 34 D m) (fun hf G w hw => do_un 34 _ _ _ _ bd br bm G _ R m w hw (C_xAt D hD 1 0) (flt0 hf).2.1)
theorem at_35 (bd br bm : Nat) (F : Nat → Prop) (D : List Int) (R : List (Int × Int)) (m : M.MS) (hD : ∀ x ∈ D, C.C x) (ht : m.tones.length ≤ 999000) (W : World) (h : PS W bd br bm F D R m) : Calls Tryz.prog 121 #[.int .i64 35, .pointer (some ⟨bd, 0, none⟩), .pointer (some ⟨br, 0, none⟩), .pointer (some ⟨bm, 0, none⟩)] W fun e W' => e = .returned (.int .i64 (fl 35 D R)) ∧ (fl 35 D R ≠ 0 → Below W.heap.size W W') ∧ (fl 35 D R = 0 → PD W W' bd br bm F (nD 35 D R m) (nR 35 D R) (nM 35 D m)) :=
  do_row 35 ⟨#[50, 47]⟩ 1 1 1 false 0 0 0 168 (by decide) (by decide) (fun w => ent_35 w) Tryz.call168 bd br bm F D R m W h ([C.un 35 (xAt D 1 0)]) (nR 35 D R) (nM 35 D m) (fun hf G w hw => do_un 35 _ _ _ _ bd br bm G _ R m w hw (C_xAt D hD 1 0) (flt0 hf).2.1)
theorem at_36 (bd br bm : Nat) (F : Nat → Prop) (D : List Int) (R : List (Int × Int)) (m : M.MS) (hD : ∀ x ∈ D, C.C x) (ht : m.tones.length ≤ 999000) (W : World) (h : PS W bd br bm F D R m) : Calls Tryz.prog 121 #[.int .i64 36, .pointer (some ⟨bd, 0, none⟩), .pointer (some ⟨br, 0, none⟩), .pointer (some ⟨bm, 0, none⟩)] W fun e W' => e = .returned (.int .i64 (fl 36 D R)) ∧ (fl 36 D R ≠ 0 → Below W.heap.size W W') ∧ (fl 36 D R = 0 → PD W W' bd br bm F (nD 36 D R m) (nR 36 D R) (nM 36 D m)) :=
  do_row 36 ⟨#[97, 110, 100]⟩ 2 1 1 false 0 0 0 166 (by decide) (by decide) (fun w => ent_36 w) Tryz.call166 bd br bm F D R m W h ([C.bi 36 (xAt D 2 0) (xAt D 2 1)]) (nR 36 D R) (nM 36 D m) (fun hf G w hw => do_bin 36 _ _ _ _ bd br bm G _ R m w hw (C_xAt D hD 2 0) (C_xAt D hD 2 1) (flt0 hf).2.1)
theorem at_37 (bd br bm : Nat) (F : Nat → Prop) (D : List Int) (R : List (Int × Int)) (m : M.MS) (hD : ∀ x ∈ D, C.C x) (ht : m.tones.length ≤ 999000) (W : World) (h : PS W bd br bm F D R m) : Calls Tryz.prog 121 #[.int .i64 37, .pointer (some ⟨bd, 0, none⟩), .pointer (some ⟨br, 0, none⟩), .pointer (some ⟨bm, 0, none⟩)] W fun e W' => e = .returned (.int .i64 (fl 37 D R)) ∧ (fl 37 D R ≠ 0 → Below W.heap.size W W') ∧ (fl 37 D R = 0 → PD W W' bd br bm F (nD 37 D R m) (nR 37 D R) (nM 37 D m)) :=
  do_row 37 ⟨#[111, 114]⟩ 2 1 1 false 0 0 0 166 (by decide) (by decide) (fun w => ent_37 w) Tryz.call166 bd br bm F D R m W h ([C.bi 37 (xAt D 2 0) (xAt D 2 1)]) (nR 37 D R) (nM 37 D m) (fun hf G w hw => do_bin 37 _ _ _ _ bd br bm G _ R m w hw (C_xAt D hD 2 0) (C_xAt D hD 2 1) (flt0 hf).2.1)
theorem at_38 (bd br bm : Nat) (F : Nat → Prop) (D : List Int) (R : List (Int × Int)) (m : M.MS) (hD : ∀ x ∈ D, C.C x) (ht : m.tones.length ≤ 999000) (W : World) (h : PS W bd br bm F D R m) : Calls Tryz.prog 121 #[.int .i64 38, .pointer (some ⟨bd, 0, none⟩), .pointer (some ⟨br, 0, none⟩), .pointer (some ⟨bm, 0, none⟩)] W fun e W' => e = .returned (.int .i64 (fl 38 D R)) ∧ (fl 38 D R ≠ 0 → Below W.heap.size W W') ∧ (fl 38 D R = 0 → PD W W' bd br bm F (nD 38 D R m) (nR 38 D R) (nM 38 D m)) :=
  do_row 38 ⟨#[120, 111, 114]⟩ 2 1 1 false 0 0 0 166 (by decide) (by decide) (fun w => ent_38 w) Tryz.call166 bd br bm F D R m W h ([C.bi 38 (xAt D 2 0) (xAt D 2 1)]) (nR 38 D R) (nM 38 D m) (fun hf G w hw => do_bin 38 _ _ _ _ bd br bm G _ R m w hw (C_xAt D hD 2 0) (C_xAt D hD 2 1) (flt0 hf).2.1)
theorem at_39 (bd br bm : Nat) (F : Nat → Prop) (D : List Int) (R : List (Int × Int)) (m : M.MS) (hD : ∀ x ∈ D, C.C x) (ht : m.tones.length ≤ 999000) (W : World) (h : PS W bd br bm F D R m) : Calls Tryz.prog 121 #[.int .i64 39, .pointer (some ⟨bd, 0, none⟩), .pointer (some ⟨br, 0, none⟩), .pointer (some ⟨bm, 0, none⟩)] W fun e W' => e = .returned (.int .i64 (fl 39 D R)) ∧ (fl 39 D R ≠ 0 → Below W.heap.size W W') ∧ (fl 39 D R = 0 → PD W W' bd br bm F (nD 39 D R m) (nR 39 D R) (nM 39 D m)) :=
  do_row 39 ⟨#[105, 110, 118, 101, 114, 116]⟩ 1 1 1 false 0 0 0 168 (by decide) (by decide) (fun w => ent_39 w) Tryz.call168 bd br bm F D R m W h ([C.un 39 (xAt D 1 0)]) (nR 39 D R) (nM 39 D m) (fun hf G w hw => do_un 39 _ _ _ _ bd br bm G _ R m w hw (C_xAt D hD 1 0) (flt0 hf).2.1)
theorem at_40 (bd br bm : Nat) (F : Nat → Prop) (D : List Int) (R : List (Int × Int)) (m : M.MS) (hD : ∀ x ∈ D, C.C x) (ht : m.tones.length ≤ 999000) (W : World) (h : PS W bd br bm F D R m) : Calls Tryz.prog 121 #[.int .i64 40, .pointer (some ⟨bd, 0, none⟩), .pointer (some ⟨br, 0, none⟩), .pointer (some ⟨bm, 0, none⟩)] W fun e W' => e = .returned (.int .i64 (fl 40 D R)) ∧ (fl 40 D R ≠ 0 → Below W.heap.size W W') ∧ (fl 40 D R = 0 → PD W W' bd br bm F (nD 40 D R m) (nR 40 D R) (nM 40 D m)) :=
  do_row 40 ⟨#[108, 115, 104, 105, 102, 116]⟩ 2 1 1 false 0 0 0 166 (by decide) (by decide) (fun w => ent_40 w) Tryz.call166 bd br bm F D R m W h ([C.bi 40 (xAt D 2 0) (xAt D 2 1)]) (nR 40 D R) (nM 40 D m) (fun hf G w hw => do_bin 40 _ _ _ _ bd br bm G _ R m w hw (C_xAt D hD 2 0) (C_xAt D hD 2 1) (flt0 hf).2.1)
theorem at_41 (bd br bm : Nat) (F : Nat → Prop) (D : List Int) (R : List (Int × Int)) (m : M.MS) (hD : ∀ x ∈ D, C.C x) (ht : m.tones.length ≤ 999000) (W : World) (h : PS W bd br bm F D R m) : Calls Tryz.prog 121 #[.int .i64 41, .pointer (some ⟨bd, 0, none⟩), .pointer (some ⟨br, 0, none⟩), .pointer (some ⟨bm, 0, none⟩)] W fun e W' => e = .returned (.int .i64 (fl 41 D R)) ∧ (fl 41 D R ≠ 0 → Below W.heap.size W W') ∧ (fl 41 D R = 0 → PD W W' bd br bm F (nD 41 D R m) (nR 41 D R) (nM 41 D m)) :=
  do_row 41 ⟨#[114, 115, 104, 105, 102, 116]⟩ 2 1 1 false 0 0 0 166 (by decide) (by decide) (fun w => ent_41 w) Tryz.call166 bd br bm F D R m W h ([C.bi 41 (xAt D 2 0) (xAt D 2 1)]) (nR 41 D R) (nM 41 D m) (fun hf G w hw => do_bin 41 _ _ _ _ bd br bm G _ R m w hw (C_xAt D hD 2 0) (C_xAt D hD 2 1) (flt0 hf).2.1)
theorem at_42 (bd br bm : Nat) (F : Nat → Prop) (D : List Int) (R : List (Int × Int)) (m : M.MS) (hD : ∀ x ∈ D, C.C x) (ht : m.tones.length ≤ 999000) (W : World) (h : PS W bd br bm F D R m) : Calls Tryz.prog 121 #[.int .i64 42, .pointer (some ⟨bd, 0, none⟩), .pointer (some ⟨br, 0, none⟩), .pointer (some ⟨bm, 0, none⟩)] W fun e W' => e = .returned (.int .i64 (fl 42 D R)) ∧ (fl 42 D R ≠ 0 → Below W.heap.size W W') ∧ (fl 42 D R = 0 → PD W W' bd br bm F (nD 42 D R m) (nR 42 D R) (nM 42 D m)) :=
  do_row 42 ⟨#[61]⟩ 2 1 1 false 0 0 0 166 (by decide) (by decide) (fun w => ent_42 w) Tryz.call166 bd br bm F D R m W h ([C.bi 42 (xAt D 2 0) (xAt D 2 1)]) (nR 42 D R) (nM 42 D m) (fun hf G w hw => do_bin 42 _ _ _ _ bd br bm G _ R m w hw (C_xAt D hD 2 0) (C_xAt D hD 2 1) (flt0 hf).2.1)
theorem at_43 (bd br bm : Nat) (F : Nat → Prop) (D : List Int) (R : List (Int × Int)) (m : M.MS) (hD : ∀ x ∈ D, C.C x) (ht : m.tones.length ≤ 999000) (W : World) (h : PS W bd br bm F D R m) : Calls Tryz.prog 121 #[.int .i64 43, .pointer (some ⟨bd, 0, none⟩), .pointer (some ⟨br, 0, none⟩), .pointer (some ⟨bm, 0, none⟩)] W fun e W' => e = .returned (.int .i64 (fl 43 D R)) ∧ (fl 43 D R ≠ 0 → Below W.heap.size W W') ∧ (fl 43 D R = 0 → PD W W' bd br bm F (nD 43 D R m) (nR 43 D R) (nM 43 D m)) :=
  do_row 43 ⟨#[60, 62]⟩ 2 1 1 false 0 0 0 166 (by decide) (by decide) (fun w => ent_43 w) Tryz.call166 bd br bm F D R m W h ([C.bi 43 (xAt D 2 0) (xAt D 2 1)]) (nR 43 D R) (nM 43 D m) (fun hf G w hw => do_bin 43 _ _ _ _ bd br bm G _ R m w hw (C_xAt D hD 2 0) (C_xAt D hD 2 1) (flt0 hf).2.1)
theorem at_44 (bd br bm : Nat) (F : Nat → Prop) (D : List Int) (R : List (Int × Int)) (m : M.MS) (hD : ∀ x ∈ D, C.C x) (ht : m.tones.length ≤ 999000) (W : World) (h : PS W bd br bm F D R m) : Calls Tryz.prog 121 #[.int .i64 44, .pointer (some ⟨bd, 0, none⟩), .pointer (some ⟨br, 0, none⟩), .pointer (some ⟨bm, 0, none⟩)] W fun e W' => e = .returned (.int .i64 (fl 44 D R)) ∧ (fl 44 D R ≠ 0 → Below W.heap.size W W') ∧ (fl 44 D R = 0 → PD W W' bd br bm F (nD 44 D R m) (nR 44 D R) (nM 44 D m)) :=
  do_row 44 ⟨#[60]⟩ 2 1 1 false 0 0 0 166 (by decide) (by decide) (fun w => ent_44 w) Tryz.call166 bd br bm F D R m W h ([C.bi 44 (xAt D 2 0) (xAt D 2 1)]) (nR 44 D R) (nM 44 D m) (fun hf G w hw => do_bin 44 _ _ _ _ bd br bm G _ R m w hw (C_xAt D hD 2 0) (C_xAt D hD 2 1) (flt0 hf).2.1)
theorem at_45 (bd br bm : Nat) (F : Nat → Prop) (D : List Int) (R : List (Int × Int)) (m : M.MS) (hD : ∀ x ∈ D, C.C x) (ht : m.tones.length ≤ 999000) (W : World) (h : PS W bd br bm F D R m) : Calls Tryz.prog 121 #[.int .i64 45, .pointer (some ⟨bd, 0, none⟩), .pointer (some ⟨br, 0, none⟩), .pointer (some ⟨bm, 0, none⟩)] W fun e W' => e = .returned (.int .i64 (fl 45 D R)) ∧ (fl 45 D R ≠ 0 → Below W.heap.size W W') ∧ (fl 45 D R = 0 → PD W W' bd br bm F (nD 45 D R m) (nR 45 D R) (nM 45 D m)) :=
  do_row 45 ⟨#[62]⟩ 2 1 1 false 0 0 0 166 (by decide) (by decide) (fun w => ent_45 w) Tryz.call166 bd br bm F D R m W h ([C.bi 45 (xAt D 2 0) (xAt D 2 1)]) (nR 45 D R) (nM 45 D m) (fun hf G w hw => do_bin 45 _ _ _ _ bd br bm G _ R m w hw (C_xAt D hD 2 0) (C_xAt D hD 2 1) (flt0 hf).2.1)
theorem at_46 (bd br bm : Nat) (F : Nat → Prop) (D : List Int) (R : List (Int × Int)) (m : M.MS) (hD : ∀ x ∈ D, C.C x) (ht : m.tones.length ≤ 999000) (W : World) (h : PS W bd br bm F D R m) : Calls Tryz.prog 121 #[.int .i64 46, .pointer (some ⟨bd, 0, none⟩), .pointer (some ⟨br, 0, none⟩), .pointer (some ⟨bm, 0, none⟩)] W fun e W' => e = .returned (.int .i64 (fl 46 D R)) ∧ (fl 46 D R ≠ 0 → Below W.heap.size W W') ∧ (fl 46 D R = 0 → PD W W' bd br bm F (nD 46 D R m) (nR 46 D R) (nM 46 D m)) :=
  do_row 46 ⟨#[117, 60]⟩ 2 1 1 false 0 0 0 166 (by decide) (by decide) (fun w => ent_46 w) Tryz.call166 bd br bm F D R m W h ([C.bi 46 (xAt D 2 0) (xAt D 2 1)]) (nR 46 D R) (nM 46 D m) (fun hf G w hw => do_bin 46 _ _ _ _ bd br bm G _ R m w hw (C_xAt D hD 2 0) (C_xAt D hD 2 1) (flt0 hf).2.1)
theorem at_47 (bd br bm : Nat) (F : Nat → Prop) (D : List Int) (R : List (Int × Int)) (m : M.MS) (hD : ∀ x ∈ D, C.C x) (ht : m.tones.length ≤ 999000) (W : World) (h : PS W bd br bm F D R m) : Calls Tryz.prog 121 #[.int .i64 47, .pointer (some ⟨bd, 0, none⟩), .pointer (some ⟨br, 0, none⟩), .pointer (some ⟨bm, 0, none⟩)] W fun e W' => e = .returned (.int .i64 (fl 47 D R)) ∧ (fl 47 D R ≠ 0 → Below W.heap.size W W') ∧ (fl 47 D R = 0 → PD W W' bd br bm F (nD 47 D R m) (nR 47 D R) (nM 47 D m)) :=
  do_row 47 ⟨#[117, 62]⟩ 2 1 1 false 0 0 0 166 (by decide) (by decide) (fun w => ent_47 w) Tryz.call166 bd br bm F D R m W h ([C.bi 47 (xAt D 2 0) (xAt D 2 1)]) (nR 47 D R) (nM 47 D m) (fun hf G w hw => do_bin 47 _ _ _ _ bd br bm G _ R m w hw (C_xAt D hD 2 0) (C_xAt D hD 2 1) (flt0 hf).2.1)
theorem at_48 (bd br bm : Nat) (F : Nat → Prop) (D : List Int) (R : List (Int × Int)) (m : M.MS) (hD : ∀ x ∈ D, C.C x) (ht : m.tones.length ≤ 999000) (W : World) (h : PS W bd br bm F D R m) : Calls Tryz.prog 121 #[.int .i64 48, .pointer (some ⟨bd, 0, none⟩), .pointer (some ⟨br, 0, none⟩), .pointer (some ⟨bm, 0, none⟩)] W fun e W' => e = .returned (.int .i64 (fl 48 D R)) ∧ (fl 48 D R ≠ 0 → Below W.heap.size W W') ∧ (fl 48 D R = 0 → PD W W' bd br bm F (nD 48 D R m) (nR 48 D R) (nM 48 D m)) :=
  do_row 48 ⟨#[48, 61]⟩ 1 1 1 false 0 0 0 168 (by decide) (by decide) (fun w => ent_48 w) Tryz.call168 bd br bm F D R m W h ([C.un 48 (xAt D 1 0)]) (nR 48 D R) (nM 48 D m) (fun hf G w hw => do_un 48 _ _ _ _ bd br bm G _ R m w hw (C_xAt D hD 1 0) (flt0 hf).2.1)
theorem at_49 (bd br bm : Nat) (F : Nat → Prop) (D : List Int) (R : List (Int × Int)) (m : M.MS) (hD : ∀ x ∈ D, C.C x) (ht : m.tones.length ≤ 999000) (W : World) (h : PS W bd br bm F D R m) : Calls Tryz.prog 121 #[.int .i64 49, .pointer (some ⟨bd, 0, none⟩), .pointer (some ⟨br, 0, none⟩), .pointer (some ⟨bm, 0, none⟩)] W fun e W' => e = .returned (.int .i64 (fl 49 D R)) ∧ (fl 49 D R ≠ 0 → Below W.heap.size W W') ∧ (fl 49 D R = 0 → PD W W' bd br bm F (nD 49 D R m) (nR 49 D R) (nM 49 D m)) :=
  do_row 49 ⟨#[48, 60]⟩ 1 1 1 false 0 0 0 168 (by decide) (by decide) (fun w => ent_49 w) Tryz.call168 bd br bm F D R m W h ([C.un 49 (xAt D 1 0)]) (nR 49 D R) (nM 49 D m) (fun hf G w hw => do_un 49 _ _ _ _ bd br bm G _ R m w hw (C_xAt D hD 1 0) (flt0 hf).2.1)
theorem at_50 (bd br bm : Nat) (F : Nat → Prop) (D : List Int) (R : List (Int × Int)) (m : M.MS) (hD : ∀ x ∈ D, C.C x) (ht : m.tones.length ≤ 999000) (W : World) (h : PS W bd br bm F D R m) : Calls Tryz.prog 121 #[.int .i64 50, .pointer (some ⟨bd, 0, none⟩), .pointer (some ⟨br, 0, none⟩), .pointer (some ⟨bm, 0, none⟩)] W fun e W' => e = .returned (.int .i64 (fl 50 D R)) ∧ (fl 50 D R ≠ 0 → Below W.heap.size W W') ∧ (fl 50 D R = 0 → PD W W' bd br bm F (nD 50 D R m) (nR 50 D R) (nM 50 D m)) :=
  do_row 50 ⟨#[64]⟩ 1 1 2 false 0 0 0 141 (by decide) (by decide) (fun w => ent_50 w) Tryz.call141 bd br bm F D R m W h ([M.cl m (xAt D 1 0)]) (nR 50 D R) (nM 50 D m) (fun hf G w hw => do_fetch 50 _ _ _ _ bd br bm G _ R m w hw (C_xAt D hD 1 0) (flt0 hf).2.1)
theorem at_51 (bd br bm : Nat) (F : Nat → Prop) (D : List Int) (R : List (Int × Int)) (m : M.MS) (hD : ∀ x ∈ D, C.C x) (ht : m.tones.length ≤ 999000) (W : World) (h : PS W bd br bm F D R m) : Calls Tryz.prog 121 #[.int .i64 51, .pointer (some ⟨bd, 0, none⟩), .pointer (some ⟨br, 0, none⟩), .pointer (some ⟨bm, 0, none⟩)] W fun e W' => e = .returned (.int .i64 (fl 51 D R)) ∧ (fl 51 D R ≠ 0 → Below W.heap.size W W') ∧ (fl 51 D R = 0 → PD W W' bd br bm F (nD 51 D R m) (nR 51 D R) (nM 51 D m)) :=
  do_row 51 ⟨#[33]⟩ 2 0 2 false 0 0 0 143 (by decide) (by decide) (fun w => ent_51 w) Tryz.call143 bd br bm F D R m W h ([]) (nR 51 D R) (nM 51 D m) (fun hf G w hw => by
    rw [List.append_nil]
    exact do_store 51 _ _ _ _ bd br bm G _ R m w hw (C_xAt D hD 2 0) (C_xAt D hD 2 1) ht)
theorem at_52 (bd br bm : Nat) (F : Nat → Prop) (D : List Int) (R : List (Int × Int)) (m : M.MS) (hD : ∀ x ∈ D, C.C x) (ht : m.tones.length ≤ 999000) (W : World) (h : PS W bd br bm F D R m) : Calls Tryz.prog 121 #[.int .i64 52, .pointer (some ⟨bd, 0, none⟩), .pointer (some ⟨br, 0, none⟩), .pointer (some ⟨bm, 0, none⟩)] W fun e W' => e = .returned (.int .i64 (fl 52 D R)) ∧ (fl 52 D R ≠ 0 → Below W.heap.size W W') ∧ (fl 52 D R = 0 → PD W W' bd br bm F (nD 52 D R m) (nR 52 D R) (nM 52 D m)) :=
  do_row 52 ⟨#[99, 64]⟩ 1 1 2 false 0 0 0 145 (by decide) (by decide) (fun w => ent_52 w) Tryz.call145 bd br bm F D R m W h ([M.ld m (xAt D 1 0)]) (nR 52 D R) (nM 52 D m) (fun hf G w hw => do_cfetch 52 _ _ _ _ bd br bm G _ R m w hw (C_xAt D hD 1 0) (flt0 hf).2.1)
theorem at_53 (bd br bm : Nat) (F : Nat → Prop) (D : List Int) (R : List (Int × Int)) (m : M.MS) (hD : ∀ x ∈ D, C.C x) (ht : m.tones.length ≤ 999000) (W : World) (h : PS W bd br bm F D R m) : Calls Tryz.prog 121 #[.int .i64 53, .pointer (some ⟨bd, 0, none⟩), .pointer (some ⟨br, 0, none⟩), .pointer (some ⟨bm, 0, none⟩)] W fun e W' => e = .returned (.int .i64 (fl 53 D R)) ∧ (fl 53 D R ≠ 0 → Below W.heap.size W W') ∧ (fl 53 D R = 0 → PD W W' bd br bm F (nD 53 D R m) (nR 53 D R) (nM 53 D m)) :=
  do_row 53 ⟨#[99, 33]⟩ 2 0 2 false 0 0 0 146 (by decide) (by decide) (fun w => ent_53 w) Tryz.call146 bd br bm F D R m W h ([]) (nR 53 D R) (nM 53 D m) (fun hf G w hw => by
    rw [List.append_nil]
    exact do_cstore 53 _ _ _ _ bd br bm G _ R m w hw (C_xAt D hD 2 0) (C_xAt D hD 2 1) ht)
theorem at_54 (bd br bm : Nat) (F : Nat → Prop) (D : List Int) (R : List (Int × Int)) (m : M.MS) (hD : ∀ x ∈ D, C.C x) (ht : m.tones.length ≤ 999000) (W : World) (h : PS W bd br bm F D R m) : Calls Tryz.prog 121 #[.int .i64 54, .pointer (some ⟨bd, 0, none⟩), .pointer (some ⟨br, 0, none⟩), .pointer (some ⟨bm, 0, none⟩)] W fun e W' => e = .returned (.int .i64 (fl 54 D R)) ∧ (fl 54 D R ≠ 0 → Below W.heap.size W W') ∧ (fl 54 D R = 0 → PD W W' bd br bm F (nD 54 D R m) (nR 54 D R) (nM 54 D m)) :=
  do_row 54 ⟨#[43, 33]⟩ 2 0 3 false 0 0 0 147 (by decide) (by decide) (fun w => ent_54 w) Tryz.call147 bd br bm F D R m W h ([]) (nR 54 D R) (nM 54 D m) (fun hf G w hw => by
    rw [List.append_nil]
    exact do_plus 54 _ _ _ _ bd br bm G _ R m w hw (C_xAt D hD 2 0) (C_xAt D hD 2 1) ht)
theorem at_55 (bd br bm : Nat) (F : Nat → Prop) (D : List Int) (R : List (Int × Int)) (m : M.MS) (hD : ∀ x ∈ D, C.C x) (ht : m.tones.length ≤ 999000) (W : World) (h : PS W bd br bm F D R m) : Calls Tryz.prog 121 #[.int .i64 55, .pointer (some ⟨bd, 0, none⟩), .pointer (some ⟨br, 0, none⟩), .pointer (some ⟨bm, 0, none⟩)] W fun e W' => e = .returned (.int .i64 (fl 55 D R)) ∧ (fl 55 D R ≠ 0 → Below W.heap.size W W') ∧ (fl 55 D R = 0 → PD W W' bd br bm F (nD 55 D R m) (nR 55 D R) (nM 55 D m)) :=
  do_row 55 ⟨#[62, 114]⟩ 1 0 1 false 0 0 1 148 (by decide) (by decide) (fun w => ent_55 w) Tryz.call148 bd br bm F D R m W h ([]) (nR 55 D R) (nM 55 D m) (fun hf G w hw => by
    rw [List.append_nil]
    exact do_toR 55 _ _ _ _ bd br bm G _ R m w hw (flt0 hf).2.2.2)
theorem at_56 (bd br bm : Nat) (F : Nat → Prop) (D : List Int) (R : List (Int × Int)) (m : M.MS) (hD : ∀ x ∈ D, C.C x) (ht : m.tones.length ≤ 999000) (W : World) (h : PS W bd br bm F D R m) : Calls Tryz.prog 121 #[.int .i64 56, .pointer (some ⟨bd, 0, none⟩), .pointer (some ⟨br, 0, none⟩), .pointer (some ⟨bm, 0, none⟩)] W fun e W' => e = .returned (.int .i64 (fl 56 D R)) ∧ (fl 56 D R ≠ 0 → Below W.heap.size W W') ∧ (fl 56 D R = 0 → PD W W' bd br bm F (nD 56 D R m) (nR 56 D R) (nM 56 D m)) :=
  do_row 56 ⟨#[114, 62]⟩ 0 1 1 false 4 0 0 149 (by decide) (by decide) (fun w => ent_56 w) Tryz.call149 bd br bm F D R m W h ([(lk 4 0 R).1]) (nR 56 D R) (nM 56 D m) (fun hf G w hw => do_fromR 56 _ _ _ _ bd br bm G _ R m w hw _ _ (lk_saved (flt0 hf).2.2.1) (flt0 hf).2.1)
theorem at_57 (bd br bm : Nat) (F : Nat → Prop) (D : List Int) (R : List (Int × Int)) (m : M.MS) (hD : ∀ x ∈ D, C.C x) (ht : m.tones.length ≤ 999000) (W : World) (h : PS W bd br bm F D R m) : Calls Tryz.prog 121 #[.int .i64 57, .pointer (some ⟨bd, 0, none⟩), .pointer (some ⟨br, 0, none⟩), .pointer (some ⟨bm, 0, none⟩)] W fun e W' => e = .returned (.int .i64 (fl 57 D R)) ∧ (fl 57 D R ≠ 0 → Below W.heap.size W W') ∧ (fl 57 D R = 0 → PD W W' bd br bm F (nD 57 D R m) (nR 57 D R) (nM 57 D m)) :=
  do_row 57 ⟨#[114, 64]⟩ 0 1 1 false 4 0 0 170 (by decide) (by decide) (fun w => ent_57 w) Tryz.call170 bd br bm F D R m W h ([(lk 4 0 R).1]) (nR 57 D R) (nM 57 D m) (fun hf G w hw => do_peek 57 _ _ _ _ bd br bm G _ R m w hw (flt0 hf).2.1)
theorem at_58 (bd br bm : Nat) (F : Nat → Prop) (D : List Int) (R : List (Int × Int)) (m : M.MS) (hD : ∀ x ∈ D, C.C x) (ht : m.tones.length ≤ 999000) (W : World) (h : PS W bd br bm F D R m) : Calls Tryz.prog 121 #[.int .i64 58, .pointer (some ⟨bd, 0, none⟩), .pointer (some ⟨br, 0, none⟩), .pointer (some ⟨bm, 0, none⟩)] W fun e W' => e = .returned (.int .i64 (fl 58 D R)) ∧ (fl 58 D R ≠ 0 → Below W.heap.size W W') ∧ (fl 58 D R = 0 → PD W W' bd br bm F (nD 58 D R m) (nR 58 D R) (nM 58 D m)) :=
  do_row 58 ⟨#[105]⟩ 0 1 1 false 3 0 0 170 (by decide) (by decide) (fun w => ent_58 w) Tryz.call170 bd br bm F D R m W h ([(lk 3 0 R).1]) (nR 58 D R) (nM 58 D m) (fun hf G w hw => do_peek 58 _ _ _ _ bd br bm G _ R m w hw (flt0 hf).2.1)
theorem at_59 (bd br bm : Nat) (F : Nat → Prop) (D : List Int) (R : List (Int × Int)) (m : M.MS) (hD : ∀ x ∈ D, C.C x) (ht : m.tones.length ≤ 999000) (W : World) (h : PS W bd br bm F D R m) : Calls Tryz.prog 121 #[.int .i64 59, .pointer (some ⟨bd, 0, none⟩), .pointer (some ⟨br, 0, none⟩), .pointer (some ⟨bm, 0, none⟩)] W fun e W' => e = .returned (.int .i64 (fl 59 D R)) ∧ (fl 59 D R ≠ 0 → Below W.heap.size W W') ∧ (fl 59 D R = 0 → PD W W' bd br bm F (nD 59 D R m) (nR 59 D R) (nM 59 D m)) :=
  do_row 59 ⟨#[106]⟩ 0 1 1 false 3 2 0 170 (by decide) (by decide) (fun w => ent_59 w) Tryz.call170 bd br bm F D R m W h ([(lk 3 2 R).1]) (nR 59 D R) (nM 59 D m) (fun hf G w hw => do_peek 59 _ _ _ _ bd br bm G _ R m w hw (flt0 hf).2.1)
theorem at_60 (bd br bm : Nat) (F : Nat → Prop) (D : List Int) (R : List (Int × Int)) (m : M.MS) (hD : ∀ x ∈ D, C.C x) (ht : m.tones.length ≤ 999000) (W : World) (h : PS W bd br bm F D R m) : Calls Tryz.prog 121 #[.int .i64 60, .pointer (some ⟨bd, 0, none⟩), .pointer (some ⟨br, 0, none⟩), .pointer (some ⟨bm, 0, none⟩)] W fun e W' => e = .returned (.int .i64 (fl 60 D R)) ∧ (fl 60 D R ≠ 0 → Below W.heap.size W W') ∧ (fl 60 D R = 0 → PD W W' bd br bm F (nD 60 D R m) (nR 60 D R) (nM 60 D m)) :=
  do_row 60 ⟨#[112, 108, 111, 116]⟩ 3 0 3 false 0 0 0 151 (by decide) (by decide) (fun w => ent_60 w) Tryz.call151 bd br bm F D R m W h ([]) (nR 60 D R) (nM 60 D m) (fun hf G w hw => by
    rw [List.append_nil]
    exact do_plot 60 _ _ _ _ bd br bm G _ R m w hw (C_xAt D hD 3 0) (C_xAt D hD 3 1) ht)
theorem at_61 (bd br bm : Nat) (F : Nat → Prop) (D : List Int) (R : List (Int × Int)) (m : M.MS) (hD : ∀ x ∈ D, C.C x) (ht : m.tones.length ≤ 999000) (W : World) (h : PS W bd br bm F D R m) : Calls Tryz.prog 121 #[.int .i64 61, .pointer (some ⟨bd, 0, none⟩), .pointer (some ⟨br, 0, none⟩), .pointer (some ⟨bm, 0, none⟩)] W fun e W' => e = .returned (.int .i64 (fl 61 D R)) ∧ (fl 61 D R ≠ 0 → Below W.heap.size W W') ∧ (fl 61 D R = 0 → PD W W' bd br bm F (nD 61 D R m) (nR 61 D R) (nM 61 D m)) :=
  do_row 61 ⟨#[112, 97, 100]⟩ 0 1 1 false 0 0 0 153 (by decide) (by decide) (fun w => ent_61 w) Tryz.call153 bd br bm F D R m W h ([m.pad]) (nR 61 D R) (nM 61 D m) (fun hf G w hw => do_pad 61 _ _ _ _ bd br bm G _ R m w hw (flt0 hf).2.1)
theorem at_62 (bd br bm : Nat) (F : Nat → Prop) (D : List Int) (R : List (Int × Int)) (m : M.MS) (hD : ∀ x ∈ D, C.C x) (ht : m.tones.length ≤ 999000) (W : World) (h : PS W bd br bm F D R m) : Calls Tryz.prog 121 #[.int .i64 62, .pointer (some ⟨bd, 0, none⟩), .pointer (some ⟨br, 0, none⟩), .pointer (some ⟨bm, 0, none⟩)] W fun e W' => e = .returned (.int .i64 (fl 62 D R)) ∧ (fl 62 D R ≠ 0 → Below W.heap.size W W') ∧ (fl 62 D R = 0 → PD W W' bd br bm F (nD 62 D R m) (nR 62 D R) (nM 62 D m)) :=
  do_row 62 ⟨#[116, 111, 110, 101]⟩ 2 0 2 false 0 0 0 155 (by decide) (by decide) (fun w => ent_62 w) Tryz.call155 bd br bm F D R m W h ([]) (nR 62 D R) (nM 62 D m) (fun hf G w hw => by
    rw [List.append_nil]
    exact do_tone 62 _ _ _ _ bd br bm G _ R m w hw (C_xAt D hD 2 0) (C_xAt D hD 2 1) ht)
theorem at_63 (bd br bm : Nat) (F : Nat → Prop) (D : List Int) (R : List (Int × Int)) (m : M.MS) (hD : ∀ x ∈ D, C.C x) (ht : m.tones.length ≤ 999000) (W : World) (h : PS W bd br bm F D R m) : Calls Tryz.prog 121 #[.int .i64 63, .pointer (some ⟨bd, 0, none⟩), .pointer (some ⟨br, 0, none⟩), .pointer (some ⟨bm, 0, none⟩)] W fun e W' => e = .returned (.int .i64 (fl 63 D R)) ∧ (fl 63 D R ≠ 0 → Below W.heap.size W W') ∧ (fl 63 D R = 0 → PD W W' bd br bm F (nD 63 D R m) (nR 63 D R) (nM 63 D m)) :=
  do_row 63 ⟨#[98, 97, 110, 107]⟩ 1 0 1 false 0 0 0 157 (by decide) (by decide) (fun w => ent_63 w) Tryz.call157 bd br bm F D R m W h ([]) (nR 63 D R) (nM 63 D m) (fun hf G w hw => by
    rw [List.append_nil]
    exact do_bank 63 _ _ _ _ bd br bm G _ R m w hw (C_xAt D hD 1 0) (C_xAt D hD 1 1) ht)
theorem plain_cases (op : Int) (h : plain op = true) : op = 6 ∨ op = 9 ∨ op = 12 ∨ op = 13 ∨ op = 14 ∨ op = 15 ∨ op = 16 ∨ op = 17 ∨ op = 18 ∨ op = 19 ∨ op = 20 ∨ op = 21 ∨ op = 22 ∨ op = 23 ∨ op = 24 ∨ op = 25 ∨ op = 26 ∨ op = 27 ∨ op = 28 ∨ op = 29 ∨ op = 30 ∨ op = 31 ∨ op = 32 ∨ op = 33 ∨ op = 34 ∨ op = 35 ∨ op = 36 ∨ op = 37 ∨ op = 38 ∨ op = 39 ∨ op = 40 ∨ op = 41 ∨ op = 42 ∨ op = 43 ∨ op = 44 ∨ op = 45 ∨ op = 46 ∨ op = 47 ∨ op = 48 ∨ op = 49 ∨ op = 50 ∨ op = 51 ∨ op = 52 ∨ op = 53 ∨ op = 54 ∨ op = 55 ∨ op = 56 ∨ op = 57 ∨ op = 58 ∨ op = 59 ∨ op = 60 ∨ op = 61 ∨ op = 62 ∨ op = 63 := by
  unfold plain at h
  simp only [Bool.or_eq_true, Bool.and_eq_true, beq_iff_eq, decide_eq_true_eq] at h
  omega
theorem do_any (op : Int) (hp : plain op = true) (bd br bm : Nat) (F : Nat → Prop) (D : List Int) (R : List (Int × Int)) (m : M.MS) (hD : ∀ x ∈ D, C.C x) (ht : m.tones.length ≤ 999000) (W : World) (h : PS W bd br bm F D R m) : Calls Tryz.prog 121 #[.int .i64 op, .pointer (some ⟨bd, 0, none⟩), .pointer (some ⟨br, 0, none⟩), .pointer (some ⟨bm, 0, none⟩)] W fun e W' => e = .returned (.int .i64 (fl op D R)) ∧ (fl op D R ≠ 0 → Below W.heap.size W W') ∧ (fl op D R = 0 → PD W W' bd br bm F (nD op D R m) (nR op D R) (nM op D m)) := by
  rcases plain_cases op hp with rfl | rfl | rfl | rfl | rfl | rfl | rfl | rfl | rfl | rfl | rfl | rfl | rfl | rfl | rfl | rfl | rfl | rfl | rfl | rfl | rfl | rfl | rfl | rfl | rfl | rfl | rfl | rfl | rfl | rfl | rfl | rfl | rfl | rfl | rfl | rfl | rfl | rfl | rfl | rfl | rfl | rfl | rfl | rfl | rfl | rfl | rfl | rfl | rfl | rfl | rfl | rfl | rfl | rfl
  · exact at_6 bd br bm F D R m hD ht W h
  · exact at_9 bd br bm F D R m hD ht W h
  · exact at_12 bd br bm F D R m hD ht W h
  · exact at_13 bd br bm F D R m hD ht W h
  · exact at_14 bd br bm F D R m hD ht W h
  · exact at_15 bd br bm F D R m hD ht W h
  · exact at_16 bd br bm F D R m hD ht W h
  · exact at_17 bd br bm F D R m hD ht W h
  · exact at_18 bd br bm F D R m hD ht W h
  · exact at_19 bd br bm F D R m hD ht W h
  · exact at_20 bd br bm F D R m hD ht W h
  · exact at_21 bd br bm F D R m hD ht W h
  · exact at_22 bd br bm F D R m hD ht W h
  · exact at_23 bd br bm F D R m hD ht W h
  · exact at_24 bd br bm F D R m hD ht W h
  · exact at_25 bd br bm F D R m hD ht W h
  · exact at_26 bd br bm F D R m hD ht W h
  · exact at_27 bd br bm F D R m hD ht W h
  · exact at_28 bd br bm F D R m hD ht W h
  · exact at_29 bd br bm F D R m hD ht W h
  · exact at_30 bd br bm F D R m hD ht W h
  · exact at_31 bd br bm F D R m hD ht W h
  · exact at_32 bd br bm F D R m hD ht W h
  · exact at_33 bd br bm F D R m hD ht W h
  · exact at_34 bd br bm F D R m hD ht W h
  · exact at_35 bd br bm F D R m hD ht W h
  · exact at_36 bd br bm F D R m hD ht W h
  · exact at_37 bd br bm F D R m hD ht W h
  · exact at_38 bd br bm F D R m hD ht W h
  · exact at_39 bd br bm F D R m hD ht W h
  · exact at_40 bd br bm F D R m hD ht W h
  · exact at_41 bd br bm F D R m hD ht W h
  · exact at_42 bd br bm F D R m hD ht W h
  · exact at_43 bd br bm F D R m hD ht W h
  · exact at_44 bd br bm F D R m hD ht W h
  · exact at_45 bd br bm F D R m hD ht W h
  · exact at_46 bd br bm F D R m hD ht W h
  · exact at_47 bd br bm F D R m hD ht W h
  · exact at_48 bd br bm F D R m hD ht W h
  · exact at_49 bd br bm F D R m hD ht W h
  · exact at_50 bd br bm F D R m hD ht W h
  · exact at_51 bd br bm F D R m hD ht W h
  · exact at_52 bd br bm F D R m hD ht W h
  · exact at_53 bd br bm F D R m hD ht W h
  · exact at_54 bd br bm F D R m hD ht W h
  · exact at_55 bd br bm F D R m hD ht W h
  · exact at_56 bd br bm F D R m hD ht W h
  · exact at_57 bd br bm F D R m hD ht W h
  · exact at_58 bd br bm F D R m hD ht W h
  · exact at_59 bd br bm F D R m hD ht W h
  · exact at_60 bd br bm F D R m hD ht W h
  · exact at_61 bd br bm F D R m hD ht W h
  · exact at_62 bd br bm F D R m hD ht W h
  · exact at_63 bd br bm F D R m hD ht W h
end Go.Proofs.YteldjmecomngeaaGreat.P
/-! The machine, as pure lists and numbers. -/
namespace Go.Proofs.YteldjmecomngeaaGreat.V
open Go.RowKit
open Go.Proofs
set_option linter.unusedVariables false
set_option linter.unusedSimpArgs false
structure VS where
  code : List UInt8
  pc : Int
  st : Int
  fa : Int
  D : List Int
  R : List (Int × Int)
  m : M.MS
/-- The byte at an address. -/
def by8 (c : List UInt8) (a : Int) : Int := (((c[a.toNat]?).getD 0).toNat : Int)
def cel (c : List UInt8) (a : Int) : Option Int := if a % 2 = 0 ∧ a + 1 < (c.length : Int) then some (by8 c a + 256 * by8 c (a + 1)) else none
/-- What is looked at: op, operand, fault. -/
structure LK where
  op : Nat
  x : Int
  f : Int
def opd (c : List UInt8) (pc w : Int) (op : Nat) : Option Int := if P.rb op then cel c ((pc + 2) % 65536) else if op = 2 then cel c ((w + 2) % 65536) else if op = 1 then some ((w + 2) % 65536) else some 0
def look2 (c : List UInt8) (pc w op : Int) : LK := if op < 1 ∨ 64 ≤ op then ⟨0, 0, 6⟩ else match opd c pc w op.toNat with
  | none => ⟨0, 0, 7⟩
  | some x => ⟨op.toNat, x, 0⟩
def look1 (c : List UInt8) (pc w : Int) : LK := match cel c w with
  | none => ⟨0, 0, 7⟩
  | some op => look2 c pc w op
def look0 (c : List UInt8) (pc : Int) : LK := match cel c pc with
  | none => ⟨0, 0, 7⟩
  | some w => look1 c pc w
def look (v : VS) : LK := if v.st = 1 then look0 v.code v.pc else ⟨0, 0, 0⟩
def prV (op : Nat) : Value := if op = 0 then P.rowV 0 ⟨#[]⟩ 0 0 0 false else P.rowN op
/-- What done answers: where it goes on, the fault, the state. -/
structure DN where
  on : Int
  f : Int
  v : VS
structure TN where
  b : Bool
  f : Int
  v : VS
def turn (v : VS) : TN := match v.R.reverse with
  | [] => ⟨false, 3, v⟩
  | (k, i) :: t => if k ≠ 3 then ⟨false, 5, v⟩ else match t with
    | [] => ⟨false, 3, v⟩
    | (k2, l) :: t2 => if k2 ≠ 2 then ⟨false, 5, v⟩ else if (i + 1) % 65536 ≠ l then ⟨true, 0, { v with R := t.reverse ++ [(3, (i + 1) % 65536)] }⟩ else ⟨false, 0, { v with R := t2.reverse }⟩
def pl (op : Int) (be : Int) (v : VS) : DN := ⟨be, P.fl op v.D v.R, if P.fl op v.D v.R = 0 then { v with D := P.nD op v.D v.R v.m, R := P.nR op v.D v.R, m := P.nM op v.D v.m } else v⟩
def dn (op x be : Int) (v : VS) : DN := match op with
  | 1 => if 128 < v.R.length + 1 then ⟨be, 4, v⟩ else ⟨x, 0, { v with R := v.R ++ [(1, be)] }⟩
  | 2 => if 256 < v.D.length + 1 then ⟨be, 2, v⟩ else ⟨be, 0, { v with D := v.D ++ [x] }⟩
  | 3 => if 256 < v.D.length + 1 then ⟨be, 2, v⟩ else ⟨be, 0, { v with D := v.D ++ [x] }⟩
  | 4 => ⟨x, 0, v⟩
  | 5 => match v.D.reverse with
    | [] => ⟨be, 1, v⟩
    | a :: t => ⟨if a = 0 then x else be, 0, { v with D := t.reverse }⟩
  | 7 => if (turn v).b then ⟨x, 0, (turn v).v⟩ else ⟨be, (turn v).f, (turn v).v⟩
  | 8 => match v.R.reverse with
    | [] => ⟨be, 0, { v with st := 2 }⟩
    | (k, a) :: t => if k = 1 then ⟨a, 0, { v with R := t.reverse }⟩ else ⟨0, 5, v⟩
  | 10 => ⟨be, 0, v⟩
  | 11 => ⟨be, 0, { v with st := 2 }⟩
  | op => pl op be v
def beh (pc : Int) (op : Nat) : Int := if P.rb op then (pc + 4) % 65536 else (pc + 2) % 65536
/-- What do answers: the fault, the state. -/
def doo (op : Nat) (x : Int) (v : VS) : Int × VS := ((dn op x (beh v.pc op) v).f, if (dn op x (beh v.pc op) v).f = 0 then { (dn op x (beh v.pc op) v).v with pc := (dn op x (beh v.pc op) v).on } else v)
def fail (f : Int) (v : VS) : VS := { v with st := 3, fa := f }
def step (v : VS) : Bool × VS := if v.st = 1 then (if (look v).f = 0 then (if (doo (look v).op (look v).x v).1 = 0 then ((look v).op == 10, (doo (look v).op (look v).x v).2) else (false, fail (doo (look v).op (look v).x v).1 v)) else (false, fail (look v).f v)) else (false, v)
def cyc (n : Int) (v : VS) : VS := { v with m := { v.m with cyc := n } }
/-- What a frame's work leaves. -/
structure WK where
  v : VS
  steps : Int
  spent : Int
def wk : Nat → Int → VS → Int → Int → WK
  | 0, B, v, n, s => ⟨v, n, s⟩
  | k + 1, B, v, n, s =>
    if v.st = 1 ∧ s < B then
      (if (look v).f = 0 then
        (if B - s < P.rc (look v).op then ⟨v, n, s⟩
         else if (doo (look v).op (look v).x (cyc s v)).1 = 0 then
          (if (look v).op = 10 then ⟨(doo (look v).op (look v).x (cyc s v)).2, n + 1, s + P.rc (look v).op⟩ else wk k B (doo (look v).op (look v).x (cyc s v)).2 (n + 1) (s + P.rc (look v).op))
         else ⟨fail (doo (look v).op (look v).x (cyc s v)).1 (cyc s v), n, s⟩)
      else ⟨fail (look v).f v, n, s⟩)
    else ⟨v, n, s⟩
/-- A frame's work. -/
def frame (v : VS) (pad : Int) (B : Int) : WK := wk B.toNat B { v with m := M.bg v.m pad } 0 0
/-! ### What stays -/
structure Vf (v : VS) : Prop where
  pc0 : 0 ≤ v.pc
  pc1 : v.pc < 65536
  d : ∀ x ∈ v.D, C.C x
  r : ∀ q ∈ v.R, C.C q.2
theorem by8_r (c : List UInt8) (a : Int) : 0 ≤ by8 c a ∧ by8 c a < 256 := by
  unfold by8
  generalize (c[a.toNat]?).getD 0 = b
  have := b.toNat_lt
  constructor <;> omega
theorem cel_r {c : List UInt8} {a w : Int} (h : cel c a = some w) : C.C w := by
  unfold cel at h
  have h1 := by8_r c a
  have h2 := by8_r c (a + 1)
  split at h
  · cases h; unfold C.C; omega
  · cases h
end Go.Proofs.YteldjmecomngeaaGreat.V
/-! Cartridges as values: what may be. -/
namespace Go.Proofs.YteldjmecomngeaaGreat.T
open Go.RowKit
open Go.Proofs
open Go.Proofs.YteldjmecomngeaaGreat.M
set_option linter.unusedVariables false
set_option linter.unusedSimpArgs false
abbrev Ef := Nat × Int × Int
abbrev Bk := Int × List UInt8
structure Ct where
  code : List UInt8
  entry : Nat
  effs : List Ef
  banks : List Bk
theorem Ct.ext' {a b : Ct} (h1 : a.code = b.code) (h2 : a.entry = b.entry) (h3 : a.effs = b.effs) (h4 : a.banks = b.banks) : a = b := by
  cases a; cases b; simp at h1 h2 h3 h4; subst h1 h2 h3 h4; rfl
def ct0 : Ct := ⟨[], 0, [], []⟩

def hgt (x : Int) : Bool := decide (0 ≤ x ∧ x ≤ 256)
def effG : Int → List Ef → Bool
  | _, [] => true
  | p, x :: l => (decide (p < (x.1 : Int)) && hgt x.2.1 && hgt x.2.2) && effG x.1 l
def codeB (l : List UInt8) : Bool := decide (l.length % 2 = 0 ∧ l.length ≤ 16384)
def effsB (l : List Ef) : Bool := decide (l.length ≤ 8192) && effG (-1) l
def datOk (l : List UInt8) : Bool := decide (l.length ≤ 16384)
def bankG : Int → List Bk → Bool
  | _, [] => true
  | p, x :: l => (decide (p < x.1 ∧ x.1 < 16) && datOk x.2) && bankG x.1 l
/-- 7.1. -/
def may (c : Ct) : Bool := codeB c.code && effsB c.effs && bankG (-1) c.banks
structure Fit (c : Ct) : Prop where
  entry : c.entry < 65536
  effs : ∀ x ∈ c.effs, x.1 < 65536

theorem hid {p : Prop} (h : p) : Hid p := h
def EfS (W : World) (p : Option Addr) (es : List Ef) : Prop := ∀ (i : Nat) (t : Ef), es[i]? = some t → ∃ b o, p = some ⟨b, o, none⟩ ∧ W.cell? ⟨b, o + i * 3, none⟩ = some (.int .u16 (t.1 : Int)) ∧ W.cell? ⟨b, o + i * 3 + 1, none⟩ = some (.int .i64 t.2.1) ∧ W.cell? ⟨b, o + i * 3 + 2, none⟩ = some (.int .i64 t.2.2)
theorem EfS.kept {W W' : World} {p : Option Addr} {es : List Ef} (h : EfS W p es) (k : ∀ a u, W.cell? a = some u → W'.cell? a = some u) : EfS W' p es := by
  intro i t ht
  obtain ⟨b, o, e1, e2, e3, e4⟩ := h i t ht
  exact ⟨b, o, e1, k _ _ e2, k _ _ e3, k _ _ e4⟩
theorem below_cell {W W' : World} (b : Below W.heap.size W W') : ∀ a u, W.cell? a = some u → W'.cell? a = some u := fun a u e => by rw [b.cell (World.block_lt_of_cell? W a e)]; exact e
theorem EfS.below {W W' : World} {p : Option Addr} {es : List Ef} (h : EfS W p es) (b : Below W.heap.size W W') : EfS W' p es := h.kept (below_cell b)
/-- A cartridge's value. -/
def cv (kv : Value) (entry : Int) (ep : Option Addr) (en ec : Nat) (bp : Option Addr) (bn bc : Nat) : Value := .agg #[kv, .int .u16 entry, .slice ep en ec, .slice bp bn bc]
/-- A value that reads as this cartridge. -/
structure IsC (W : World) (v : Value) (c : Ct) (ep : Option Addr) (ec : Nat) (bp : Option Addr) (bc : Nat) (kv : Value) : Prop where
  val : v = cv kv c.entry ep c.effs.length ec bp c.banks.length bc
  code : Sl W kv c.code
  clen : c.code.length ≤ room
  effs : EfS W ep c.effs
  elen : c.effs.length * 24 ≤ room
  banks : BnS W bp c.banks
  blen : c.banks.length * 32 ≤ room
  fit : Fit c
  ints : ∀ x ∈ c.effs, (Lit.int .i64 x.2.1).wf = true ∧ (Lit.int .i64 x.2.2).wf = true
  nums : ∀ x ∈ c.banks, (Lit.int .i64 x.1).wf = true
theorem IsC.kept {W W' : World} {v : Value} {c : Ct} {ep : Option Addr} {ec : Nat} {bp : Option Addr} {bc : Nat} {kv : Value} (h : IsC W v c ep ec bp bc kv) (k : ∀ a u, W.cell? a = some u → W'.cell? a = some u) : IsC W' v c ep ec bp bc kv :=
  ⟨h.val, h.code.kept fun a u e _ => k a u e, h.clen, h.effs.kept k, h.elen, h.banks.kept k, h.blen, h.fit, h.ints, h.nums⟩
theorem IsC.below {W W' : World} {v : Value} {c : Ct} {ep : Option Addr} {ec : Nat} {bp : Option Addr} {bc : Nat} {kv : Value} (h : IsC W v c ep ec bp bc kv) (b : Below W.heap.size W W') : IsC W' v c ep ec bp bc kv := h.kept (below_cell b)
end Go.Proofs.YteldjmecomngeaaGreat.T
/-! bytes.Clone, slices.Clone, Tones, Screen; awake. -/
namespace Go.Proofs.YteldjmecomngeaaGreat.M
open Go.RowKit
open Go.Proofs
set_option linter.unusedVariables false
set_option linter.unusedSimpArgs false
theorem Grew.belowAll {W W' : World} {v v' : Value} (h : Grew W W' v v') {N : Nat} (hB : ∀ g, v.ownBlock = some g → N ≤ g) {W0 : World} (h0 : Below N W0 W) (hN : N ≤ W0.heap.size) : Below N W0 W' :=
  h0.trans (h.below hB (Nat.le_trans hN h0.size))
theorem HasM.below {W W' : World} {F : Nat → Prop} {b : Nat} {m : MS} (h : HasM W F b m) (k : Below W.heap.size W W') : HasM W' F b m := h.kept fun i hi _ => k.block i hi
theorem eql_nil (t e : TypeId) (ht : Tryz.prog.underlying t = some (.slice e)) (W : World) (p : Option Addr) (n c : Nat) : (binOp .eql t (.slice p n c) (.slice none 0 0)).run Tryz.prog W = .ok (.bool p.isNone) W := by
  have h : ∀ d : Nat, (Op.equalIn (d + 1) t (.slice p n c) (.slice none 0 0)).run Tryz.prog W = .ok p.isNone W := fun d => by
    cases p <;> simp [Op.equalIn, run_underlying ht]
  have h2 : (Op.equal t (.slice p n c) (.slice none 0 0)).run Tryz.prog W = .ok p.isNone W := h 9999
  simp [binOp, h2]
set_option maxHeartbeats 1000000
set_option maxRecDepth 100000
theorem clone_any (v : Value) (l : List UInt8) (hl : l.length ≤ room) (w : World) (h : Sl w v l) :
    Calls Tryz.prog 41 #[v] w fun e w' => ∃ u, e = .returned u ∧ Row w' w.heap.size u l ∧ Below w.heap.size w w' := by
  have h0 := h
  rcases h with ⟨rfl, rfl⟩ | ⟨x, c, rfl, _, hc⟩
  · have hn := fun (W : World) => eql_nil 22 5 Tryz.underlying22 W none 0 0
    go_enter Tryz.func41, Tryz.ntmps41
    go_wp2
    go_ret
    exact ⟨_, rfl, row_nil _ _, Below.refl _ _⟩
  · have hr0 : Row (w.alloc (.cells #[] 5)) w.heap.size (.slice (some ⟨w.heap.size, 0, none⟩) 0 0) [] := row_of_alloc w w.heap.size (Nat.le_refl _) [] (by simp)
    have hb0 : Below w.heap.size w (w.alloc (.cells #[] 5)) := (Below.refl _ _).alloc (Nat.le_refl _) _
    have hs0 := h0.below hb0
    have hn := fun (W : World) => eql_nil 22 5 Tryz.underlying22 W (some x) l.length c
    go_enter Tryz.func41, Tryz.ntmps41
    go_wp2_with (first | (at_builtin; refine wpList_append_bytes _ rfl _ _ rfl w.heap.size _ [] rfl hr0 _ l rfl hs0 (by simpa using hl) hb0.size ?_))
    intro v' w' hr hg
    go_wp2
    go_ret
    exact ⟨_, rfl, hr, hg.belowAll (fun g e => (hr0.lt g e).1) hb0 (Nat.le_refl _)⟩
/-- A list of tones in new memory. -/
def TRow (W : World) (B : Nat) (v : Value) (l : List (Int × Int × Int)) : Prop := W.ownsRow B 66 3 v l.length (tc l)
theorem TRow.cs {W : World} {B : Nat} {v : Value} {l : List (Int × Int × Int)} (h : TRow W B v l) : Cs W v 3 l.length (tc l) := by
  have h' := h
  rcases h.2 with ⟨rfl, e⟩ | ⟨g, cap, cur, rfl, _⟩
  · exact .inl ⟨rfl, e, by rw [List.eq_nil_of_length_eq_zero e]; rfl⟩
  · refine .inr ⟨_, cap, rfl, tc_len l, World.ownsRow.cells h' rfl, tc_one l⟩
theorem Cs.below {W W' : World} {u : Value} {s n : Nat} {xs : List Value} (h : Cs W u s n xs) (b : Below W.heap.size W W') : Cs W' u s n xs := by
  rcases h with h | ⟨ad, c, e1, e2, e3, e4⟩
  · exact .inl h
  · exact .inr ⟨ad, c, e1, e2, fun j v hj => by have e := e3 j v hj; rw [b.cell (World.block_lt_of_cell? W _ e)]; exact e, e4⟩
theorem cloneT_any (v : Value) (l : List (Int × Int × Int)) (hl : l.length ≤ 1000000) (w : World) (h : TRow w 0 v l) :
    Calls Tryz.prog 53 #[v] w fun e w' => ∃ u, e = .returned u ∧ TRow w' w.heap.size u l ∧ Below w.heap.size w w' := by
  have h0 := h
  rcases h.2 with ⟨rfl, e⟩ | ⟨g, cap, cur, rfl, _⟩
  · have hn := fun (W : World) => eql_nil 37 66 Tryz.underlying37 W none 0 0
    obtain rfl := List.eq_nil_of_length_eq_zero e
    go_enter Tryz.func53, Tryz.ntmps53
    go_wp2
    go_ret
    exact ⟨_, rfl, World.ownsRow_nil _ _ _ _, Below.refl _ _⟩
  · have hr0 : (w.alloc (.cells #[] 66)).ownsRow w.heap.size 66 3 (.slice (some ⟨w.heap.size, 0, none⟩) 0 0) 0 [] :=
      ⟨rfl, .inr ⟨w.heap.size, 0, #[], rfl, Nat.le_refl _, heap_alloc_new w _, Nat.le_refl _, by decide, by simp, by simp⟩⟩
    have hb0 : Below w.heap.size w (w.alloc (.cells #[] 66)) := (Below.refl _ _).alloc (Nat.le_refl _) _
    have hs0 := h0.cs.below hb0
    have hn := fun (W : World) => eql_nil 37 66 Tryz.underlying37 W (some ⟨g, 0, none⟩) l.length cap
    go_enter Tryz.func53, Tryz.ntmps53
    go_wp2_with (first | (at_builtin; refine wpList_append_row _ rfl _ _ 37 66 _ 3 16 Tryz.underlying37 info90 rfl (by decide) rfl w.heap.size _ 0 [] rfl hr0 _ l.length (tc l) rfl hs0 (by unfold room; omega) (by unfold maxLen; omega) hb0.size ?_))
    intro v' w' hr hg
    go_wp2
    go_ret
    refine ⟨_, rfl, ?_, hg.belowAll (fun g e => (hr0.lt g e).1) hb0 (Nat.le_refl _)⟩
    simpa [TRow] using hr
theorem tones_any (b : Nat) (w : World) {F : Nat → Prop} {m : MS} (hm : HasM w F b m) (ht : m.tones.length ≤ 1000000) :
    Calls Tryz.prog 24 #[.pointer (some ⟨b, 0, none⟩)] w fun e w' => ∃ u, e = .returned u ∧ TRow w' w.heap.size u m.tones ∧ Below w.heap.size w w' := by
  obtain ⟨mb, L, tv, hm⟩ := hm
  have c6 := cell_of w b (19457 + 6) _ 146 _ hm.blk ((mcells_reg mb m tv hm.wf 6).trans rfl)
  simp only [Nat.reduceAdd] at c6
  have hc := cloneT_any tv m.tones ht w hm.tones
  go_enter Tryz.func24, Tryz.ntmps24
  go_wp2_with fail
  refine hc.mono ?_
  rintro e w1 ⟨u, rfl, h1, h2⟩
  go_wp2
  go_ret
  exact ⟨_, rfl, h1, h2⟩
theorem tones_nil (w : World) : Calls Tryz.prog 24 #[.pointer none] w fun e w' => e = .returned (.slice none 0 0) ∧ w' = w := by
  go_enter Tryz.func24, Tryz.ntmps24
  go_wp2
  go_ret
  exact ⟨rfl, rfl⟩
theorem screen_nil (w : World) : Calls Tryz.prog 23 #[.pointer none] w fun e w' => e = .returned (.slice none 0 0) ∧ w' = w := by
  go_enter Tryz.func23, Tryz.ntmps23
  go_wp2
  go_ret
  exact ⟨rfl, rfl⟩
theorem screen_any (b : Nat) (w : World) {F : Nat → Prop} {m : MS} (hm : HasM w F b m) :
    Calls Tryz.prog 23 #[.pointer (some ⟨b, 0, none⟩)] w fun e w' => ∃ u, e = .returned u ∧ Row w' w.heap.size u m.scr ∧ Below w.heap.size w w' := by
  obtain ⟨mb, L, tv, hm⟩ := hm
  have hs : Sl w (.slice (some ⟨b, 16385, none⟩) 3072 3072) m.scr := by
    refine .inr ⟨⟨b, 16385, none⟩, 3072, by rw [hm.wf.scr], by rw [hm.wf.scr]; omega, fun j x hj => ?_⟩
    have e : (⟨b, 16385, none⟩ : Addr).add j = ⟨b, 16385 + j, none⟩ := Addr.add_lit _ _ _
    rw [e]; exact cell_of w b _ _ 146 _ hm.blk (mcells_scr mb m tv hm.wf j x hj)
  have hc := clone_any _ m.scr (by rw [hm.wf.scr]; unfold room; omega) w hs
  go_enter Tryz.func23, Tryz.ntmps23
  go_wp2_with fail
  refine hc.mono ?_
  rintro e w1 ⟨u, rfl, h1, h2⟩
  go_wp2
  go_ret
  exact ⟨_, rfl, h1, h2⟩
end Go.Proofs.YteldjmecomngeaaGreat.M
/-! A machine in the world. -/
namespace Go.Proofs.YteldjmecomngeaaGreat.V
open Go.RowKit
open Go.Proofs
set_option linter.unusedVariables false
set_option linter.unusedSimpArgs false
set_option maxHeartbeats 1000000
set_option maxRecDepth 100000
def vcells (v : VS) (bd br bm : Nat) (kv : Value) : List Value := [.int .u16 v.pc, .int .i64 v.st, .int .i64 v.fa, .pointer (some ⟨bd, 0, none⟩), .pointer (some ⟨br, 0, none⟩), kv, .pointer (some ⟨bm, 0, none⟩)]
/-- A machine at the block g, its stacks, its memory in the blocks F, its code (which others may read). -/
structure MV (W : World) (g bd br bm : Nat) (kv : Value) (F : Nat → Prop) (v : VS) : Prop where
  blk : W.heap[g]? = some (.cells (vcells v bd br bm kv).toArray 128 (0, 0))
  ps : P.PS W bd br bm F v.D v.R v.m
  code : M.Sl W kv v.code
  clen : v.code.length ≤ 16384
  ck : ∀ k, kv.ownBlock = some k → k < W.heap.size
  cb : ∀ k, kv.ownBlock = some k → k ≠ g ∧ k ≠ bd ∧ k ≠ br ∧ ¬ F k
  fb : ∀ k, F k → k < W.heap.size
  vd : g ≠ bd
  vr : g ≠ br
  fv : ¬ F g
  wf : Vf v
def TV (g bd br : Nat) (F : Nat → Prop) (k : Nat) : Prop := k = g ∨ k = bd ∨ k = br ∨ F k
/-- What a call leaves of it. -/
structure VD (W W' : World) (g bd br bm : Nat) (kv : Value) (F : Nat → Prop) (v : VS) : Prop where
  s : MV W' g bd br bm kv (M.gr F W W') v
  t : S.Tc (TV g bd br F) W W'
section
variable {W W1 W' : World} {g bd br bm : Nat} {kv : Value} {F : Nat → Prop} {v v' : VS}
theorem MV.c0 (h : MV W g bd br bm kv F v) : W.cell? ⟨g, 0, none⟩ = some (.int .u16 v.pc) := S.cell_of W g 0 _ _ _ h.blk rfl
theorem MV.c1 (h : MV W g bd br bm kv F v) : W.cell? ⟨g, 1, none⟩ = some (.int .i64 v.st) := S.cell_of W g 1 _ _ _ h.blk rfl
theorem MV.c2 (h : MV W g bd br bm kv F v) : W.cell? ⟨g, 2, none⟩ = some (.int .i64 v.fa) := S.cell_of W g 2 _ _ _ h.blk rfl
theorem MV.c3 (h : MV W g bd br bm kv F v) : W.cell? ⟨g, 3, none⟩ = some (.pointer (some ⟨bd, 0, none⟩)) := S.cell_of W g 3 _ _ _ h.blk rfl
theorem MV.c4 (h : MV W g bd br bm kv F v) : W.cell? ⟨g, 4, none⟩ = some (.pointer (some ⟨br, 0, none⟩)) := S.cell_of W g 4 _ _ _ h.blk rfl
theorem MV.c5 (h : MV W g bd br bm kv F v) : W.cell? ⟨g, 5, none⟩ = some kv := S.cell_of W g 5 _ _ _ h.blk rfl
theorem MV.c6 (h : MV W g bd br bm kv F v) : W.cell? ⟨g, 6, none⟩ = some (.pointer (some ⟨bm, 0, none⟩)) := S.cell_of W g 6 _ _ _ h.blk rfl
theorem MV.lt (h : MV W g bd br bm kv F v) : g < W.heap.size := S.lt_of h.blk
theorem MV.lt_d (h : MV W g bd br bm kv F v) : bd < W.heap.size := S.lt_of h.ps.d.1
theorem MV.lt_r (h : MV W g bd br bm kv F v) : br < W.heap.size := S.lt_of h.ps.r.1
theorem sl_kept {l : List UInt8} (h : M.Sl W kv l) (k : ∀ i, kv.ownBlock = some i → i < W.heap.size → W'.heap[i]? = W.heap[i]?) : M.Sl W' kv l :=
  h.kept fun a u e o => by
    rw [World.cell?_of_block (w := W) (w' := W') (a := a) (k a.block o.symm (World.block_lt_of_cell? W a e))]; exact e
theorem MV.below (h : MV W g bd br bm kv F v) (k : Below W.heap.size W W') : MV W' g bd br bm kv F v :=
  { h with blk := (k.block _ h.lt).trans h.blk, ps := h.ps.below k, code := h.code.below k, ck := fun i e => Nat.lt_of_lt_of_le (h.ck i e) k.size, fb := fun i e => Nat.lt_of_lt_of_le (h.fb i e) k.size }
theorem MV.drew (h : MV W g bd br bm kv F v) (q : Nat) : MV (W.drewN q) g bd br bm kv F v :=
  h.below ⟨rfl, rfl, rfl, Nat.le_refl _, fun _ _ => rfl⟩
theorem MV.gr (h : MV W g bd br bm kv F v) (w w' : World) (h0 : w'.heap.size ≤ W.heap.size) (h1 : g < w.heap.size) (h2 : bd < w.heap.size) (h3 : br < w.heap.size) (h4 : ∀ k, kv.ownBlock = some k → k < w.heap.size) : MV W g bd br bm kv (M.gr F w w') v :=
  { h with
    ps := h.ps.gr w w' h2 h3
    cb := fun k e => ⟨(h.cb k e).1, (h.cb k e).2.1, (h.cb k e).2.2.1, by rintro (f | ⟨f, _⟩); exact (h.cb k e).2.2.2 f; have := h4 k e; omega⟩
    fb := by rintro k (f | ⟨_, f⟩); exact h.fb k f; omega
    fv := by rintro (f | ⟨f, _⟩); exact h.fv f; omega }
/-- The stacks and the memory have gone on. -/
theorem MV.goes (h : MV W g bd br bm kv F v) {D : List Int} {R : List (Int × Int)} {m : M.MS} (k : P.PD W W' bd br bm F D R m) (hd : ∀ x ∈ D, C.C x) (hr : ∀ q ∈ R, C.C q.2) : VD W W' g bd br bm kv F { v with D := D, R := R, m := m } :=
  ⟨⟨(k.t.block _ h.lt (by rintro (e | e | e); exact h.vd e; exact h.vr e; exact h.fv e)).trans h.blk, k.s,
    sl_kept h.code fun i e hi => k.t.block i hi (by rintro (f | f | f); exact (h.cb i e).2.1 f; exact (h.cb i e).2.2.1 f; exact (h.cb i e).2.2.2 f),
    h.clen, fun i e => Nat.lt_of_lt_of_le (h.ck i e) k.t.size, fun i e => ⟨(h.cb i e).1, (h.cb i e).2.1, (h.cb i e).2.2.1, by rintro (f | ⟨f, _⟩); exact (h.cb i e).2.2.2 f; have := h.ck i e; omega⟩,
    (by rintro i (f | ⟨_, f⟩); exact Nat.lt_of_lt_of_le (h.fb i f) k.t.size; exact f), h.vd, h.vr, (by rintro (f | ⟨f, _⟩); exact h.fv f; have := h.lt; omega), ⟨h.wf.pc0, h.wf.pc1, hd, hr⟩⟩,
   ⟨k.t.os, k.t.tape, k.t.output, k.t.size, fun i hi n => k.t.block i hi (by rintro (e | e | e); exact n (.inr (.inl e)); exact n (.inr (.inr (.inl e))); exact n (.inr (.inr (.inr e))))⟩⟩
/-- Nothing of it is touched. -/
theorem MV.same (h : MV W g bd br bm kv F v) (k : Below W.heap.size W W') : VD W W' g bd br bm kv F v :=
  ⟨(h.below k).gr W W' (Nat.le_refl _) h.lt h.lt_d h.lt_r h.ck, ⟨k.os, k.tape, k.output, k.size, fun i hi _ => k.block i hi⟩⟩
theorem gr_gr {w w1 w2 : World} (h1 : w.heap.size ≤ w1.heap.size) (h2 : w1.heap.size ≤ w2.heap.size) (k : Nat) (h : M.gr (M.gr F w w1) w1 w2 k) : M.gr F w w2 k := by
  rcases h with (h | ⟨h, h'⟩) | ⟨h, h'⟩
  · exact .inl h
  · exact .inr ⟨h, by omega⟩
  · exact .inr ⟨by omega, h'⟩
theorem MV.mono (h : MV W g bd br bm kv F v) {G : Nat → Prop} (k : ∀ i, F i → G i) (k0 : ∀ i, G i → i < W.heap.size) (k1 : ¬ G g) (k2 : ¬ G bd) (k3 : ¬ G br) (k4 : ∀ i, kv.ownBlock = some i → ¬ G i) : MV W g bd br bm kv G v :=
  { h with
    ps := h.ps.mono fun i _ => ⟨k i, by rintro (rfl | rfl); exact k2; exact k3⟩
    cb := fun i e => ⟨(h.cb i e).1, (h.cb i e).2.1, (h.cb i e).2.2.1, k4 i e⟩
    fb := k0
    fv := k1 }
theorem VD.trans {v1 v2 : VS} (h0 : MV W g bd br bm kv F v) (h : VD W W1 g bd br bm kv F v1) (k : VD W1 W' g bd br bm kv (M.gr F W W1) v2) : VD W W' g bd br bm kv F v2 := by
  have hs := h.t.size
  have ks := k.t.size
  have n1 : ∀ i, i < W.heap.size → ¬ F i → ¬ M.gr F W W' i := by rintro i hi hf (e | ⟨e, _⟩); exact hf e; omega
  refine ⟨k.s.mono (gr_gr hs ks) (by rintro i (e | ⟨_, e⟩); exact Nat.lt_of_lt_of_le (h0.fb i e) (Nat.le_trans hs ks); exact e) (n1 _ h0.lt h0.fv) (n1 _ h0.lt_d h0.ps.fd) (n1 _ h0.lt_r h0.ps.fr) (fun i e => n1 i (h0.ck i e) (h0.cb i e).2.2.2), h.t.trans k.t (fun i e => e) ?_⟩
  rintro i hi (e | e | e | e | ⟨e, _⟩)
  · exact .inl e
  · exact .inr (.inl e)
  · exact .inr (.inr (.inl e))
  · exact .inr (.inr (.inr e))
  · omega
/-- New blocks ahead of a call. -/
theorem VD.pre (h : MV W g bd br bm kv F v) (hB : Below W.heap.size W W1) (k : VD W1 W' g bd br bm kv F v') : VD W W' g bd br bm kv F v' := by
  have c := hB.size
  have c' := k.t.size
  have n1 : ∀ i, i < W.heap.size → ¬ F i → ¬ M.gr F W W' i := by rintro i hi hf (e | ⟨e, _⟩); exact hf e; omega
  refine ⟨k.s.mono (fun i hi => ?_) ?_ (n1 _ h.lt h.fv) (n1 _ h.lt_d h.ps.fd) (n1 _ h.lt_r h.ps.fr) (fun i e => n1 i (h.ck i e) (h.cb i e).2.2.2), ⟨k.t.os.trans hB.os, k.t.tape.trans hB.tape, k.t.output.trans hB.output, Nat.le_trans c c', fun i hi n => (k.t.block i (Nat.lt_of_lt_of_le hi c) n).trans (hB.block i hi)⟩⟩
  · rcases hi with hi | ⟨hi, hi'⟩
    · exact .inl hi
    · exact .inr ⟨by omega, hi'⟩
  · rintro i (e | ⟨_, e⟩)
    · exact Nat.lt_of_lt_of_le (h.fb i e) (Nat.le_trans c c')
    · exact e
/-- A block outside of it stays as it was. -/
theorem VD.other (h : VD W W' g bd br bm kv F v') (k : MV W1 g bd br bm kv F v) (hs : W1.heap.size ≤ W.heap.size) (i : Nat) (h1 : W1.heap.size ≤ i) (h2 : i < W.heap.size) : W'.heap[i]? = W.heap[i]? :=
  h.t.block i h2 (by
    rintro (e | e | e | e)
    · have := k.lt; omega
    · have := k.lt_d; omega
    · have := k.lt_r; omega
    · have := k.fb i e; omega)
/-- A field of it is set. -/
theorem MV.set (h : MV W g bd br bm kv F v) (i : Nat) (x : Value) (hc : (vcells v bd br bm kv).set i x = vcells v' bd br bm kv) (hD : v'.D = v.D) (hR : v'.R = v.R) (hm : v'.m = v.m) (hk : v'.code = v.code) (hw : Vf v') : MV (W.setCell ⟨g, i, none⟩ x) g bd br bm kv F v' := by
  have o : ∀ k, k ≠ g → (W.setCell ⟨g, i, none⟩ x).heap[k]? = W.heap[k]? := fun k hk => S.setCell_other W g i k x hk
  refine ⟨by rw [S.setCell_heap W g i _ _ x h.blk, hc], ?_, by rw [hk]; exact sl_kept h.code fun k e _ => o k (h.cb k e).1, by rw [hk]; exact h.clen, fun k e => by rw [S.setCell_size]; exact h.ck k e, h.cb, fun k e => by rw [S.setCell_size]; exact h.fb k e, h.vd, h.vr, h.fv, hw⟩
  rw [hD, hR, hm]
  exact ⟨h.ps.d.kept (o _ (Ne.symm h.vd)), h.ps.r.kept (o _ (Ne.symm h.vr)), h.ps.m.kept fun k _ f => o k (by rintro rfl; exact h.fv f), h.ps.dr, h.ps.fd, h.ps.fr⟩
theorem VD.set (h0 : MV W g bd br bm kv F v) (h : VD W W1 g bd br bm kv F v) (i : Nat) (x : Value) (k : MV (W1.setCell ⟨g, i, none⟩ x) g bd br bm kv (M.gr F W W1) v') : VD W (W1.setCell ⟨g, i, none⟩ x) g bd br bm kv F v' := by
  refine ⟨?_, h.t.setCell g i (.inl rfl) x⟩
  have e : M.gr F W (W1.setCell ⟨g, i, none⟩ x) = M.gr F W W1 := by unfold M.gr; rw [S.setCell_size]
  rw [e]; exact k
end
end Go.Proofs.YteldjmecomngeaaGreat.V
/-! Look. -/
namespace Go.Proofs.YteldjmecomngeaaGreat.V
open Go.RowKit
open Go.Proofs
set_option linter.unusedVariables false
set_option linter.unusedSimpArgs false
set_option maxHeartbeats 1000000
set_option maxRecDepth 100000
theorem dnB {B : Nat} {W W' : World} (h : Below B W W') (q : Nat) : Below B W (W'.drewN q) := ⟨h.os, h.tape, h.output, h.size, h.block⟩
theorem by8_get (c : List UInt8) (n : Nat) (h : n < c.length) : ∃ b, c[n]? = some b ∧ by8 c (n : Int) = (b.toNat : Int) := by
  refine ⟨c[n], List.getElem?_eq_getElem h, ?_⟩
  unfold by8; rw [Int.toNat_natCast, List.getElem?_eq_getElem h]; rfl
theorem cell_any (g bd br bm : Nat) (kv : Value) (F : Nat → Prop) (v : VS) (a : Int) (ha : C.C a) (W : World) (h : MV W g bd br bm kv F v) :
    Calls Tryz.prog 46 #[.pointer (some ⟨g, 0, none⟩), .int .u16 a] W fun e W' => e = .returned (.tuple #[.int .u16 ((cel v.code a).getD 0), .bool (cel v.code a).isSome]) ∧ ∃ q, W' = W.drewN q := by
  obtain ⟨a0, a1⟩ := ha
  have hl := h.clen
  have hcd := h.code
  have c5 := h.c5
  have ht : a.tmod 2 = a % 2 := Int.tmod_eq_emod_of_nonneg a0
  have ew : IntKind.i64.wrap (a + 1) = a + 1 := S.i64_id _ (by omega) (by omega)
  have w1 : wrap64 a = a := by simp [wrap64]; omega
  have w2 : wrap64 (a + 1) = a + 1 := by simp [wrap64]; omega
  have eu : IntKind.u16.wrap (a.tmod 2) = a.tmod 2 := by rw [M.u16_wrap, ht]; omega
  by_cases h1 : a % 2 = 0
  case neg =>
    have hN : cel v.code a = none := by unfold cel; rw [if_neg (by omega)]
    have e1 : (a.tmod 2 != 0) = true := by rw [ht]; simpa using h1
    rw [hN]
    clear ht ew h hcd c5 hN hl a0 a1 h1
    go_enter Tryz.func46, Tryz.ntmps46
    go_wp2
    go_ret2
    exact ⟨rfl, 0, rfl⟩
  have e1 : (a.tmod 2 != 0) = false := by rw [ht, h1]; rfl
  have e3 : (a % 2 != 0) = false := by rw [h1]; rfl
  clear ht
  obtain ⟨p, c, rfl, hb⟩ := hcd.ex
  by_cases h2 : a + 1 < (v.code.length : Int)
  case neg =>
    have hN : cel v.code a = none := by unfold cel; rw [if_neg (by omega)]
    have e2 : decide ((v.code.length : Int) ≤ a + 1) = true := decide_eq_true (by omega)
    rw [hN]
    clear h hcd hb hN hl h1 h2
    clear a0 a1
    generalize (v.code.length : Nat) = L at *
    go_enter Tryz.func46, Tryz.ntmps46
    go_wp2
    go_ret2
    exact ⟨rfl, 0, rfl⟩
  have e2 : decide ((v.code.length : Int) ≤ a + 1) = false := decide_eq_false (by omega)
  obtain ⟨b0, g0, k0⟩ := by8_get v.code a.toNat (by omega)
  obtain ⟨b1, g1, k1⟩ := by8_get v.code (a + 1).toNat (by omega)
  have hN : cel v.code a = some ((b0.toNat : Int) + 256 * (b1.toNat : Int)) := by
    unfold cel; rw [if_pos ⟨h1, h2⟩]; rw [show ((a.toNat : Nat) : Int) = a by omega] at k0; rw [show (((a + 1).toNat : Nat) : Int) = a + 1 by omega] at k1; rw [k0, k1]
  obtain ⟨x, rfl, f0⟩ := hb.at a.toNat b0 g0
  obtain ⟨x', ex, f1⟩ := hb.at (a + 1).toNat b1 g1
  cases ex
  have d0 := fun q => (show (W.drewN q).cell? (x.add a.toNat) = some (.int .u8 (b0.toNat : Int)) from f0)
  have d1 := fun q => (show (W.drewN q).cell? (x.add (a + 1).toNat) = some (.int .u8 (b1.toNat : Int)) from f1)
  have d5 := fun q => (show (W.drewN q).cell? ⟨g, 5, none⟩ = some (.slice (some x) v.code.length c) from c5)
  have u1 : IntKind.u16.wrap (a + 1) = a + 1 := by rw [M.u16_wrap]; omega
  have i0 : a < (v.code.length : Int) := by omega
  have i2 : 0 ≤ a + 1 := by omega
  have j0 : a.toNat < v.code.length := by omega
  have j1 : (a + 1).toNat < v.code.length := by omega
  have t0 := b0.toNat_lt
  have t1 := b1.toNat_lt
  have u2 : IntKind.u16.wrap (b0.toNat : Int) = (b0.toNat : Int) := by rw [M.u16_wrap]; omega
  have u3 : IntKind.u16.wrap (b1.toNat : Int) = (b1.toNat : Int) := by rw [M.u16_wrap]; omega
  have u4 : IntKind.u16.wrap ((b1.toNat : Int) * 256) = 256 * (b1.toNat : Int) := by rw [M.u16_wrap]; omega
  have u5 : IntKind.u16.wrap ((b0.toNat : Int) + 256 * (b1.toNat : Int)) = (b0.toNat : Int) + 256 * (b1.toNat : Int) := by rw [M.u16_wrap]; omega
  rw [hN]
  clear h hcd hb hN g0 g1 k0 k1 hl h1 a1
  clear t0 t1
  generalize (b0.toNat : Int) = y0 at *
  generalize (b1.toNat : Int) = y1 at *
  generalize (v.code.length : Nat) = L at *
  go_enter Tryz.func46, Tryz.ntmps46
  go_wp2
  go_quiet (fail)
  go_wp2
  go_ret2
  exact ⟨rfl, _, rfl⟩
theorem u16_2 (a : Int) : IntKind.u16.wrap (a + 2) = (a + 2) % 65536 := M.u16_wrap _
theorem rng (a : Int) : C.C (a % 65536) := ⟨by omega, by omega⟩
theorem operand_any (g bd br bm : Nat) (kv : Value) (F : Nat → Prop) (v : VS) (op : Nat) (h1 : 1 ≤ op) (h2 : op < 64) (a : Int) (W : World) (h : MV W g bd br bm kv F v) :
    Calls Tryz.prog 48 #[.pointer (some ⟨g, 0, none⟩), P.rowN op, .int .u16 a] W fun e W' => e = .returned (.tuple #[.int .u16 ((opd v.code v.pc a op).getD 0), .bool (opd v.code v.pc a op).isSome]) ∧ Below W.heap.size W W' := by
  obtain ⟨W1, hW1⟩ : ∃ W1, W1 = W.alloc (.cells #[.int .i64 (op : Int), .string (P.nm op), .int .i64 (P.ri op), .int .i64 (P.ro op), .int .i64 (P.rc op), .bool (P.rb op)] 49) := ⟨_, rfl⟩
  have hB : Below W.heap.size W W1 := by rw [hW1]; exact P.bel_alloc W _
  have hz := heap_alloc_new W (.cells #[.int .i64 (op : Int), .string (P.nm op), .int .i64 (P.ri op), .int .i64 (P.ro op), .int .i64 (P.rc op), .bool (P.rb op)] 49)
  rw [← hW1] at hz
  have z0 : W1.cell? ⟨W.heap.size, 0, none⟩ = some (.int .i64 (op : Int)) := S.cell_of W1 _ 0 [.int .i64 (op : Int), .string (P.nm op), .int .i64 (P.ri op), .int .i64 (P.ro op), .int .i64 (P.rc op), .bool (P.rb op)] _ _ hz rfl
  have z5 : W1.cell? ⟨W.heap.size, 5, none⟩ = some (.bool (P.rb op)) := S.cell_of W1 _ 5 [.int .i64 (op : Int), .string (P.nm op), .int .i64 (P.ri op), .int .i64 (P.ro op), .int .i64 (P.rc op), .bool (P.rb op)] _ _ hz rfl
  have hM := h.below hB
  have c0 := hM.c0
  have k1 := cell_any g bd br bm kv F v ((v.pc + 2) % 65536) (rng _) W1 hM
  have k2 := cell_any g bd br bm kv F v ((a + 2) % 65536) (rng _) W1 hM
  have e1 := u16_2 v.pc
  have e2 := u16_2 a
  unfold P.rowN P.rowV
  unfold opd
  clear h hM hz
  by_cases q1 : P.rb op = true
  · rw [if_pos q1]
    rw [q1] at z5 hW1 ⊢
    subst hW1
    go_enter Tryz.func48, Tryz.ntmps48
    go_wp2_with fail
    refine k1.mono ?_
    rintro e w1 ⟨rfl, q, rfl⟩
    go_wp2
    go_ret2
    exact ⟨rfl, dnB hB q⟩
  · have q1' : P.rb op = false := by simpa using q1
    rw [if_neg q1]
    rw [q1'] at z5 hW1 ⊢
    by_cases q2 : op = 2
    · subst q2
      rw [if_pos rfl]
      subst hW1
      go_enter Tryz.func48, Tryz.ntmps48
      go_wp2_with fail
      refine k2.mono ?_
      rintro e w1 ⟨rfl, q, rfl⟩
      go_wp2
      go_ret2
      exact ⟨rfl, dnB hB q⟩
    · rw [if_neg q2]
      have f2 : ((op : Int) == 2) = false := by simp; omega
      by_cases q3 : op = 1
      · subst q3
        rw [if_pos rfl]
        subst hW1
        go_enter Tryz.func48, Tryz.ntmps48
        go_wp2
        go_ret2
        exact ⟨rfl, hB⟩
      · rw [if_neg q3]
        have f1 : ((op : Int) == 1) = false := by simp; omega
        subst hW1
        go_enter Tryz.func48, Tryz.ntmps48
        go_wp2
        go_ret2
        exact ⟨rfl, hB⟩
theorem results_cell_tmp2 {fn : Func} {p u t : Tmp} {ty : TypeId} (h : fn.results = #[.cell p ty, .tmp u, .tmp t]) (tmps : Array Value) (P : Program) (w : World) :
    (results fn tmps).run P w =
      ((asAddr (tmps.getD p undef)).run P w).andThen fun a w₁ => ((loadVar ty a).run P w₁).andThen fun v w₂ => .ok (.tuple #[v, tmps.getD u undef, tmps.getD t undef]) w₂ := by
  simp only [results, h]
  simp [Sem.run_bind, Result.andThen]
theorem look_fin {w w1 : World} (hz : w1.heap[w.heap.size]? = some (.cells P.zR 49 (0, 0))) (hb : Below w.heap.size w w1) {a : Act} {op : Int} {name : ByteArray} {i o c : Int} {b : Bool} {x3 x4 : Value}
    (hp : a.tmps.getD 2 undef = .pointer (some ⟨w.heap.size, 0, none⟩)) (h3 : a.tmps.getD 3 undef = x3) (h4 : a.tmps.getD 4 undef = x4) (hd : a.defers = []) :
    bodyPost Tryz.prog Tryz.f15 (fun e w' => e = .returned (.tuple #[P.rowV op name i o c b, x3, x4]) ∧ Below w.heap.size w w') .ret a (w1.setRow w.heap.size #[.int .i64 op, .string name, .int .i64 i, .int .i64 o, .int .i64 c, .bool b]) := by
  have hfin := setRow_heap w1 w.heap.size _ #[.int .i64 op, .string name, .int .i64 i, .int .i64 o, .int .i64 c, .bool b] _ _ hz
  have hbf := P.Below.setRow hb w.heap.size (Nat.le_refl _) #[.int .i64 op, .string name, .int .i64 i, .int .i64 o, .int .i64 c, .bool b]
  refine bodyPost_ret (v := .tuple #[P.rowV op name i o c b, x3, x4]) ?_ hd ⟨rfl, hbf⟩
  rw [results_cell_tmp2 rfl, hp, h3, h4]
  simp [asAddr, run_loadVar_row _ w.heap.size _ 49 _ _ _ hfin Tryz.underlying49 rfl P.sizeR, P.rowV]
theorem trB {B : Nat} {w w1 w2 : World} (h : Below B w w1) (k : Below w1.heap.size w1 w2) (hs : B ≤ w1.heap.size) : Below B w w2 :=
  h.trans ⟨k.os, k.tape, k.output, k.size, fun i hi => k.block i (Nat.lt_of_lt_of_le hi hs)⟩
/-- A row in a block of its own, and the result's block beside it. -/
theorem made2 (w w1 : World) (hz : w1.heap[w.heap.size]? = some (.cells P.zR 49 (0, 0))) (hb : Below w.heap.size w w1) (c : Array Value) :
    (w1.alloc (.cells #[.int .i64 0, .string { data := #[] }, .int .i64 0, .int .i64 0, .int .i64 0, .bool false] 49)).heap[w1.heap.size]? = some (.cells P.zR 49 (0, 0)) ∧
    Below w.heap.size w ((w1.alloc (.cells #[.int .i64 0, .string { data := #[] }, .int .i64 0, .int .i64 0, .int .i64 0, .bool false] 49)).setRow w1.heap.size c) ∧
    ((w1.alloc (.cells #[.int .i64 0, .string { data := #[] }, .int .i64 0, .int .i64 0, .int .i64 0, .bool false] 49)).setRow w1.heap.size c).heap[w.heap.size]? = some (.cells P.zR 49 (0, 0)) ∧
    ((w1.alloc (.cells #[.int .i64 0, .string { data := #[] }, .int .i64 0, .int .i64 0, .int .i64 0, .bool false] 49)).setRow w1.heap.size c).heap[w1.heap.size]? = some (.cells c 49 (0, 0)) ∧
    Below w1.heap.size w1 ((w1.alloc (.cells #[.int .i64 0, .string { data := #[] }, .int .i64 0, .int .i64 0, .int .i64 0, .bool false] 49)).setRow w1.heap.size c) := by
  have hlt := S.lt_of hz
  have a1 := heap_alloc_new w1 (.cells #[.int .i64 0, .string { data := #[] }, .int .i64 0, .int .i64 0, .int .i64 0, .bool false] 49)
  have a2 := P.bel_alloc w1 (.cells #[.int .i64 0, .string { data := #[] }, .int .i64 0, .int .i64 0, .int .i64 0, .bool false] 49)
  have a3 := P.Below.setRow a2 w1.heap.size (Nat.le_refl _) c
  exact ⟨a1, trB hb a3 (Nat.le_of_lt hlt), (a3.block _ hlt).trans hz, setRow_heap _ _ _ _ _ _ a1, a3⟩
theorem look_any (g bd br bm : Nat) (kv : Value) (F : Nat → Prop) (v : VS) (w : World) (h : MV w g bd br bm kv F v) :
    Calls Tryz.prog 15 #[.pointer (some ⟨g, 0, none⟩)] w fun e w' => e = .returned (.tuple #[prV (look v).op, .int .u16 (look v).x, .int .i64 (look v).f]) ∧ Below w.heap.size w w' := by
  have hz := heap_alloc_new w (.cells #[.int .i64 0, .string { data := #[] }, .int .i64 0, .int .i64 0, .int .i64 0, .bool false] 49)
  have hb := P.bel_alloc w (.cells #[.int .i64 0, .string { data := #[] }, .int .i64 0, .int .i64 0, .int .i64 0, .bool false] 49)
  have hM := h.below hb
  have hlt := h.lt
  have hwf := h.wf
  have c0 := hM.c0
  have c1 := hM.c1
  generalize hW : w.alloc (.cells #[.int .i64 0, .string { data := #[] }, .int .i64 0, .int .i64 0, .int .i64 0, .bool false] 49) = W at *
  have hs : w.heap.size ≤ W.heap.size := hb.size
  unfold look
  have zz : (P.zR : Array Value) = #[.int .i64 0, .string { data := #[] }, .int .i64 0, .int .i64 0, .int .i64 0, .bool false] := rfl
  by_cases q1 : v.st = 1
  case neg =>
    rw [if_neg q1]
    have e1 : (v.st != 1) = true := by simpa using q1
    clear h hM hwf
    go_enter Tryz.func15, Tryz.ntmps15
    go_wp2_with (refine wpList_store_row rfl 49 _ _ rfl w.heap.size _ rfl rfl 49 P.zR hz (by exact P.sizeR) (by rfl) (by simp [Value.oneCell']) ?_)
    exact look_fin hz hb rfl rfl rfl rfl
  rw [if_pos q1]
  have e1 : (v.st != 1) = false := by simpa using q1
  have k1 := cell_any g bd br bm kv F v v.pc ⟨hwf.pc0, hwf.pc1⟩ W hM
  have dz : ∀ q, (W.drewN q).heap[w.heap.size]? = some (.cells P.zR 49 (0, 0)) := fun q => hz
  have db : ∀ q, Below w.heap.size w (W.drewN q) := fun q => dnB hb q
  have HM := S.hid hM
  obtain ⟨L, hL⟩ : ∃ L, L = look0 v.code v.pc := ⟨_, rfl⟩
  rw [← hL]
  have HL := S.hid hL
  clear h hM hwf hL
  go_enter Tryz.func15, Tryz.ntmps15
  go_wp2_with fail
  refine k1.mono ?_
  rintro e w1 ⟨rfl, r1, rfl⟩
  have dz1 := dz r1
  have db1 := db r1
  have HM1 := S.hid (HM.out.drew r1)
  have s1 : w.heap.size ≤ (W.drewN r1).heap.size := hs
  generalize W.drewN r1 = W1 at *
  cases hc1 : cel v.code v.pc with
  | none =>
    have e : L = ⟨0, 0, 7⟩ := by rw [HL.out, look0, hc1]
    subst e
    simp only [Option.getD_none, Option.isSome_none]
    clear k1
    go_wp2_with (refine wpList_store_row rfl 49 _ _ rfl w.heap.size _ rfl rfl 49 P.zR dz1 (by exact P.sizeR) (by rfl) (by simp [Value.oneCell']) ?_)
    exact look_fin dz1 db1 rfl rfl rfl rfl
  | some t =>
  simp only [Option.getD_some, Option.isSome_some]
  have k2 := cell_any g bd br bm kv F v t (cel_r hc1) W1 HM1.out
  have HL1 : Hid (L = look1 v.code v.pc t) := by rw [HL.out, look0, hc1]; exact S.hid rfl
  have HC := S.hid (cel_r hc1)
  clear k1 dz db HM HL hc1
  go_wp2_with fail
  refine k2.mono ?_
  rintro e w1 ⟨rfl, r2, rfl⟩
  have dz2 : (W1.drewN r2).heap[w.heap.size]? = some (.cells P.zR 49 (0, 0)) := dz1
  have db2 := dnB db1 r2
  have HM2 := S.hid (HM1.out.drew r2)
  have s2 : w.heap.size ≤ (W1.drewN r2).heap.size := s1
  generalize W1.drewN r2 = W2 at *
  cases hc2 : cel v.code t with
  | none =>
    have e : L = ⟨0, 0, 7⟩ := by rw [HL1.out, look1, hc2]
    subst e
    simp only [Option.getD_none, Option.isSome_none]
    clear k2
    go_wp2_with (refine wpList_store_row rfl 49 _ _ rfl w.heap.size _ rfl rfl 49 P.zR dz2 (by exact P.sizeR) (by rfl) (by simp [Value.oneCell']) ?_)
    exact look_fin dz2 db2 rfl rfl rfl rfl
  | some op =>
  simp only [Option.getD_some, Option.isSome_some]
  obtain ⟨o0, o1⟩ := cel_r hc2
  have HL2 : Hid (L = look2 v.code v.pc t op) := by rw [HL1.out, look1, hc2]; exact S.hid rfl
  have w0 : wrap64 op = op := by simp [wrap64]; omega
  clear k2 HL1 hc2 HM1 dz1 db1 s1
  by_cases q2 : op < 1 ∨ 64 ≤ op
  · have e : L = ⟨0, 0, 6⟩ := by rw [HL2.out, look2, if_pos q2]
    subst e
    have k3 := P.of_no op q2 W2
    clear HL2 HM2 q2 o0 o1
    go_wp2_with fail
    refine k3.mono ?_
    rintro e w1 ⟨rfl, h3⟩
    have dz3 : w1.heap[w.heap.size]? = some (.cells P.zR 49 (0, 0)) := (h3.block _ (S.lt_of dz2)).trans dz2
    have db3 := trB db2 h3 s2
    have s3 := Nat.le_trans s2 h3.size
    clear k3 h3 dz2 db2
    unfold P.rowV
    obtain ⟨az, ab, ad, _, _⟩ := made2 w w1 dz3 db3 #[.int .i64 0, .string { data := #[] }, .int .i64 0, .int .i64 0, .int .i64 0, .bool false]
    go_wp2_with (first
      | (refine wpList_store_row rfl 49 _ _ rfl w1.heap.size _ rfl rfl 49 P.zR az (by exact P.sizeR) (by rfl) (by simp [Value.oneCell']) ?_)
      | (refine wpList_store_row rfl 49 _ _ rfl w.heap.size _ rfl rfl 49 P.zR ad (by exact P.sizeR) (by rfl) (by simp [Value.oneCell']) ?_))
    exact look_fin ad ab rfl rfl rfl rfl
  obtain ⟨n, rfl⟩ := Int.eq_ofNat_of_zero_le o0
  have n1 : 1 ≤ n := by omega
  have n2 : n < 64 := by omega
  have hL3 : L = (match opd v.code v.pc t n with | none => ⟨0, 0, 7⟩ | some x => ⟨n, x, 0⟩) := by rw [HL2.out, look2, if_neg q2]; rfl
  have k3 := P.of_at n n1 n2 W2
  have HL3 := S.hid hL3
  have HN := S.hid (show 1 ≤ n ∧ n < 64 from ⟨n1, n2⟩)
  clear HL2 hL3 o0 o1 q2 n1 n2
  go_wp2_with fail
  refine k3.mono ?_
  rintro e w1 ⟨rfl, h3⟩
  have dz3 : w1.heap[w.heap.size]? = some (.cells P.zR 49 (0, 0)) := (h3.block _ (S.lt_of dz2)).trans dz2
  have db3 := trB db2 h3 s2
  have s3 := Nat.le_trans s2 h3.size
  have HM3 := S.hid (HM2.out.below h3)
  clear k3 h3 dz2 db2 HM2
  unfold P.rowN P.rowV
  obtain ⟨az, ab, ad, ar⟩ := made2 w w1 dz3 db3 #[.int .i64 (n : Int), .string (P.nm n), .int .i64 (P.ri n), .int .i64 (P.ro n), .int .i64 (P.rc n), .bool (P.rb n)]
  have aB := ar.2
  have ar := ar.1
  have HM4 := S.hid (HM3.out.below aB)
  have k4 := operand_any g bd br bm kv F v n HN.out.1 HN.out.2 t _ HM4.out
  clear HM3 HM4
  unfold P.rowN P.rowV at k4
  go_wp2_with (first
    | (refine wpList_store_row rfl 49 _ _ rfl w1.heap.size _ rfl rfl 49 P.zR az (by exact P.sizeR) (by rfl) (by simp [Value.oneCell']) ?_)
    | (refine wpList_load_row rfl 49 _ rfl w1.heap.size rfl 49 _ (0, 0) _ ar Tryz.underlying49 rfl (by exact P.sizeR) ?_))
  refine k4.mono ?_
  rintro e w5 ⟨rfl, h5⟩
  have ad5 := (h5.block _ (S.lt_of ad)).trans ad
  have ar5 := (h5.block _ (S.lt_of ar)).trans ar
  have ab5 := trB ab h5 (Nat.le_of_lt (S.lt_of ad))
  clear k4 h5 az ab ad ar aB dz3 db3
  cases hc5 : opd v.code v.pc t n with
  | none =>
    have e : L = ⟨0, 0, 7⟩ := by rw [HL3.out, hc5]
    subst e
    simp only [Option.getD_none, Option.isSome_none]
    go_wp2_with (refine wpList_store_row rfl 49 _ _ rfl w.heap.size _ rfl rfl 49 P.zR ad5 (by exact P.sizeR) (by rfl) (by simp [Value.oneCell']) ?_)
    exact look_fin ad5 ab5 rfl rfl rfl rfl
  | some x =>
    have e : L = ⟨n, x, 0⟩ := by rw [HL3.out, hc5]
    subst e
    have en : prV n = P.rowV (n : Int) (P.nm n) (P.ri n) (P.ro n) (P.rc n) (P.rb n) := by rw [prV, if_neg (by have := HN.out.1; omega)]; rfl
    simp only [Option.getD_some, Option.isSome_some]
    go_wp2_with (first
      | (refine wpList_store_row rfl 49 _ _ rfl w.heap.size _ rfl rfl 49 P.zR ad5 (by exact P.sizeR) (by rfl) (by simp [Value.oneCell']) ?_)
      | (refine wpList_load_row rfl 49 _ rfl w1.heap.size rfl 49 _ (0, 0) _ ar5 Tryz.underlying49 rfl (by exact P.sizeR) ?_))
    exact look_fin ad5 ab5 rfl rfl rfl rfl
end Go.Proofs.YteldjmecomngeaaGreat.V
/-! Set. -/
namespace Go.Proofs.YteldjmecomngeaaGreat.S
open Go.RowKit
open Go.Proofs
set_option linter.unusedVariables false
set_option linter.unusedSimpArgs false
set_option maxHeartbeats 1000000
set_option maxRecDepth 100000
theorem rset (b : Nat) (l : List (Int × Int)) (k v x : Int) (w : World) (h : HasR w b (l ++ [(k, v)])) : Calls Tryz.prog 174 #[.pointer (some ⟨b, 0, none⟩), .int .u16 x] w fun e w' => e = .returned (.tuple #[]) ∧ HasR w' b (l ++ [(k, x)]) ∧ At b w w' := by
  have hd := rlen b _ w h
  have hl := h.2
  have ht := rtop b _ l.length 0 (by simp) w h
  have e1 : decide (0 < (((l ++ [(k, v)]).length : Nat) : Int)) = true := decide_eq_true (by rw [List.length_append]; simp only [List.length_cons, List.length_nil]; omega)
  have hg := fun q => (HasR.get (W := w.drewN q) (b := b) (l := l ++ [(k, v)]) h l.length (k, v) (by simp)).2
  have hz := fun q => frozen_of (w.drewN q) b (l.length * 2 + 1) _ 123 h.1
  have hfin : ∀ q, HasR ((w.drewN q).setCell ⟨b, l.length * 2 + 1, none⟩ (.int .u16 x)) b (l ++ [(k, x)]) ∧ At b w ((w.drewN q).setCell ⟨b, l.length * 2 + 1, none⟩ (.int .u16 x)) := by
    intro q
    refine ⟨⟨?_, by simpa using hl⟩, ((Tc.refl (fun k => k = b) w).drewN q).setCell b _ rfl _⟩
    rw [setCell_heap _ b _ _ 123 _ (show (w.drewN q).heap[b]? = _ from h.1), pcK_set l (k, v) x (by simp at hl; omega)]
  generalize hK : (((l ++ [(k, v)]).length : Nat) : Int) = K at *
  clear hK h hl
  go_enter Tryz.func174, Tryz.ntmps174
  go_wp2_with fail
  refine hd.mono ?_
  rintro e w1 ⟨rfl, hw1⟩
  obtain rfl := hw1.symm
  go_wp2_with fail
  refine ht.mono ?_
  rintro e w2 ⟨rfl, q, rfl⟩
  have g1 := hg q
  have z1 := hz q
  have f1 := hfin q
  clear hg hz hfin
  go_wp2
  go_end0
  exact ⟨rfl, f1⟩
end Go.Proofs.YteldjmecomngeaaGreat.S
/-! What an instruction does. -/
namespace Go.Proofs.YteldjmecomngeaaGreat.V
open Go.RowKit
open Go.Proofs
set_option linter.unusedVariables false
set_option linter.unusedSimpArgs false
set_option maxHeartbeats 1000000
set_option maxRecDepth 100000
theorem fz {W : World} {g bd br bm : Nat} {kv : Value} {F : Nat → Prop} {v : VS} (h : MV W g bd br bm kv F v) (i : Nat) : W.frozen? ⟨g, i, none⟩ = false := S.frozen_of W g i _ _ h.blk
theorem fail_any (g bd br bm : Nat) (kv : Value) (F : Nat → Prop) (v : VS) (f : Int) (W : World) (h : MV W g bd br bm kv F v) :
    Calls Tryz.prog 50 #[.pointer (some ⟨g, 0, none⟩), .int .i64 f] W fun e W' => e = .returned (.tuple #[]) ∧ VD W W' g bd br bm kv F (fail f v) := by
  have c1 := h.c1
  have c2 := h.c2
  have z1 := fz h 1
  have z2 := fz h 2
  have hfin : VD W ((W.setCell ⟨g, 1, none⟩ (.int .i64 3)).setCell ⟨g, 2, none⟩ (.int .i64 f)) g bd br bm kv F (fail f v) := by
    have k0 := h.same (Below.refl _ W)
    have k1 : VD W (W.setCell ⟨g, 1, none⟩ (.int .i64 3)) g bd br bm kv F { v with st := 3 } := k0.set h 1 _ (k0.s.set 1 _ rfl rfl rfl rfl rfl ⟨h.wf.pc0, h.wf.pc1, h.wf.d, h.wf.r⟩)
    have k2 := k1.s.set (v' := fail f v) 2 (.int .i64 f) rfl rfl rfl rfl rfl ⟨h.wf.pc0, h.wf.pc1, h.wf.d, h.wf.r⟩
    refine ⟨?_, k1.t.setCell g 2 (.inl rfl) _⟩
    have e : M.gr F W ((W.setCell ⟨g, 1, none⟩ (.int .i64 3)).setCell ⟨g, 2, none⟩ (.int .i64 f)) = M.gr F W (W.setCell ⟨g, 1, none⟩ (.int .i64 3)) := by unfold M.gr; rw [S.setCell_size]
    rw [e]; exact k2
  clear h
  go_enter Tryz.func50, Tryz.ntmps50
  go_wp2
  go_end0
  exact ⟨rfl, hfin⟩
/-- A list of a return stack: none, one, or two and more. -/
theorem last2 (R : List (Int × Int)) : R = [] ∨ (∃ q, R = [q]) ∨ ∃ l p q, R = l ++ [p] ++ [q] := by
  rcases List.eq_nil_or_concat R with h | ⟨l, q, rfl⟩
  · exact .inl h
  · rcases List.eq_nil_or_concat l with rfl | ⟨l, p, rfl⟩
    · exact .inr (.inl ⟨q, by simp⟩)
    · exact .inr (.inr ⟨l, p, q, by simp⟩)
theorem At.kv {W W' : World} {g bd br bm : Nat} {kv : Value} {F : Nat → Prop} {v : VS} (h : MV W g bd br bm kv F v) {R' : List (Int × Int)} (t : S.At br W W') (k : S.HasR W' br R') (hr : ∀ q ∈ R', C.C q.2) : VD W W' g bd br bm kv F { v with R := R' } :=
  h.goes (h.ps.save k t) h.wf.d hr
theorem At.kd {W W' : World} {g bd br bm : Nat} {kv : Value} {F : Nat → Prop} {v : VS} (h : MV W g bd br bm kv F v) {D' : List Int} (t : S.At bd W W') (k : S.HasD W' bd D') (hd : ∀ x ∈ D', C.C x) : VD W W' g bd br bm kv F { v with D := D' } :=
  h.goes (h.ps.put k t) hd h.wf.r
theorem eR (v : VS) : { v with R := v.R } = v := rfl
theorem turns_any (g bd br bm : Nat) (kv : Value) (F : Nat → Prop) (v : VS) (W : World) (h : MV W g bd br bm kv F v) :
    Calls Tryz.prog 163 #[.pointer (some ⟨g, 0, none⟩)] W fun e W' => e = .returned (.tuple #[.bool (turn v).b, .int .i64 (turn v).f]) ∧ VD W W' g bd br bm kv F (turn v).v := by
  have c4 := h.c4
  have hR := h.ps.r
  have hsame : ∀ q, VD W (W.drewN q) g bd br bm kv F v := fun q => h.same ⟨rfl, rfl, rfl, Nat.le_refl _, fun _ _ => rfl⟩
  have hwr := h.wf.r
  rcases last2 v.R with hr | ⟨⟨k, i⟩, hr⟩ | ⟨l, ⟨k2, b⟩, ⟨k, i⟩, hr⟩
  · have ht : turn v = ⟨false, 3, v⟩ := by unfold turn; rw [hr]; rfl
    rw [ht]
    have k1 := S.rat_under br v.R 0 3 (.inr (by rw [hr]; simp)) W hR
    have hs := hsame 0
    clear hR hsame hwr hr ht h
    go_enter Tryz.func163, Tryz.ntmps163
    go_wp2_with fail
    refine k1.mono ?_
    rintro e w1 ⟨rfl, rfl⟩
    go_wp2
    go_ret2
    exact ⟨rfl, hs⟩
  · by_cases q1 : k = 3
    · subst q1
      have ht : turn v = ⟨false, 3, v⟩ := by unfold turn; rw [hr]; rfl
      rw [ht]
      have k1 := S.rat_ok br v.R 0 0 (by rw [hr]; rfl) 3 i (by rw [hr]; rfl) W hR
      have k2 := fun q => S.rat_under br v.R 1 2 (.inr (by rw [hr]; simp)) (W.drewN q) hR
      have c4' := fun q => (show (W.drewN q).cell? ⟨g, 4, none⟩ = _ from c4)
      clear hR hwr hr ht h
      go_enter Tryz.func163, Tryz.ntmps163
      go_wp2_with fail
      refine k1.mono ?_
      rintro e w1 ⟨rfl, q, rfl⟩
      have d4 := c4' q
      go_wp2_with fail
      refine (k2 q).mono ?_
      rintro e w2 ⟨rfl, rfl⟩
      go_wp2
      go_ret2
      exact ⟨rfl, hsame q⟩
    · have ht : turn v = ⟨false, 5, v⟩ := by unfold turn; rw [hr]; simp [q1]
      rw [ht]
      have k1 := S.rat_kind br v.R 0 0 (by rw [hr]; rfl) k i (by rw [hr]; rfl) 3 q1 W hR
      clear hR hwr hr ht h
      go_enter Tryz.func163, Tryz.ntmps163
      go_wp2_with fail
      refine k1.mono ?_
      rintro e w1 ⟨rfl, q, rfl⟩
      go_wp2
      go_ret2
      exact ⟨rfl, hsame q⟩
  have gl : v.R.length = l.length + 2 := by rw [hr]; simp
  have gi : v.R[l.length + 1]? = some (k, i) := by rw [hr, List.getElem?_append_right (by simp)]; simp
  have gb : v.R[l.length]? = some (k2, b) := by rw [hr, List.append_assoc, List.getElem?_append_right (by simp)]; simp
  by_cases q1 : k = 3
  case neg =>
    have ht : turn v = ⟨false, 5, v⟩ := by unfold turn; rw [hr]; simp [q1]
    rw [ht]
    have k1 := S.rat_kind br v.R (l.length + 1) 0 (by omega) k i gi 3 q1 W hR
    clear hR hwr hr ht h gl gi gb
    go_enter Tryz.func163, Tryz.ntmps163
    go_wp2_with fail
    refine k1.mono ?_
    rintro e w1 ⟨rfl, q, rfl⟩
    go_wp2
    go_ret2
    exact ⟨rfl, hsame q⟩
  subst q1
  have k1 := S.rat_ok br v.R (l.length + 1) 0 (by omega) 3 i gi W hR
  have c4' := fun q => (show (W.drewN q).cell? ⟨g, 4, none⟩ = _ from c4)
  by_cases q2 : k2 = 2
  case neg =>
    have ht : turn v = ⟨false, 5, v⟩ := by unfold turn; rw [hr]; simp [q2]
    rw [ht]
    have k2 := fun q => S.rat_kind br v.R l.length 1 (by omega) k2 b gb 2 q2 (W.drewN q) hR
    clear hR hwr hr ht h gl gi gb
    go_enter Tryz.func163, Tryz.ntmps163
    go_wp2_with fail
    refine k1.mono ?_
    rintro e w1 ⟨rfl, q, rfl⟩
    have d4 := c4' q
    go_wp2_with fail
    refine (k2 q).mono ?_
    rintro e w2 ⟨rfl, q', rfl⟩
    go_wp2
    go_ret2
    exact ⟨rfl, hsame _⟩
  subst q2
  have k2 := fun q => S.rat_ok br v.R l.length 1 (by omega) 2 b gb (W.drewN q) hR
  have e1 : IntKind.u16.wrap (i + 1) = (i + 1) % 65536 := M.u16_wrap _
  by_cases q3 : (i + 1) % 65536 = b
  case neg =>
    have ht : turn v = ⟨true, 0, { v with R := l ++ [(2, b)] ++ [(3, (i + 1) % 65536)] }⟩ := by unfold turn; rw [hr]; simp [q3]
    rw [ht]
    have e2 : ((i + 1) % 65536 != b) = true := by simpa using q3
    have k3 := fun q => S.rset br (l ++ [(2, b)]) 3 i ((i + 1) % 65536) (W.drewN q) (by rw [hr] at hR; exact hR)
    have hfin : ∀ q w', S.HasR w' br (l ++ [(2, b)] ++ [(3, (i + 1) % 65536)]) → S.At br (W.drewN q) w' → VD W w' g bd br bm kv F { v with R := l ++ [(2, b)] ++ [(3, (i + 1) % 65536)] } := by
      intro q w' a1 a2
      refine At.kv h ⟨a2.os, a2.tape, a2.output, a2.size, a2.block⟩ a1 fun p hp => ?_
      rw [hr] at hwr
      rcases List.mem_append.1 hp with hp | hp
      · exact hwr p (List.mem_append_left _ hp)
      · simp at hp; subst hp; exact rng _
    clear hR hwr hr ht h gl gi gb hsame
    go_enter Tryz.func163, Tryz.ntmps163
    go_wp2_with fail
    refine k1.mono ?_
    rintro e w1 ⟨rfl, q, rfl⟩
    have d4 := c4' q
    go_wp2_with fail
    refine (k2 q).mono ?_
    rintro e w2 ⟨rfl, q', rfl⟩
    obtain ⟨r, e⟩ := M.drewN_drewN W q q'
    rw [e]
    have d5 := c4' r
    have k3 := k3 r
    clear k1 k2 d4
    go_wp2_with fail
    refine k3.mono ?_
    rintro e w3 ⟨rfl, a1, a2⟩
    have hf := hfin r w3 a1 a2
    clear a1 a2 k3 d5 c4' hfin
    go_wp2
    go_ret2
    exact ⟨rfl, hf⟩
  have ht : turn v = ⟨false, 0, { v with R := l }⟩ := by unfold turn; rw [hr]; simp [q3]
  rw [ht]
  have e2 : ((i + 1) % 65536 != b) = false := by simpa using q3
  have k3 := fun q => S.rpop_ok br (l ++ [(2, b)]) 3 i (W.drewN q) (by rw [hr] at hR; exact hR)
  have hfin : ∀ q w' w'', S.At br (W.drewN q) w' → S.HasR w'' br l → S.At br w' w'' → VD W w'' g bd br bm kv F { v with R := l } := by
    intro q w' w'' a1 a2 a3
    have a4 : S.At br W w' := ⟨a1.os, a1.tape, a1.output, a1.size, a1.block⟩
    refine At.kv h (S.Tc.trans a4 a3 (fun _ e => e) (fun _ _ e => e)) a2 fun p hp => ?_
    rw [hr] at hwr
    exact hwr p (List.mem_append_left _ (List.mem_append_left _ hp))
  have hg4 : ∀ q w', S.At br (W.drewN q) w' → w'.cell? ⟨g, 4, none⟩ = some (.pointer (some ⟨br, 0, none⟩)) := by
    intro q w' a1
    rw [World.cell?_of_block (w := W) (w' := w') (a := ⟨g, 4, none⟩) (a1.block g h.lt h.vr)]
    exact c4
  clear hR hwr hr ht h gl gi gb hsame
  go_enter Tryz.func163, Tryz.ntmps163
  go_wp2_with fail
  refine k1.mono ?_
  rintro e w1 ⟨rfl, q, rfl⟩
  have d4 := c4' q
  go_wp2_with fail
  refine (k2 q).mono ?_
  rintro e w2 ⟨rfl, q', rfl⟩
  obtain ⟨r, e⟩ := M.drewN_drewN W q q'
  rw [e]
  have d5 := c4' r
  have k3 := k3 r
  clear k1 k2 d4
  go_wp2_with fail
  refine k3.mono ?_
  rintro e w3 ⟨rfl, a1, a2⟩
  have d6 := hg4 r w3 a2
  have k4 := S.rpop_ok br l 2 b w3 a1
  clear k3 d5 c4' hg4
  go_wp2_with fail
  refine k4.mono ?_
  rintro e w4 ⟨rfl, a3, a4⟩
  have hf := hfin r w3 w4 a2 a3 a4
  clear a1 a2 a3 a4 k4 d6 hfin
  go_wp2
  go_ret2
  exact ⟨rfl, hf⟩
end Go.Proofs.YteldjmecomngeaaGreat.V
