import Derived.Test.YteldjmecomngeaaGreatG4
import Derived.RangeFuncNested
import Derived.RangeFuncBound
import Derived.RangeFuncCalls
import Derived.RangeFuncLeaves
import Derived.Shelf.Abstract
import Derived.Shelf.RegionOpen
import Derived.OwnWalkIn
import Derived.TacticsInMore
import Derived.LoopNIn
import Derived.LoopIn
import Derived.Deep.RegionHeld
/-! The rows by their number; All. -/
namespace Go.Proofs.YteldjmecomngeaaGreat.P
open Go.RowKit Go.Shelf
open Go.Proofs
set_option linter.unusedVariables false
set_option linter.unusedSimpArgs false
set_option maxHeartbeats 2000000
set_option maxRecDepth 100000
attribute [local go_sem] Oper.semAt_some
def nm (x : Nat) : ByteArray := match x with
  | 9 => ⟨#[110, 111, 112]⟩
  | 10 => ⟨#[121, 105, 101, 108, 100]⟩
  | 11 => ⟨#[104, 97, 108, 116]⟩
  | 12 => ⟨#[100, 117, 112]⟩
  | 13 => ⟨#[100, 114, 111, 112]⟩
  | 14 => ⟨#[115, 119, 97, 112]⟩
  | 15 => ⟨#[111, 118, 101, 114]⟩
  | 16 => ⟨#[114, 111, 116]⟩
  | 17 => ⟨#[110, 105, 112]⟩
  | 18 => ⟨#[116, 117, 99, 107]⟩
  | 19 => ⟨#[50, 100, 117, 112]⟩
  | 20 => ⟨#[50, 100, 114, 111, 112]⟩
  | 21 => ⟨#[43]⟩
  | 22 => ⟨#[45]⟩
  | 23 => ⟨#[42]⟩
  | 24 => ⟨#[47]⟩
  | 25 => ⟨#[109, 111, 100]⟩
  | 26 => ⟨#[117, 47]⟩
  | 27 => ⟨#[117, 109, 111, 100]⟩
  | 28 => ⟨#[110, 101, 103, 97, 116, 101]⟩
  | 29 => ⟨#[97, 98, 115]⟩
  | 30 => ⟨#[109, 105, 110]⟩
  | 31 => ⟨#[109, 97, 120]⟩
  | 32 => ⟨#[49, 43]⟩
  | 33 => ⟨#[49, 45]⟩
  | 34 => ⟨#[50, 42]⟩
  | 35 => ⟨#[50, 47]⟩
  | 36 => ⟨#[97, 110, 100]⟩
  | 37 => ⟨#[111, 114]⟩
  | 38 => ⟨#[120, 111, 114]⟩
  | 39 => ⟨#[105, 110, 118, 101, 114, 116]⟩
  | 40 => ⟨#[108, 115, 104, 105, 102, 116]⟩
  | 41 => ⟨#[114, 115, 104, 105, 102, 116]⟩
  | 42 => ⟨#[61]⟩
  | 43 => ⟨#[60, 62]⟩
  | 44 => ⟨#[60]⟩
  | 45 => ⟨#[62]⟩
  | 46 => ⟨#[117, 60]⟩
  | 47 => ⟨#[117, 62]⟩
  | 48 => ⟨#[48, 61]⟩
  | 49 => ⟨#[48, 60]⟩
  | 50 => ⟨#[64]⟩
  | 51 => ⟨#[33]⟩
  | 52 => ⟨#[99, 64]⟩
  | 53 => ⟨#[99, 33]⟩
  | 54 => ⟨#[43, 33]⟩
  | 55 => ⟨#[62, 114]⟩
  | 56 => ⟨#[114, 62]⟩
  | 57 => ⟨#[114, 64]⟩
  | 58 => ⟨#[105]⟩
  | 59 => ⟨#[106]⟩
  | 60 => ⟨#[112, 108, 111, 116]⟩
  | 61 => ⟨#[112, 97, 100]⟩
  | 62 => ⟨#[116, 111, 110, 101]⟩
  | 63 => ⟨#[98, 97, 110, 107]⟩
  | _ => ⟨#[]⟩
def ri (x : Nat) : Int := match x with
  | 5 => 1
  | 6 => 2
  | 12 => 1
  | 13 => 1
  | 14 => 2
  | 15 => 2
  | 16 => 3
  | 17 => 2
  | 18 => 2
  | 19 => 2
  | 20 => 2
  | 21 => 2
  | 22 => 2
  | 23 => 2
  | 24 => 2
  | 25 => 2
  | 26 => 2
  | 27 => 2
  | 28 => 1
  | 29 => 1
  | 30 => 2
  | 31 => 2
  | 32 => 1
  | 33 => 1
  | 34 => 1
  | 35 => 1
  | 36 => 2
  | 37 => 2
  | 38 => 2
  | 39 => 1
  | 40 => 2
  | 41 => 2
  | 42 => 2
  | 43 => 2
  | 44 => 2
  | 45 => 2
  | 46 => 2
  | 47 => 2
  | 48 => 1
  | 49 => 1
  | 50 => 1
  | 51 => 2
  | 52 => 1
  | 53 => 2
  | 54 => 2
  | 55 => 1
  | 60 => 3
  | 62 => 2
  | 63 => 1
  | _ => 0
def ro (x : Nat) : Int := match x with
  | 2 => 1
  | 3 => 1
  | 12 => 2
  | 14 => 2
  | 15 => 3
  | 16 => 3
  | 17 => 1
  | 18 => 3
  | 19 => 4
  | 21 => 1
  | 22 => 1
  | 23 => 1
  | 24 => 1
  | 25 => 1
  | 26 => 1
  | 27 => 1
  | 28 => 1
  | 29 => 1
  | 30 => 1
  | 31 => 1
  | 32 => 1
  | 33 => 1
  | 34 => 1
  | 35 => 1
  | 36 => 1
  | 37 => 1
  | 38 => 1
  | 39 => 1
  | 40 => 1
  | 41 => 1
  | 42 => 1
  | 43 => 1
  | 44 => 1
  | 45 => 1
  | 46 => 1
  | 47 => 1
  | 48 => 1
  | 49 => 1
  | 50 => 1
  | 52 => 1
  | 56 => 1
  | 57 => 1
  | 58 => 1
  | 59 => 1
  | 61 => 1
  | _ => 0
def rc (x : Nat) : Int := match x with
  | 1 => 2
  | 2 => 2
  | 3 => 2
  | 4 => 2
  | 5 => 2
  | 6 => 3
  | 7 => 3
  | 8 => 2
  | 19 => 2
  | 23 => 3
  | 24 => 4
  | 25 => 4
  | 26 => 4
  | 27 => 4
  | 50 => 2
  | 51 => 2
  | 52 => 2
  | 53 => 2
  | 54 => 3
  | 60 => 3
  | 62 => 2
  | _ => 1
def rb (x : Nat) : Bool := match x with
  | 3 => true
  | 4 => true
  | 5 => true
  | 7 => true
  | _ => false
def rowN (x : Nat) : Value := rowV (x : Int) (nm x) (ri x) (ro x) (rc x) (rb x)
theorem num_cases (x : Nat) (h1 : 1 ≤ x) (h2 : x < 64) : x = 1 ∨ x = 2 ∨ x = 3 ∨ x = 4 ∨ x = 5 ∨ x = 6 ∨ x = 7 ∨ x = 8 ∨ x = 9 ∨ x = 10 ∨ x = 11 ∨ x = 12 ∨ x = 13 ∨ x = 14 ∨ x = 15 ∨ x = 16 ∨ x = 17 ∨ x = 18 ∨ x = 19 ∨ x = 20 ∨ x = 21 ∨ x = 22 ∨ x = 23 ∨ x = 24 ∨ x = 25 ∨ x = 26 ∨ x = 27 ∨ x = 28 ∨ x = 29 ∨ x = 30 ∨ x = 31 ∨ x = 32 ∨ x = 33 ∨ x = 34 ∨ x = 35 ∨ x = 36 ∨ x = 37 ∨ x = 38 ∨ x = 39 ∨ x = 40 ∨ x = 41 ∨ x = 42 ∨ x = 43 ∨ x = 44 ∨ x = 45 ∨ x = 46 ∨ x = 47 ∨ x = 48 ∨ x = 49 ∨ x = 50 ∨ x = 51 ∨ x = 52 ∨ x = 53 ∨ x = 54 ∨ x = 55 ∨ x = 56 ∨ x = 57 ∨ x = 58 ∨ x = 59 ∨ x = 60 ∨ x = 61 ∨ x = 62 ∨ x = 63 := by omega
theorem ent_at (x : Nat) (h1 : 1 ≤ x) (h2 : x < 64) : ∃ (k bl s : Int) (f : Value), f.oneCell' = true ∧ (f = .nilFunc ∨ ∃ g, f = .func (.func g) #[] #[]) ∧ ∀ w, Calls Tryz.prog 88 #[.int .i64 (x : Int)] w fun e w' => e = .returned (entV (x : Int) (nm x) (ri x) (ro x) (rc x) (rb x) k bl s f) ∧ Below w.heap.size w w' := by
  rcases num_cases x h1 h2 with rfl | rfl | rfl | rfl | rfl | rfl | rfl | rfl | rfl | rfl | rfl | rfl | rfl | rfl | rfl | rfl | rfl | rfl | rfl | rfl | rfl | rfl | rfl | rfl | rfl | rfl | rfl | rfl | rfl | rfl | rfl | rfl | rfl | rfl | rfl | rfl | rfl | rfl | rfl | rfl | rfl | rfl | rfl | rfl | rfl | rfl | rfl | rfl | rfl | rfl | rfl | rfl | rfl | rfl | rfl | rfl | rfl | rfl | rfl | rfl | rfl | rfl | rfl
  · exact ⟨_, _, _, _, rfl, .inl rfl, ent_1⟩
  · exact ⟨_, _, _, _, rfl, .inl rfl, ent_2⟩
  · exact ⟨_, _, _, _, rfl, .inl rfl, ent_3⟩
  · exact ⟨_, _, _, _, rfl, .inl rfl, ent_4⟩
  · exact ⟨_, _, _, _, rfl, .inl rfl, ent_5⟩
  · exact ⟨_, _, _, _, rfl, .inr ⟨_, rfl⟩, ent_6⟩
  · exact ⟨_, _, _, _, rfl, .inl rfl, ent_7⟩
  · exact ⟨_, _, _, _, rfl, .inl rfl, ent_8⟩
  · exact ⟨_, _, _, _, rfl, .inr ⟨_, rfl⟩, ent_9⟩
  · exact ⟨_, _, _, _, rfl, .inl rfl, ent_10⟩
  · exact ⟨_, _, _, _, rfl, .inl rfl, ent_11⟩
  · exact ⟨_, _, _, _, rfl, .inr ⟨_, rfl⟩, ent_12⟩
  · exact ⟨_, _, _, _, rfl, .inr ⟨_, rfl⟩, ent_13⟩
  · exact ⟨_, _, _, _, rfl, .inr ⟨_, rfl⟩, ent_14⟩
  · exact ⟨_, _, _, _, rfl, .inr ⟨_, rfl⟩, ent_15⟩
  · exact ⟨_, _, _, _, rfl, .inr ⟨_, rfl⟩, ent_16⟩
  · exact ⟨_, _, _, _, rfl, .inr ⟨_, rfl⟩, ent_17⟩
  · exact ⟨_, _, _, _, rfl, .inr ⟨_, rfl⟩, ent_18⟩
  · exact ⟨_, _, _, _, rfl, .inr ⟨_, rfl⟩, ent_19⟩
  · exact ⟨_, _, _, _, rfl, .inr ⟨_, rfl⟩, ent_20⟩
  · exact ⟨_, _, _, _, rfl, .inr ⟨_, rfl⟩, ent_21⟩
  · exact ⟨_, _, _, _, rfl, .inr ⟨_, rfl⟩, ent_22⟩
  · exact ⟨_, _, _, _, rfl, .inr ⟨_, rfl⟩, ent_23⟩
  · exact ⟨_, _, _, _, rfl, .inr ⟨_, rfl⟩, ent_24⟩
  · exact ⟨_, _, _, _, rfl, .inr ⟨_, rfl⟩, ent_25⟩
  · exact ⟨_, _, _, _, rfl, .inr ⟨_, rfl⟩, ent_26⟩
  · exact ⟨_, _, _, _, rfl, .inr ⟨_, rfl⟩, ent_27⟩
  · exact ⟨_, _, _, _, rfl, .inr ⟨_, rfl⟩, ent_28⟩
  · exact ⟨_, _, _, _, rfl, .inr ⟨_, rfl⟩, ent_29⟩
  · exact ⟨_, _, _, _, rfl, .inr ⟨_, rfl⟩, ent_30⟩
  · exact ⟨_, _, _, _, rfl, .inr ⟨_, rfl⟩, ent_31⟩
  · exact ⟨_, _, _, _, rfl, .inr ⟨_, rfl⟩, ent_32⟩
  · exact ⟨_, _, _, _, rfl, .inr ⟨_, rfl⟩, ent_33⟩
  · exact ⟨_, _, _, _, rfl, .inr ⟨_, rfl⟩, ent_34⟩
  · exact ⟨_, _, _, _, rfl, .inr ⟨_, rfl⟩, ent_35⟩
  · exact ⟨_, _, _, _, rfl, .inr ⟨_, rfl⟩, ent_36⟩
  · exact ⟨_, _, _, _, rfl, .inr ⟨_, rfl⟩, ent_37⟩
  · exact ⟨_, _, _, _, rfl, .inr ⟨_, rfl⟩, ent_38⟩
  · exact ⟨_, _, _, _, rfl, .inr ⟨_, rfl⟩, ent_39⟩
  · exact ⟨_, _, _, _, rfl, .inr ⟨_, rfl⟩, ent_40⟩
  · exact ⟨_, _, _, _, rfl, .inr ⟨_, rfl⟩, ent_41⟩
  · exact ⟨_, _, _, _, rfl, .inr ⟨_, rfl⟩, ent_42⟩
  · exact ⟨_, _, _, _, rfl, .inr ⟨_, rfl⟩, ent_43⟩
  · exact ⟨_, _, _, _, rfl, .inr ⟨_, rfl⟩, ent_44⟩
  · exact ⟨_, _, _, _, rfl, .inr ⟨_, rfl⟩, ent_45⟩
  · exact ⟨_, _, _, _, rfl, .inr ⟨_, rfl⟩, ent_46⟩
  · exact ⟨_, _, _, _, rfl, .inr ⟨_, rfl⟩, ent_47⟩
  · exact ⟨_, _, _, _, rfl, .inr ⟨_, rfl⟩, ent_48⟩
  · exact ⟨_, _, _, _, rfl, .inr ⟨_, rfl⟩, ent_49⟩
  · exact ⟨_, _, _, _, rfl, .inr ⟨_, rfl⟩, ent_50⟩
  · exact ⟨_, _, _, _, rfl, .inr ⟨_, rfl⟩, ent_51⟩
  · exact ⟨_, _, _, _, rfl, .inr ⟨_, rfl⟩, ent_52⟩
  · exact ⟨_, _, _, _, rfl, .inr ⟨_, rfl⟩, ent_53⟩
  · exact ⟨_, _, _, _, rfl, .inr ⟨_, rfl⟩, ent_54⟩
  · exact ⟨_, _, _, _, rfl, .inr ⟨_, rfl⟩, ent_55⟩
  · exact ⟨_, _, _, _, rfl, .inr ⟨_, rfl⟩, ent_56⟩
  · exact ⟨_, _, _, _, rfl, .inr ⟨_, rfl⟩, ent_57⟩
  · exact ⟨_, _, _, _, rfl, .inr ⟨_, rfl⟩, ent_58⟩
  · exact ⟨_, _, _, _, rfl, .inr ⟨_, rfl⟩, ent_59⟩
  · exact ⟨_, _, _, _, rfl, .inr ⟨_, rfl⟩, ent_60⟩
  · exact ⟨_, _, _, _, rfl, .inr ⟨_, rfl⟩, ent_61⟩
  · exact ⟨_, _, _, _, rfl, .inr ⟨_, rfl⟩, ent_62⟩
  · exact ⟨_, _, _, _, rfl, .inr ⟨_, rfl⟩, ent_63⟩
theorem of_at (x : Nat) (h1 : 1 ≤ x) (h2 : x < 64) (w : World) : Calls Tryz.prog 47 #[.int .i64 (x : Int)] w fun e w' => e = .returned (.tuple #[rowN x, .int .i64 0]) ∧ Below w.heap.size w w' := by
  obtain ⟨k, bl, s, f, _, _, hE⟩ := ent_at x h1 h2
  exact of_yes _ _ _ _ _ _ _ _ _ _ (by omega) (by omega) hE w
def allN : List Nat := List.range' 1 63
theorem grown_of {W W' : World} (b : Below W.heap.size W W') : W.grownBy W' none := ⟨b.os, b.tape, b.output, b.size, fun k hk _ => b.block k hk⟩
theorem range_snoc (k : Nat) : List.range' 1 k ++ [1 + k] = List.range' 1 (k + 1) := by rw [List.range'_1_concat]
theorem range_pre (k : Nat) (h : k ≤ 63) : List.range' 1 k <+: allN := by
  refine ⟨List.range' (1 + k) (63 - k), ?_⟩
  rw [allN, List.range'_append_1, show k + (63 - k) = 63 by omega]
end Go.Proofs.YteldjmecomngeaaGreat.P
/-! Do, all its ways as one. -/
namespace Go.Proofs.YteldjmecomngeaaGreat.P
open Go.RowKit
open Go.Proofs
set_option linter.unusedVariables false
set_option linter.unusedSimpArgs false
set_option maxHeartbeats 2000000
set_option maxRecDepth 100000
def tops (D : List Int) (i : Nat) : List Int := D.drop (D.length - i)
def rest (D : List Int) (i : Nat) : List Int := D.take (D.length - i)
def xAt (D : List Int) (i j : Nat) : Int := ((tops D i)[j]?).getD 0
theorem tops_len (D : List Int) (i : Nat) (h : i ≤ D.length) : (tops D i).length = i := by rw [tops, List.length_drop]; omega
theorem rest_len (D : List Int) (i : Nat) : (rest D i).length = D.length - i := by rw [rest, List.length_take]; omega
theorem parts (D : List Int) (i : Nat) : D = rest D i ++ tops D i := (List.take_append_drop _ _).symm
theorem list1 : ∀ l : List Int, l.length = 1 → l = [(l[0]?).getD 0]
  | [a], _ => rfl
theorem list2 : ∀ l : List Int, l.length = 2 → l = [(l[0]?).getD 0, (l[1]?).getD 0]
  | [a, b], _ => rfl
theorem list3 : ∀ l : List Int, l.length = 3 → l = [(l[0]?).getD 0, (l[1]?).getD 0, (l[2]?).getD 0]
  | [a, b, c], _ => rfl
theorem xAt_hi (D : List Int) (i j : Nat) (hd : i ≤ D.length) (h : i ≤ j) : xAt D i j = 0 := by
  rw [xAt, List.getElem?_eq_none (by rw [tops_len D i hd]; exact h)]; rfl
/-- What is looked at on the return stack: the value, the fault. -/
def lk (k : Int) (bl : Nat) (R : List (Int × Int)) : Int × Int :=
  if k = 0 then (0, 0) else if R.length ≤ bl then (0, 3) else if ((R[R.length - 1 - bl]?).getD (0, 0)).1 = k then (((R[R.length - 1 - bl]?).getD (0, 0)).2, 0) else (0, 5)
def flt (i o : Nat) (k : Int) (bl s : Nat) (D : List Int) (R : List (Int × Int)) : Int :=
  if S.need D.length i o ≠ 0 then S.need D.length i o else if (lk k bl R).2 ≠ 0 then (lk k bl R).2 else if 128 < R.length + s then 4 else 0
theorem take_any (i : Nat) (hi : i ≤ 3) (bd : Nat) (D : List Int) (hD : i ≤ D.length) (W : World) (h : S.HasD W bd D) :
    Calls Tryz.prog 165 #[.pointer (some ⟨bd, 0, none⟩), .int .i64 (i : Int)] W fun e W' => e = .returned (.agg #[.int .u16 (xAt D i 0), .int .u16 (xAt D i 1), .int .u16 (xAt D i 2)]) ∧ S.HasD W' bd (rest D i) ∧ S.At bd W W' := by
  have hl := tops_len D i hD
  have hp := parts D i
  have e0 := xAt_hi D i 0 hD
  have e1 := xAt_hi D i 1 hD
  have e2 := xAt_hi D i 2 hD
  rcases (show i = 0 ∨ i = 1 ∨ i = 2 ∨ i = 3 by omega) with rfl | rfl | rfl | rfl
  · rw [e0 (by omega), e1 (by omega), e2 (by omega)]
    have : rest D 0 = D := by simp [rest]
    rw [this]
    exact take_0 bd D W h
  · rw [e1 (by omega), e2 (by omega)]
    refine take_1 bd (rest D 1) (xAt D 1 0) W ?_
    rw [xAt, ← list1 _ hl, ← hp]; exact h
  · rw [e2 (by omega)]
    refine take_2 bd (rest D 2) (xAt D 2 0) (xAt D 2 1) W ?_
    rw [xAt, xAt, ← list2 _ hl, ← hp]; exact h
  · refine take_3 bd (rest D 3) (xAt D 3 0) (xAt D 3 1) (xAt D 3 2) W ?_
    rw [xAt, xAt, xAt, ← list3 _ hl, ← hp]; exact h
theorem look_any (op : Int) (name : ByteArray) (i o c : Int) (b : Bool) (k : Int) (bl : Nat) (s : Int) (g : Nat) (br : Nat) (R : List (Int × Int)) (W : World) (h : S.HasR W br R) :
    Calls Tryz.prog 164 #[.agg #[.int .i64 op, .string name, .int .i64 i, .int .i64 o, .int .i64 c, .bool b, .int .i64 k, .int .i64 (bl : Int), .int .i64 s, .func (.func g) #[] #[]], .pointer (some ⟨br, 0, none⟩)] W fun e W' => e = .returned (.tuple #[.int .u16 (lk k bl R).1, .int .i64 (lk k bl R).2]) ∧ Below W.heap.size W W' := by
  by_cases a0 : k = 0
  · subst a0
    rw [lk, if_pos rfl]
    exact look_none op name i o c b bl s _ rfl _ W
  have hk : (k == 0) = false := by simpa using a0
  have hb := bel_alloc W (.cells #[.int .i64 op, .string name, .int .i64 i, .int .i64 o, .int .i64 c, .bool b, .int .i64 k, .int .i64 (bl : Int), .int .i64 s, .func (.func g) #[] #[]] 180)
  have h' := h.below hb
  rw [lk, if_neg a0]
  by_cases a1 : R.length ≤ bl
  · rw [if_pos a1]
    exact look_at op name i o c b k bl s hk _ _ 0 3 W ((S.rat_under br R bl k (.inr (by omega)) _ h').mono fun e w' ⟨x, y⟩ => ⟨x, 0, y⟩)
  rw [if_neg a1]
  have hj : R.length - 1 - bl < R.length := by omega
  have hg : R[R.length - 1 - bl]? = some ((R[R.length - 1 - bl]?).getD (0, 0)) := by rw [List.getElem?_eq_getElem hj]; rfl
  generalize (R[R.length - 1 - bl]?).getD (0, 0) = q at *
  obtain ⟨q1, q2⟩ := q
  by_cases a2 : q1 = k
  · subst a2
    rw [if_pos rfl]
    exact look_at op name i o c b q1 bl s hk _ _ q2 0 W (S.rat_ok br R (R.length - 1 - bl) bl (by omega) q1 q2 hg _ h')
  · rw [if_neg a2]
    exact look_at op name i o c b k bl s hk _ _ 0 5 W (S.rat_kind br R (R.length - 1 - bl) bl (by omega) q1 q2 hg k a2 _ h')
/-- Do at a row whose function puts P, and leaves the return stack Q and the memory M'. -/
theorem do_row (op : Int) (name : ByteArray) (i o : Nat) (c : Int) (b : Bool) (k : Int) (bl s : Nat) (g : Nat) (hi : i ≤ 3) (hs : s ≤ 2)
    (hE : ∀ w, Calls Tryz.prog 88 #[.int .i64 op] w fun e w' => e = .returned (entV op name i o c b k bl s (.func (.func g) #[] #[])) ∧ Below w.heap.size w w')
    (hcl : ∀ (args : Array Value) (w : World), (callFunc g args).run Tryz.prog w = .ok (.enter g args) w)
    (bd br bm : Nat) (F : Nat → Prop) (D : List Int) (R : List (Int × Int)) (m : M.MS) (W : World) (h : PS W bd br bm F D R m)
    (P : List Int) (Q : List (Int × Int)) (m2 : M.MS)
    (hG : flt i o k bl s D R = 0 → ∀ (G : Nat → Prop) (w : World), PS w bd br bm G (rest D i) R m → Calls Tryz.prog g #[.agg #[.int .i64 op, .int .u16 (xAt D i 0), .int .u16 (xAt D i 1), .int .u16 (xAt D i 2), .int .u16 (lk k bl R).1, .pointer (some ⟨bd, 0, none⟩), .pointer (some ⟨br, 0, none⟩), .pointer (some ⟨bm, 0, none⟩)]] w fun e w' => e = .returned (.tuple #[]) ∧ PD w w' bd br bm G (rest D i ++ P) Q m2) :
    Calls Tryz.prog 121 #[.int .i64 op, .pointer (some ⟨bd, 0, none⟩), .pointer (some ⟨br, 0, none⟩), .pointer (some ⟨bm, 0, none⟩)] W fun e W' => e = .returned (.int .i64 (flt i o k bl s D R)) ∧ (flt i o k bl s D R ≠ 0 → Below W.heap.size W W') ∧ (flt i o k bl s D R = 0 → PD W W' bd br bm F (rest D i ++ P) Q m2) := by
  by_cases a0 : S.need D.length i o = 0
  · by_cases a1 : (lk k bl R).2 = 0
    · by_cases a2 : 128 < R.length + s
      · have hf : flt i o k bl s D R = 4 := by rw [flt, if_neg (by simpa using a0), if_neg (by simpa using a1), if_pos a2]
        refine (do_rover op name i o c b k bl s g hE bd br bm F D R m W h a0 (lk k bl R).1 (by omega) (by omega) (by omega) (fun w hw => ?_)).mono fun e W' ⟨x, y⟩ => ⟨by rw [hf]; exact x, fun _ => y, fun q => by rw [hf] at q; cases q⟩
        have := look_any op name i o c b k bl s g br R w hw
        rw [a1] at this; exact this
      · have hf : flt i o k bl s D R = 0 := by rw [flt, if_neg (by simpa using a0), if_neg (by simpa using a1), if_neg a2]
        have hD : i ≤ D.length := by
          by_cases c : i ≤ D.length
          · exact c
          · have : S.need D.length i o = 1 := by rw [S.need, if_pos (by omega)]
            omega
        refine (do_ok op name i o c b k bl s g hE bd br bm F D R m W h a0 (lk k bl R).1 (by omega) (by omega) (by omega) (fun w hw => ?_) hcl (rest D i) _ _ _ (fun w hw => take_any i hi bd D hD w hw) _ _ _ (hG hf)).mono fun e W' ⟨x, y⟩ => ⟨by rw [hf]; exact x, fun q => absurd hf q, fun _ => y⟩
        have := look_any op name i o c b k bl s g br R w hw
        rw [a1] at this; exact this
    · have hf : flt i o k bl s D R = (lk k bl R).2 := by rw [flt, if_neg (by simpa using a0), if_pos a1]
      refine (do_look op name i o c b k bl s g hE bd br bm F D R m W h a0 (lk k bl R).1 (lk k bl R).2 (by simpa using a1) (fun w hw => look_any op name i o c b k bl s g br R w hw)).mono fun e W' ⟨x, y⟩ => ⟨by rw [hf]; exact x, fun _ => y, fun q => by rw [hf] at q; exact absurd q a1⟩
  · have hf : flt i o k bl s D R = S.need D.length i o := by rw [flt, if_pos a0]
    exact (do_need op name i o c b k bl s g hE bd br bm F D R m W h _ rfl (by simpa using a0)).mono fun e W' ⟨x, y⟩ => ⟨by rw [hf]; exact x, fun _ => y, fun q => by rw [hf] at q; exact absurd q a0⟩
end Go.Proofs.YteldjmecomngeaaGreat.P
/-! What shuffles do. -/
namespace Go.Proofs.YteldjmecomngeaaGreat.P
open Go.RowKit
open Go.Proofs
set_option linter.unusedVariables false
set_option linter.unusedSimpArgs false
set_option maxHeartbeats 2000000
set_option maxRecDepth 100000
theorem do_nop (op x y z s : Int) (bd br bm : Nat) (F : Nat → Prop) (D : List Int) (R : List (Int × Int)) (m : M.MS) (W : World) (h : PS W bd br bm F D R m)  :
    Calls Tryz.prog 128 #[.agg #[.int .i64 op, .int .u16 x, .int .u16 y, .int .u16 z, .int .u16 s, .pointer (some ⟨bd, 0, none⟩), .pointer (some ⟨br, 0, none⟩), .pointer (some ⟨bm, 0, none⟩)]] W fun e W' => e = .returned (.tuple #[]) ∧ PD W W' bd br bm F (D) (R) (m) := by
  go_enter Tryz.func128, Tryz.ntmps128
  go_wp2
  go_end0
  exact ⟨rfl, h.same (bel_alloc W _)⟩
theorem do_drop (op x y z s : Int) (bd br bm : Nat) (F : Nat → Prop) (D : List Int) (R : List (Int × Int)) (m : M.MS) (W : World) (h : PS W bd br bm F D R m)  :
    Calls Tryz.prog 131 #[.agg #[.int .i64 op, .int .u16 x, .int .u16 y, .int .u16 z, .int .u16 s, .pointer (some ⟨bd, 0, none⟩), .pointer (some ⟨br, 0, none⟩), .pointer (some ⟨bm, 0, none⟩)]] W fun e W' => e = .returned (.tuple #[]) ∧ PD W W' bd br bm F (D) (R) (m) := by
  go_enter Tryz.func131, Tryz.ntmps131
  go_wp2
  go_end0
  exact ⟨rfl, h.same (bel_alloc W _)⟩
theorem do_drop2 (op x y z s : Int) (bd br bm : Nat) (F : Nat → Prop) (D : List Int) (R : List (Int × Int)) (m : M.MS) (W : World) (h : PS W bd br bm F D R m)  :
    Calls Tryz.prog 138 #[.agg #[.int .i64 op, .int .u16 x, .int .u16 y, .int .u16 z, .int .u16 s, .pointer (some ⟨bd, 0, none⟩), .pointer (some ⟨br, 0, none⟩), .pointer (some ⟨bm, 0, none⟩)]] W fun e W' => e = .returned (.tuple #[]) ∧ PD W W' bd br bm F (D) (R) (m) := by
  go_enter Tryz.func138, Tryz.ntmps138
  go_wp2
  go_end0
  exact ⟨rfl, h.same (bel_alloc W _)⟩
theorem do_dup (op x y z s : Int) (bd br bm : Nat) (F : Nat → Prop) (D : List Int) (R : List (Int × Int)) (m : M.MS) (W : World) (h : PS W bd br bm F D R m) (hl : D.length + 2 ≤ 256) :
    Calls Tryz.prog 129 #[.agg #[.int .i64 op, .int .u16 x, .int .u16 y, .int .u16 z, .int .u16 s, .pointer (some ⟨bd, 0, none⟩), .pointer (some ⟨br, 0, none⟩), .pointer (some ⟨bm, 0, none⟩)]] W fun e W' => e = .returned (.tuple #[]) ∧ PD W W' bd br bm F (D ++ [x, x]) (R) (m) := by
  have hb := (bel_alloc W (.cells #[.int .i64 op, .int .u16 x, .int .u16 y, .int .u16 z, .int .u16 s, .pointer (some ⟨bd, 0, none⟩), .pointer (some ⟨br, 0, none⟩), .pointer (some ⟨bm, 0, none⟩)] 213)).alloc (bel_alloc W (.cells #[.int .i64 op, .int .u16 x, .int .u16 y, .int .u16 z, .int .u16 s, .pointer (some ⟨bd, 0, none⟩), .pointer (some ⟨br, 0, none⟩), .pointer (some ⟨bm, 0, none⟩)] 213)).size (.cells #[.int .u16 x, .int .u16 x] 23)
  have hs : S.Sl S.eU 1 ((W.alloc (.cells #[.int .i64 op, .int .u16 x, .int .u16 y, .int .u16 z, .int .u16 s, .pointer (some ⟨bd, 0, none⟩), .pointer (some ⟨br, 0, none⟩), .pointer (some ⟨bm, 0, none⟩)] 213)).alloc (.cells #[.int .u16 x, .int .u16 x] 23)) (some ⟨W.heap.size + 1, 0, none⟩) [x, x] := sl_block S.hU _ _ 23 _ (heap_alloc2_new W _ _)
  have hp := put_any op x y z s bd br bm D [x, x] (some ⟨W.heap.size + 1, 0, none⟩) 2 _ (h.d.below hb) hs hl
  simp only [List.length_cons, List.length_nil, Nat.reduceAdd] at hp
  clear hb hs
  go_enter Tryz.func129, Tryz.ntmps129
  go_wp2_with fail
  refine hp.mono ?_
  rintro e w1 ⟨rfl, h1, h2⟩
  go_wp2
  go_end0
  exact ⟨rfl, h.put h1 (at_alloc _ (at_alloc _ h2))⟩
theorem do_swap (op x y z s : Int) (bd br bm : Nat) (F : Nat → Prop) (D : List Int) (R : List (Int × Int)) (m : M.MS) (W : World) (h : PS W bd br bm F D R m) (hl : D.length + 2 ≤ 256) :
    Calls Tryz.prog 132 #[.agg #[.int .i64 op, .int .u16 x, .int .u16 y, .int .u16 z, .int .u16 s, .pointer (some ⟨bd, 0, none⟩), .pointer (some ⟨br, 0, none⟩), .pointer (some ⟨bm, 0, none⟩)]] W fun e W' => e = .returned (.tuple #[]) ∧ PD W W' bd br bm F (D ++ [y, x]) (R) (m) := by
  have hb := (bel_alloc W (.cells #[.int .i64 op, .int .u16 x, .int .u16 y, .int .u16 z, .int .u16 s, .pointer (some ⟨bd, 0, none⟩), .pointer (some ⟨br, 0, none⟩), .pointer (some ⟨bm, 0, none⟩)] 213)).alloc (bel_alloc W (.cells #[.int .i64 op, .int .u16 x, .int .u16 y, .int .u16 z, .int .u16 s, .pointer (some ⟨bd, 0, none⟩), .pointer (some ⟨br, 0, none⟩), .pointer (some ⟨bm, 0, none⟩)] 213)).size (.cells #[.int .u16 y, .int .u16 x] 23)
  have hs : S.Sl S.eU 1 ((W.alloc (.cells #[.int .i64 op, .int .u16 x, .int .u16 y, .int .u16 z, .int .u16 s, .pointer (some ⟨bd, 0, none⟩), .pointer (some ⟨br, 0, none⟩), .pointer (some ⟨bm, 0, none⟩)] 213)).alloc (.cells #[.int .u16 y, .int .u16 x] 23)) (some ⟨W.heap.size + 1, 0, none⟩) [y, x] := sl_block S.hU _ _ 23 _ (heap_alloc2_new W _ _)
  have hp := put_any op x y z s bd br bm D [y, x] (some ⟨W.heap.size + 1, 0, none⟩) 2 _ (h.d.below hb) hs hl
  simp only [List.length_cons, List.length_nil, Nat.reduceAdd] at hp
  clear hb hs
  go_enter Tryz.func132, Tryz.ntmps132
  go_wp2_with fail
  refine hp.mono ?_
  rintro e w1 ⟨rfl, h1, h2⟩
  go_wp2
  go_end0
  exact ⟨rfl, h.put h1 (at_alloc _ (at_alloc _ h2))⟩
theorem do_over (op x y z s : Int) (bd br bm : Nat) (F : Nat → Prop) (D : List Int) (R : List (Int × Int)) (m : M.MS) (W : World) (h : PS W bd br bm F D R m) (hl : D.length + 3 ≤ 256) :
    Calls Tryz.prog 133 #[.agg #[.int .i64 op, .int .u16 x, .int .u16 y, .int .u16 z, .int .u16 s, .pointer (some ⟨bd, 0, none⟩), .pointer (some ⟨br, 0, none⟩), .pointer (some ⟨bm, 0, none⟩)]] W fun e W' => e = .returned (.tuple #[]) ∧ PD W W' bd br bm F (D ++ [x, y, x]) (R) (m) := by
  have hb := (bel_alloc W (.cells #[.int .i64 op, .int .u16 x, .int .u16 y, .int .u16 z, .int .u16 s, .pointer (some ⟨bd, 0, none⟩), .pointer (some ⟨br, 0, none⟩), .pointer (some ⟨bm, 0, none⟩)] 213)).alloc (bel_alloc W (.cells #[.int .i64 op, .int .u16 x, .int .u16 y, .int .u16 z, .int .u16 s, .pointer (some ⟨bd, 0, none⟩), .pointer (some ⟨br, 0, none⟩), .pointer (some ⟨bm, 0, none⟩)] 213)).size (.cells #[.int .u16 x, .int .u16 y, .int .u16 x] 23)
  have hs : S.Sl S.eU 1 ((W.alloc (.cells #[.int .i64 op, .int .u16 x, .int .u16 y, .int .u16 z, .int .u16 s, .pointer (some ⟨bd, 0, none⟩), .pointer (some ⟨br, 0, none⟩), .pointer (some ⟨bm, 0, none⟩)] 213)).alloc (.cells #[.int .u16 x, .int .u16 y, .int .u16 x] 23)) (some ⟨W.heap.size + 1, 0, none⟩) [x, y, x] := sl_block S.hU _ _ 23 _ (heap_alloc2_new W _ _)
  have hp := put_any op x y z s bd br bm D [x, y, x] (some ⟨W.heap.size + 1, 0, none⟩) 3 _ (h.d.below hb) hs hl
  simp only [List.length_cons, List.length_nil, Nat.reduceAdd] at hp
  clear hb hs
  go_enter Tryz.func133, Tryz.ntmps133
  go_wp2_with fail
  refine hp.mono ?_
  rintro e w1 ⟨rfl, h1, h2⟩
  go_wp2
  go_end0
  exact ⟨rfl, h.put h1 (at_alloc _ (at_alloc _ h2))⟩
theorem do_rot (op x y z s : Int) (bd br bm : Nat) (F : Nat → Prop) (D : List Int) (R : List (Int × Int)) (m : M.MS) (W : World) (h : PS W bd br bm F D R m) (hl : D.length + 3 ≤ 256) :
    Calls Tryz.prog 134 #[.agg #[.int .i64 op, .int .u16 x, .int .u16 y, .int .u16 z, .int .u16 s, .pointer (some ⟨bd, 0, none⟩), .pointer (some ⟨br, 0, none⟩), .pointer (some ⟨bm, 0, none⟩)]] W fun e W' => e = .returned (.tuple #[]) ∧ PD W W' bd br bm F (D ++ [y, z, x]) (R) (m) := by
  have hb := (bel_alloc W (.cells #[.int .i64 op, .int .u16 x, .int .u16 y, .int .u16 z, .int .u16 s, .pointer (some ⟨bd, 0, none⟩), .pointer (some ⟨br, 0, none⟩), .pointer (some ⟨bm, 0, none⟩)] 213)).alloc (bel_alloc W (.cells #[.int .i64 op, .int .u16 x, .int .u16 y, .int .u16 z, .int .u16 s, .pointer (some ⟨bd, 0, none⟩), .pointer (some ⟨br, 0, none⟩), .pointer (some ⟨bm, 0, none⟩)] 213)).size (.cells #[.int .u16 y, .int .u16 z, .int .u16 x] 23)
  have hs : S.Sl S.eU 1 ((W.alloc (.cells #[.int .i64 op, .int .u16 x, .int .u16 y, .int .u16 z, .int .u16 s, .pointer (some ⟨bd, 0, none⟩), .pointer (some ⟨br, 0, none⟩), .pointer (some ⟨bm, 0, none⟩)] 213)).alloc (.cells #[.int .u16 y, .int .u16 z, .int .u16 x] 23)) (some ⟨W.heap.size + 1, 0, none⟩) [y, z, x] := sl_block S.hU _ _ 23 _ (heap_alloc2_new W _ _)
  have hp := put_any op x y z s bd br bm D [y, z, x] (some ⟨W.heap.size + 1, 0, none⟩) 3 _ (h.d.below hb) hs hl
  simp only [List.length_cons, List.length_nil, Nat.reduceAdd] at hp
  clear hb hs
  go_enter Tryz.func134, Tryz.ntmps134
  go_wp2_with fail
  refine hp.mono ?_
  rintro e w1 ⟨rfl, h1, h2⟩
  go_wp2
  go_end0
  exact ⟨rfl, h.put h1 (at_alloc _ (at_alloc _ h2))⟩
theorem do_nip (op x y z s : Int) (bd br bm : Nat) (F : Nat → Prop) (D : List Int) (R : List (Int × Int)) (m : M.MS) (W : World) (h : PS W bd br bm F D R m) (hl : D.length + 1 ≤ 256) :
    Calls Tryz.prog 135 #[.agg #[.int .i64 op, .int .u16 x, .int .u16 y, .int .u16 z, .int .u16 s, .pointer (some ⟨bd, 0, none⟩), .pointer (some ⟨br, 0, none⟩), .pointer (some ⟨bm, 0, none⟩)]] W fun e W' => e = .returned (.tuple #[]) ∧ PD W W' bd br bm F (D ++ [y]) (R) (m) := by
  have hb := (bel_alloc W (.cells #[.int .i64 op, .int .u16 x, .int .u16 y, .int .u16 z, .int .u16 s, .pointer (some ⟨bd, 0, none⟩), .pointer (some ⟨br, 0, none⟩), .pointer (some ⟨bm, 0, none⟩)] 213)).alloc (bel_alloc W (.cells #[.int .i64 op, .int .u16 x, .int .u16 y, .int .u16 z, .int .u16 s, .pointer (some ⟨bd, 0, none⟩), .pointer (some ⟨br, 0, none⟩), .pointer (some ⟨bm, 0, none⟩)] 213)).size (.cells #[.int .u16 y] 23)
  have hs : S.Sl S.eU 1 ((W.alloc (.cells #[.int .i64 op, .int .u16 x, .int .u16 y, .int .u16 z, .int .u16 s, .pointer (some ⟨bd, 0, none⟩), .pointer (some ⟨br, 0, none⟩), .pointer (some ⟨bm, 0, none⟩)] 213)).alloc (.cells #[.int .u16 y] 23)) (some ⟨W.heap.size + 1, 0, none⟩) [y] := sl_block S.hU _ _ 23 _ (heap_alloc2_new W _ _)
  have hp := put_any op x y z s bd br bm D [y] (some ⟨W.heap.size + 1, 0, none⟩) 1 _ (h.d.below hb) hs hl
  simp only [List.length_cons, List.length_nil, Nat.reduceAdd] at hp
  clear hb hs
  go_enter Tryz.func135, Tryz.ntmps135
  go_wp2_with fail
  refine hp.mono ?_
  rintro e w1 ⟨rfl, h1, h2⟩
  go_wp2
  go_end0
  exact ⟨rfl, h.put h1 (at_alloc _ (at_alloc _ h2))⟩
theorem do_tuck (op x y z s : Int) (bd br bm : Nat) (F : Nat → Prop) (D : List Int) (R : List (Int × Int)) (m : M.MS) (W : World) (h : PS W bd br bm F D R m) (hl : D.length + 3 ≤ 256) :
    Calls Tryz.prog 136 #[.agg #[.int .i64 op, .int .u16 x, .int .u16 y, .int .u16 z, .int .u16 s, .pointer (some ⟨bd, 0, none⟩), .pointer (some ⟨br, 0, none⟩), .pointer (some ⟨bm, 0, none⟩)]] W fun e W' => e = .returned (.tuple #[]) ∧ PD W W' bd br bm F (D ++ [y, x, y]) (R) (m) := by
  have hb := (bel_alloc W (.cells #[.int .i64 op, .int .u16 x, .int .u16 y, .int .u16 z, .int .u16 s, .pointer (some ⟨bd, 0, none⟩), .pointer (some ⟨br, 0, none⟩), .pointer (some ⟨bm, 0, none⟩)] 213)).alloc (bel_alloc W (.cells #[.int .i64 op, .int .u16 x, .int .u16 y, .int .u16 z, .int .u16 s, .pointer (some ⟨bd, 0, none⟩), .pointer (some ⟨br, 0, none⟩), .pointer (some ⟨bm, 0, none⟩)] 213)).size (.cells #[.int .u16 y, .int .u16 x, .int .u16 y] 23)
  have hs : S.Sl S.eU 1 ((W.alloc (.cells #[.int .i64 op, .int .u16 x, .int .u16 y, .int .u16 z, .int .u16 s, .pointer (some ⟨bd, 0, none⟩), .pointer (some ⟨br, 0, none⟩), .pointer (some ⟨bm, 0, none⟩)] 213)).alloc (.cells #[.int .u16 y, .int .u16 x, .int .u16 y] 23)) (some ⟨W.heap.size + 1, 0, none⟩) [y, x, y] := sl_block S.hU _ _ 23 _ (heap_alloc2_new W _ _)
  have hp := put_any op x y z s bd br bm D [y, x, y] (some ⟨W.heap.size + 1, 0, none⟩) 3 _ (h.d.below hb) hs hl
  simp only [List.length_cons, List.length_nil, Nat.reduceAdd] at hp
  clear hb hs
  go_enter Tryz.func136, Tryz.ntmps136
  go_wp2_with fail
  refine hp.mono ?_
  rintro e w1 ⟨rfl, h1, h2⟩
  go_wp2
  go_end0
  exact ⟨rfl, h.put h1 (at_alloc _ (at_alloc _ h2))⟩
theorem do_dup2 (op x y z s : Int) (bd br bm : Nat) (F : Nat → Prop) (D : List Int) (R : List (Int × Int)) (m : M.MS) (W : World) (h : PS W bd br bm F D R m) (hl : D.length + 4 ≤ 256) :
    Calls Tryz.prog 137 #[.agg #[.int .i64 op, .int .u16 x, .int .u16 y, .int .u16 z, .int .u16 s, .pointer (some ⟨bd, 0, none⟩), .pointer (some ⟨br, 0, none⟩), .pointer (some ⟨bm, 0, none⟩)]] W fun e W' => e = .returned (.tuple #[]) ∧ PD W W' bd br bm F (D ++ [x, y, x, y]) (R) (m) := by
  have hb := (bel_alloc W (.cells #[.int .i64 op, .int .u16 x, .int .u16 y, .int .u16 z, .int .u16 s, .pointer (some ⟨bd, 0, none⟩), .pointer (some ⟨br, 0, none⟩), .pointer (some ⟨bm, 0, none⟩)] 213)).alloc (bel_alloc W (.cells #[.int .i64 op, .int .u16 x, .int .u16 y, .int .u16 z, .int .u16 s, .pointer (some ⟨bd, 0, none⟩), .pointer (some ⟨br, 0, none⟩), .pointer (some ⟨bm, 0, none⟩)] 213)).size (.cells #[.int .u16 x, .int .u16 y, .int .u16 x, .int .u16 y] 23)
  have hs : S.Sl S.eU 1 ((W.alloc (.cells #[.int .i64 op, .int .u16 x, .int .u16 y, .int .u16 z, .int .u16 s, .pointer (some ⟨bd, 0, none⟩), .pointer (some ⟨br, 0, none⟩), .pointer (some ⟨bm, 0, none⟩)] 213)).alloc (.cells #[.int .u16 x, .int .u16 y, .int .u16 x, .int .u16 y] 23)) (some ⟨W.heap.size + 1, 0, none⟩) [x, y, x, y] := sl_block S.hU _ _ 23 _ (heap_alloc2_new W _ _)
  have hp := put_any op x y z s bd br bm D [x, y, x, y] (some ⟨W.heap.size + 1, 0, none⟩) 4 _ (h.d.below hb) hs hl
  simp only [List.length_cons, List.length_nil, Nat.reduceAdd] at hp
  clear hb hs
  go_enter Tryz.func137, Tryz.ntmps137
  go_wp2_with fail
  refine hp.mono ?_
  rintro e w1 ⟨rfl, h1, h2⟩
  go_wp2
  go_end0
  exact ⟨rfl, h.put h1 (at_alloc _ (at_alloc _ h2))⟩
theorem do_peek (op x y z s : Int) (bd br bm : Nat) (F : Nat → Prop) (D : List Int) (R : List (Int × Int)) (m : M.MS) (W : World) (h : PS W bd br bm F D R m) (hl : D.length + 1 ≤ 256) :
    Calls Tryz.prog 170 #[.agg #[.int .i64 op, .int .u16 x, .int .u16 y, .int .u16 z, .int .u16 s, .pointer (some ⟨bd, 0, none⟩), .pointer (some ⟨br, 0, none⟩), .pointer (some ⟨bm, 0, none⟩)]] W fun e W' => e = .returned (.tuple #[]) ∧ PD W W' bd br bm F (D ++ [s]) (R) (m) := by
  have hb := (bel_alloc W (.cells #[.int .i64 op, .int .u16 x, .int .u16 y, .int .u16 z, .int .u16 s, .pointer (some ⟨bd, 0, none⟩), .pointer (some ⟨br, 0, none⟩), .pointer (some ⟨bm, 0, none⟩)] 213)).alloc (bel_alloc W (.cells #[.int .i64 op, .int .u16 x, .int .u16 y, .int .u16 z, .int .u16 s, .pointer (some ⟨bd, 0, none⟩), .pointer (some ⟨br, 0, none⟩), .pointer (some ⟨bm, 0, none⟩)] 213)).size (.cells #[.int .u16 s] 23)
  have hs : S.Sl S.eU 1 ((W.alloc (.cells #[.int .i64 op, .int .u16 x, .int .u16 y, .int .u16 z, .int .u16 s, .pointer (some ⟨bd, 0, none⟩), .pointer (some ⟨br, 0, none⟩), .pointer (some ⟨bm, 0, none⟩)] 213)).alloc (.cells #[.int .u16 s] 23)) (some ⟨W.heap.size + 1, 0, none⟩) [s] := sl_block S.hU _ _ 23 _ (heap_alloc2_new W _ _)
  have hp := put_any op x y z s bd br bm D [s] (some ⟨W.heap.size + 1, 0, none⟩) 1 _ (h.d.below hb) hs hl
  simp only [List.length_cons, List.length_nil, Nat.reduceAdd] at hp
  clear hb hs
  go_enter Tryz.func170, Tryz.ntmps170
  go_wp2_with fail
  refine hp.mono ?_
  rintro e w1 ⟨rfl, h1, h2⟩
  go_wp2
  go_end0
  exact ⟨rfl, h.put h1 (at_alloc _ (at_alloc _ h2))⟩
theorem do_do (op x y z s : Int) (bd br bm : Nat) (F : Nat → Prop) (D : List Int) (R : List (Int × Int)) (m : M.MS) (W : World) (h : PS W bd br bm F D R m) (hl : R.length + 2 ≤ 128) :
    Calls Tryz.prog 126 #[.agg #[.int .i64 op, .int .u16 x, .int .u16 y, .int .u16 z, .int .u16 s, .pointer (some ⟨bd, 0, none⟩), .pointer (some ⟨br, 0, none⟩), .pointer (some ⟨bm, 0, none⟩)]] W fun e W' => e = .returned (.tuple #[]) ∧ PD W W' bd br bm F (D) (R ++ [(2, x), (3, y)]) (m) := by
  have hb := (bel_alloc W (.cells #[.int .i64 op, .int .u16 x, .int .u16 y, .int .u16 z, .int .u16 s, .pointer (some ⟨bd, 0, none⟩), .pointer (some ⟨br, 0, none⟩), .pointer (some ⟨bm, 0, none⟩)] 213)).alloc (bel_alloc W (.cells #[.int .i64 op, .int .u16 x, .int .u16 y, .int .u16 z, .int .u16 s, .pointer (some ⟨bd, 0, none⟩), .pointer (some ⟨br, 0, none⟩), .pointer (some ⟨bm, 0, none⟩)] 213)).size (.cells #[.int .i64 2, .int .u16 x, .int .i64 3, .int .u16 y] 101)
  have hs : S.Sl S.eK 2 ((W.alloc (.cells #[.int .i64 op, .int .u16 x, .int .u16 y, .int .u16 z, .int .u16 s, .pointer (some ⟨bd, 0, none⟩), .pointer (some ⟨br, 0, none⟩), .pointer (some ⟨bm, 0, none⟩)] 213)).alloc (.cells #[.int .i64 2, .int .u16 x, .int .i64 3, .int .u16 y] 101)) (some ⟨W.heap.size + 1, 0, none⟩) [(2, x), (3, y)] := sl_block S.hK _ _ 101 _ (heap_alloc2_new W _ _)
  have hp := save_any op x y z s bd br bm R [(2, x), (3, y)] (some ⟨W.heap.size + 1, 0, none⟩) 2 _ (h.r.below hb) hs hl
  simp only [List.length_cons, List.length_nil, Nat.reduceAdd] at hp
  clear hb hs
  go_enter Tryz.func126, Tryz.ntmps126
  go_wp2_with fail
  refine hp.mono ?_
  rintro e w1 ⟨rfl, h1, h2⟩
  go_wp2
  go_end0
  exact ⟨rfl, h.save h1 (at_alloc _ (at_alloc _ h2))⟩
theorem do_toR (op x y z s : Int) (bd br bm : Nat) (F : Nat → Prop) (D : List Int) (R : List (Int × Int)) (m : M.MS) (W : World) (h : PS W bd br bm F D R m) (hl : R.length + 1 ≤ 128) :
    Calls Tryz.prog 148 #[.agg #[.int .i64 op, .int .u16 x, .int .u16 y, .int .u16 z, .int .u16 s, .pointer (some ⟨bd, 0, none⟩), .pointer (some ⟨br, 0, none⟩), .pointer (some ⟨bm, 0, none⟩)]] W fun e W' => e = .returned (.tuple #[]) ∧ PD W W' bd br bm F (D) (R ++ [(4, x)]) (m) := by
  have hb := (bel_alloc W (.cells #[.int .i64 op, .int .u16 x, .int .u16 y, .int .u16 z, .int .u16 s, .pointer (some ⟨bd, 0, none⟩), .pointer (some ⟨br, 0, none⟩), .pointer (some ⟨bm, 0, none⟩)] 213)).alloc (bel_alloc W (.cells #[.int .i64 op, .int .u16 x, .int .u16 y, .int .u16 z, .int .u16 s, .pointer (some ⟨bd, 0, none⟩), .pointer (some ⟨br, 0, none⟩), .pointer (some ⟨bm, 0, none⟩)] 213)).size (.cells #[.int .i64 4, .int .u16 x] 101)
  have hs : S.Sl S.eK 2 ((W.alloc (.cells #[.int .i64 op, .int .u16 x, .int .u16 y, .int .u16 z, .int .u16 s, .pointer (some ⟨bd, 0, none⟩), .pointer (some ⟨br, 0, none⟩), .pointer (some ⟨bm, 0, none⟩)] 213)).alloc (.cells #[.int .i64 4, .int .u16 x] 101)) (some ⟨W.heap.size + 1, 0, none⟩) [(4, x)] := sl_block S.hK _ _ 101 _ (heap_alloc2_new W _ _)
  have hp := save_any op x y z s bd br bm R [(4, x)] (some ⟨W.heap.size + 1, 0, none⟩) 1 _ (h.r.below hb) hs hl
  simp only [List.length_cons, List.length_nil, Nat.reduceAdd] at hp
  clear hb hs
  go_enter Tryz.func148, Tryz.ntmps148
  go_wp2_with fail
  refine hp.mono ?_
  rintro e w1 ⟨rfl, h1, h2⟩
  go_wp2
  go_end0
  exact ⟨rfl, h.save h1 (at_alloc _ (at_alloc _ h2))⟩
theorem do_un (op x y z s : Int) (bd br bm : Nat) (F : Nat → Prop) (D : List Int) (R : List (Int × Int)) (m : M.MS) (W : World) (h : PS W bd br bm F D R m) (hx : C.C x) (hl : D.length + 1 ≤ 256) :
    Calls Tryz.prog 168 #[.agg #[.int .i64 op, .int .u16 x, .int .u16 y, .int .u16 z, .int .u16 s, .pointer (some ⟨bd, 0, none⟩), .pointer (some ⟨br, 0, none⟩), .pointer (some ⟨bm, 0, none⟩)]] W fun e W' => e = .returned (.tuple #[]) ∧ PD W W' bd br bm F (D ++ [C.un op x]) (R) (m) := by
  have hn := C.unary_any op x hx (W.alloc (.cells #[.int .i64 op, .int .u16 x, .int .u16 y, .int .u16 z, .int .u16 s, .pointer (some ⟨bd, 0, none⟩), .pointer (some ⟨br, 0, none⟩), .pointer (some ⟨bm, 0, none⟩)] 213))
  generalize C.un op x = v at *
  have hb := (bel_alloc W (.cells #[.int .i64 op, .int .u16 x, .int .u16 y, .int .u16 z, .int .u16 s, .pointer (some ⟨bd, 0, none⟩), .pointer (some ⟨br, 0, none⟩), .pointer (some ⟨bm, 0, none⟩)] 213)).alloc (bel_alloc W (.cells #[.int .i64 op, .int .u16 x, .int .u16 y, .int .u16 z, .int .u16 s, .pointer (some ⟨bd, 0, none⟩), .pointer (some ⟨br, 0, none⟩), .pointer (some ⟨bm, 0, none⟩)] 213)).size (.cells #[.int .u16 v] 23)
  have hs : S.Sl S.eU 1 ((W.alloc (.cells #[.int .i64 op, .int .u16 x, .int .u16 y, .int .u16 z, .int .u16 s, .pointer (some ⟨bd, 0, none⟩), .pointer (some ⟨br, 0, none⟩), .pointer (some ⟨bm, 0, none⟩)] 213)).alloc (.cells #[.int .u16 v] 23)) (some ⟨W.heap.size + 1, 0, none⟩) [v] := sl_block S.hU _ _ 23 _ (heap_alloc2_new W _ _)
  have hp := put_any op x y z s bd br bm D [v] (some ⟨W.heap.size + 1, 0, none⟩) 1 _ (h.d.below hb) hs hl
  simp only [List.length_cons, List.length_nil, Nat.reduceAdd] at hp
  clear hb hs
  go_enter Tryz.func168, Tryz.ntmps168
  go_wp2_with fail
  refine hn.mono ?_
  rintro e w1 ⟨rfl, rfl⟩
  go_wp2_with fail
  refine hp.mono ?_
  rintro e w1 ⟨rfl, h1, h2⟩
  go_wp2
  go_end0
  exact ⟨rfl, h.put h1 (at_alloc _ (at_alloc _ h2))⟩
theorem do_bin (op x y z s : Int) (bd br bm : Nat) (F : Nat → Prop) (D : List Int) (R : List (Int × Int)) (m : M.MS) (W : World) (h : PS W bd br bm F D R m) (hx : C.C x) (hy : C.C y) (hl : D.length + 1 ≤ 256) :
    Calls Tryz.prog 166 #[.agg #[.int .i64 op, .int .u16 x, .int .u16 y, .int .u16 z, .int .u16 s, .pointer (some ⟨bd, 0, none⟩), .pointer (some ⟨br, 0, none⟩), .pointer (some ⟨bm, 0, none⟩)]] W fun e W' => e = .returned (.tuple #[]) ∧ PD W W' bd br bm F (D ++ [C.bi op x y]) (R) (m) := by
  have hn := C.binary_any op x y hx hy (W.alloc (.cells #[.int .i64 op, .int .u16 x, .int .u16 y, .int .u16 z, .int .u16 s, .pointer (some ⟨bd, 0, none⟩), .pointer (some ⟨br, 0, none⟩), .pointer (some ⟨bm, 0, none⟩)] 213))
  generalize C.bi op x y = v at *
  have hb := (bel_alloc W (.cells #[.int .i64 op, .int .u16 x, .int .u16 y, .int .u16 z, .int .u16 s, .pointer (some ⟨bd, 0, none⟩), .pointer (some ⟨br, 0, none⟩), .pointer (some ⟨bm, 0, none⟩)] 213)).alloc (bel_alloc W (.cells #[.int .i64 op, .int .u16 x, .int .u16 y, .int .u16 z, .int .u16 s, .pointer (some ⟨bd, 0, none⟩), .pointer (some ⟨br, 0, none⟩), .pointer (some ⟨bm, 0, none⟩)] 213)).size (.cells #[.int .u16 v] 23)
  have hs : S.Sl S.eU 1 ((W.alloc (.cells #[.int .i64 op, .int .u16 x, .int .u16 y, .int .u16 z, .int .u16 s, .pointer (some ⟨bd, 0, none⟩), .pointer (some ⟨br, 0, none⟩), .pointer (some ⟨bm, 0, none⟩)] 213)).alloc (.cells #[.int .u16 v] 23)) (some ⟨W.heap.size + 1, 0, none⟩) [v] := sl_block S.hU _ _ 23 _ (heap_alloc2_new W _ _)
  have hp := put_any op x y z s bd br bm D [v] (some ⟨W.heap.size + 1, 0, none⟩) 1 _ (h.d.below hb) hs hl
  simp only [List.length_cons, List.length_nil, Nat.reduceAdd] at hp
  clear hb hs
  go_enter Tryz.func166, Tryz.ntmps166
  go_wp2_with fail
  refine hn.mono ?_
  rintro e w1 ⟨rfl, rfl⟩
  go_wp2_with fail
  refine hp.mono ?_
  rintro e w1 ⟨rfl, h1, h2⟩
  go_wp2
  go_end0
  exact ⟨rfl, h.put h1 (at_alloc _ (at_alloc _ h2))⟩
end Go.Proofs.YteldjmecomngeaaGreat.P
/-! What those that write the memory do. -/
namespace Go.Proofs.YteldjmecomngeaaGreat.P
open Go.RowKit
open Go.Proofs
set_option linter.unusedVariables false
set_option linter.unusedSimpArgs false
set_option maxHeartbeats 2000000
set_option maxRecDepth 100000
theorem b8_conv (v : Int) : IntKind.u8.wrap v = M.bt (M.b8 v) := by rw [M.bt_b8]; simp [IntKind.wrap, IntKind.bits, IntKind.signed]
theorem do_store (op x y z s : Int) (bd br bm : Nat) (F : Nat → Prop) (D : List Int) (R : List (Int × Int)) (m : M.MS) (W : World) (h : PS W bd br bm F D R m) (hx : C.C x) (hy : C.C y)(ht : m.tones.length ≤ 999000) :
    Calls Tryz.prog 143 #[.agg #[.int .i64 op, .int .u16 x, .int .u16 y, .int .u16 z, .int .u16 s, .pointer (some ⟨bd, 0, none⟩), .pointer (some ⟨br, 0, none⟩), .pointer (some ⟨bm, 0, none⟩)]] W fun e W' => e = .returned (.tuple #[]) ∧ PD W W' bd br bm F (D) (R) (M.sc m y x) := by
  have hb := bel_alloc W (.cells #[.int .i64 op, .int .u16 x, .int .u16 y, .int .u16 z, .int .u16 s, .pointer (some ⟨bd, 0, none⟩), .pointer (some ⟨br, 0, none⟩), .pointer (some ⟨bm, 0, none⟩)] 213)
  have hk := h.below hb
  have hp := M.setCell_any bm y hy.1 hy.2 x hx.1 hx.2 _ hk.m (by omega)
  go_enter Tryz.func143, Tryz.ntmps143
  go_wp2_with fail
  refine hp.mono ?_
  rintro e w1 ⟨rfl, h1⟩
  go_wp2
  go_end0
  exact ⟨rfl, PD.ahead (S.lt_of h.d.1) (S.lt_of h.r.1) hb (hk.mem h1)⟩
theorem do_cstore (op x y z s : Int) (bd br bm : Nat) (F : Nat → Prop) (D : List Int) (R : List (Int × Int)) (m : M.MS) (W : World) (h : PS W bd br bm F D R m) (hx : C.C x) (hy : C.C y)(ht : m.tones.length ≤ 999000) :
    Calls Tryz.prog 146 #[.agg #[.int .i64 op, .int .u16 x, .int .u16 y, .int .u16 z, .int .u16 s, .pointer (some ⟨bd, 0, none⟩), .pointer (some ⟨br, 0, none⟩), .pointer (some ⟨bm, 0, none⟩)]] W fun e W' => e = .returned (.tuple #[]) ∧ PD W W' bd br bm F (D) (R) (M.st m y (M.b8 x)) := by
  have hb := bel_alloc W (.cells #[.int .i64 op, .int .u16 x, .int .u16 y, .int .u16 z, .int .u16 s, .pointer (some ⟨bd, 0, none⟩), .pointer (some ⟨br, 0, none⟩), .pointer (some ⟨bm, 0, none⟩)] 213)
  have hk := h.below hb
  have hv := b8_conv x
  have hp := M.store_any bm y hy.1 hy.2 (M.b8 x) _ hk.m (by omega)
  go_enter Tryz.func146, Tryz.ntmps146
  go_wp2_with fail
  refine hp.mono ?_
  rintro e w1 ⟨rfl, h1⟩
  go_wp2
  go_end0
  exact ⟨rfl, PD.ahead (S.lt_of h.d.1) (S.lt_of h.r.1) hb (hk.mem h1)⟩
theorem do_plot (op x y z s : Int) (bd br bm : Nat) (F : Nat → Prop) (D : List Int) (R : List (Int × Int)) (m : M.MS) (W : World) (h : PS W bd br bm F D R m) (hx : C.C x) (hy : C.C y)(ht : m.tones.length ≤ 999000) :
    Calls Tryz.prog 151 #[.agg #[.int .i64 op, .int .u16 x, .int .u16 y, .int .u16 z, .int .u16 s, .pointer (some ⟨bd, 0, none⟩), .pointer (some ⟨br, 0, none⟩), .pointer (some ⟨bm, 0, none⟩)]] W fun e W' => e = .returned (.tuple #[]) ∧ PD W W' bd br bm F (D) (R) (M.plt m x y z) := by
  have hb := bel_alloc W (.cells #[.int .i64 op, .int .u16 x, .int .u16 y, .int .u16 z, .int .u16 s, .pointer (some ⟨bd, 0, none⟩), .pointer (some ⟨br, 0, none⟩), .pointer (some ⟨bm, 0, none⟩)] 213)
  have hk := h.below hb
  have hp := M.plot_any bm x y z hx.1 hx.2 hy.1 hy.2 _ hk.m (by omega)
  go_enter Tryz.func151, Tryz.ntmps151
  go_wp2_with fail
  refine hp.mono ?_
  rintro e w1 ⟨rfl, h1⟩
  go_wp2
  go_end0
  exact ⟨rfl, PD.ahead (S.lt_of h.d.1) (S.lt_of h.r.1) hb (hk.mem h1)⟩
theorem do_tone (op x y z s : Int) (bd br bm : Nat) (F : Nat → Prop) (D : List Int) (R : List (Int × Int)) (m : M.MS) (W : World) (h : PS W bd br bm F D R m) (hx : C.C x) (hy : C.C y)(ht : m.tones.length ≤ 999000) :
    Calls Tryz.prog 155 #[.agg #[.int .i64 op, .int .u16 x, .int .u16 y, .int .u16 z, .int .u16 s, .pointer (some ⟨bd, 0, none⟩), .pointer (some ⟨br, 0, none⟩), .pointer (some ⟨bm, 0, none⟩)]] W fun e W' => e = .returned (.tuple #[]) ∧ PD W W' bd br bm F (D) (R) (M.st (M.sc m 65284 x) 65286 (M.b8 y)) := by
  have hb := bel_alloc W (.cells #[.int .i64 op, .int .u16 x, .int .u16 y, .int .u16 z, .int .u16 s, .pointer (some ⟨bd, 0, none⟩), .pointer (some ⟨br, 0, none⟩), .pointer (some ⟨bm, 0, none⟩)] 213)
  have hk := h.below hb
  have hv := b8_conv y
  have hp := M.play_any bm x hx.1 hx.2 (M.b8 y) _ hk.m (by omega)
  go_enter Tryz.func155, Tryz.ntmps155
  go_wp2_with fail
  refine hp.mono ?_
  rintro e w1 ⟨rfl, h1⟩
  go_wp2
  go_end0
  exact ⟨rfl, PD.ahead (S.lt_of h.d.1) (S.lt_of h.r.1) hb (hk.mem h1)⟩
theorem do_bank (op x y z s : Int) (bd br bm : Nat) (F : Nat → Prop) (D : List Int) (R : List (Int × Int)) (m : M.MS) (W : World) (h : PS W bd br bm F D R m) (hx : C.C x) (hy : C.C y)(ht : m.tones.length ≤ 999000) :
    Calls Tryz.prog 157 #[.agg #[.int .i64 op, .int .u16 x, .int .u16 y, .int .u16 z, .int .u16 s, .pointer (some ⟨bd, 0, none⟩), .pointer (some ⟨br, 0, none⟩), .pointer (some ⟨bm, 0, none⟩)]] W fun e W' => e = .returned (.tuple #[]) ∧ PD W W' bd br bm F (D) (R) (M.st m 65280 (M.b8 x)) := by
  have hb := bel_alloc W (.cells #[.int .i64 op, .int .u16 x, .int .u16 y, .int .u16 z, .int .u16 s, .pointer (some ⟨bd, 0, none⟩), .pointer (some ⟨br, 0, none⟩), .pointer (some ⟨bm, 0, none⟩)] 213)
  have hk := h.below hb
  have hp := M.choose_any bm x _ hk.m (by omega)
  go_enter Tryz.func157, Tryz.ntmps157
  go_wp2_with fail
  refine hp.mono ?_
  rintro e w1 ⟨rfl, h1⟩
  go_wp2
  go_end0
  exact ⟨rfl, PD.ahead (S.lt_of h.d.1) (S.lt_of h.r.1) hb (hk.mem h1)⟩
end Go.Proofs.YteldjmecomngeaaGreat.P
/-! What those that read the memory do. -/
namespace Go.Proofs.YteldjmecomngeaaGreat.P
open Go.RowKit
open Go.Proofs
set_option linter.unusedVariables false
set_option linter.unusedSimpArgs false
set_option maxHeartbeats 2000000
set_option maxRecDepth 100000
theorem do_fetch (op x y z s : Int) (bd br bm : Nat) (F : Nat → Prop) (D : List Int) (R : List (Int × Int)) (m : M.MS) (W : World) (h : PS W bd br bm F D R m) (hx : C.C x) (hl : D.length + 1 ≤ 256) :
    Calls Tryz.prog 141 #[.agg #[.int .i64 op, .int .u16 x, .int .u16 y, .int .u16 z, .int .u16 s, .pointer (some ⟨bd, 0, none⟩), .pointer (some ⟨br, 0, none⟩), .pointer (some ⟨bm, 0, none⟩)]] W fun e W' => e = .returned (.tuple #[]) ∧ PD W W' bd br bm F (D ++ [M.cl m x]) (R) (m) := by
  have hb := bel_alloc W (.cells #[.int .i64 op, .int .u16 x, .int .u16 y, .int .u16 z, .int .u16 s, .pointer (some ⟨bd, 0, none⟩), .pointer (some ⟨br, 0, none⟩), .pointer (some ⟨bm, 0, none⟩)] 213)
  have hk := h.below hb
  have hc := M.cell_any bm x hx.1 hx.2 (W.alloc (.cells #[.int .i64 op, .int .u16 x, .int .u16 y, .int .u16 z, .int .u16 s, .pointer (some ⟨bd, 0, none⟩), .pointer (some ⟨br, 0, none⟩), .pointer (some ⟨bm, 0, none⟩)] 213)).drew (hk.m.kept fun i hi _ => rfl)
  have hp : ∀ q, Calls Tryz.prog 130 #[.agg #[.int .i64 op, .int .u16 x, .int .u16 y, .int .u16 z, .int .u16 s, .pointer (some ⟨bd, 0, none⟩), .pointer (some ⟨br, 0, none⟩), .pointer (some ⟨bm, 0, none⟩)], .slice (some ⟨W.heap.size + 1, 0, none⟩) 1 1] (((W.alloc (.cells #[.int .i64 op, .int .u16 x, .int .u16 y, .int .u16 z, .int .u16 s, .pointer (some ⟨bd, 0, none⟩), .pointer (some ⟨br, 0, none⟩), .pointer (some ⟨bm, 0, none⟩)] 213)).drewN q).alloc (.cells #[.int .u16 (M.cl m x)] 23)) fun e W' => e = .returned (.tuple #[]) ∧ S.HasD W' bd (D ++ [M.cl m x]) ∧ S.At bd W W' := fun q => by
    have b2 : Below W.heap.size W (((W.alloc (.cells #[.int .i64 op, .int .u16 x, .int .u16 y, .int .u16 z, .int .u16 s, .pointer (some ⟨bd, 0, none⟩), .pointer (some ⟨br, 0, none⟩), .pointer (some ⟨bm, 0, none⟩)] 213)).drewN q).alloc (.cells #[.int .u16 (M.cl m x)] 23)) := (⟨hb.os, hb.tape, hb.output, hb.size, hb.block⟩ : Below W.heap.size W ((W.alloc (.cells #[.int .i64 op, .int .u16 x, .int .u16 y, .int .u16 z, .int .u16 s, .pointer (some ⟨bd, 0, none⟩), .pointer (some ⟨br, 0, none⟩), .pointer (some ⟨bm, 0, none⟩)] 213)).drewN q)).alloc hb.size _
    have hs : S.Sl S.eU 1 (((W.alloc (.cells #[.int .i64 op, .int .u16 x, .int .u16 y, .int .u16 z, .int .u16 s, .pointer (some ⟨bd, 0, none⟩), .pointer (some ⟨br, 0, none⟩), .pointer (some ⟨bm, 0, none⟩)] 213)).drewN q).alloc (.cells #[.int .u16 (M.cl m x)] 23)) (some ⟨W.heap.size + 1, 0, none⟩) [M.cl m x] := sl_block S.hU _ _ 23 _ (by
      have := heap_alloc_new ((W.alloc (.cells #[.int .i64 op, .int .u16 x, .int .u16 y, .int .u16 z, .int .u16 s, .pointer (some ⟨bd, 0, none⟩), .pointer (some ⟨br, 0, none⟩), .pointer (some ⟨bm, 0, none⟩)] 213)).drewN q) (.cells #[.int .u16 (M.cl m x)] 23)
      have e : ((W.alloc (.cells #[.int .i64 op, .int .u16 x, .int .u16 y, .int .u16 z, .int .u16 s, .pointer (some ⟨bd, 0, none⟩), .pointer (some ⟨br, 0, none⟩), .pointer (some ⟨bm, 0, none⟩)] 213)).drewN q).heap.size = W.heap.size + 1 := by show (W.alloc _).heap.size = _; simp
      rw [e] at this; exact this)
    have hp := put_any op x y z s bd br bm D [M.cl m x] (some ⟨W.heap.size + 1, 0, none⟩) 1 _ (h.d.below b2) hs hl
    simp only [List.length_cons, List.length_nil, Nat.reduceAdd] at hp
    exact hp.mono fun e W' ⟨a, b, c⟩ => ⟨a, b, c.os.trans b2.os, c.tape.trans b2.tape, c.output.trans b2.output, Nat.le_trans b2.size c.size, fun k hk hn => (c.block k (Nat.lt_of_lt_of_le hk b2.size) hn).trans (b2.block k hk)⟩
  have H : Hid _ := S.hid h
  clear h hk hb
  go_enter Tryz.func141, Tryz.ntmps141
  go_wp2_with fail
  go_region_with (first | (go_at_call 142; refine hc.mono ?_; rintro e w1 ⟨rfl, q, rfl⟩) | (go_at_call 130; refine (hp _).mono ?_; rintro e w2 ⟨rfl, h1, h2⟩))
  all_goals go_wp2
  all_goals go_end0
  all_goals exact ⟨rfl, H.out.put h1 h2⟩
end Go.Proofs.YteldjmecomngeaaGreat.P
/-! c@. -/
namespace Go.Proofs.YteldjmecomngeaaGreat.P
open Go.RowKit
open Go.Proofs
set_option linter.unusedVariables false
set_option linter.unusedSimpArgs false
set_option maxHeartbeats 2000000
set_option maxRecDepth 100000
theorem do_cfetch (op x y z s : Int) (bd br bm : Nat) (F : Nat → Prop) (D : List Int) (R : List (Int × Int)) (m : M.MS) (W : World) (h : PS W bd br bm F D R m) (hx : C.C x) (hl : D.length + 1 ≤ 256) :
    Calls Tryz.prog 145 #[.agg #[.int .i64 op, .int .u16 x, .int .u16 y, .int .u16 z, .int .u16 s, .pointer (some ⟨bd, 0, none⟩), .pointer (some ⟨br, 0, none⟩), .pointer (some ⟨bm, 0, none⟩)]] W fun e W' => e = .returned (.tuple #[]) ∧ PD W W' bd br bm F (D ++ [M.ld m x]) (R) (m) := by
  have hb := bel_alloc W (.cells #[.int .i64 op, .int .u16 x, .int .u16 y, .int .u16 z, .int .u16 s, .pointer (some ⟨bd, 0, none⟩), .pointer (some ⟨br, 0, none⟩), .pointer (some ⟨bm, 0, none⟩)] 213)
  have hk := h.below hb
  have hc := M.load_any bm x hx.1 hx.2 (W.alloc (.cells #[.int .i64 op, .int .u16 x, .int .u16 y, .int .u16 z, .int .u16 s, .pointer (some ⟨bd, 0, none⟩), .pointer (some ⟨br, 0, none⟩), .pointer (some ⟨bm, 0, none⟩)] 213)).drew (hk.m.kept fun i hi _ => rfl)
  have hp : ∀ q, Calls Tryz.prog 130 #[.agg #[.int .i64 op, .int .u16 x, .int .u16 y, .int .u16 z, .int .u16 s, .pointer (some ⟨bd, 0, none⟩), .pointer (some ⟨br, 0, none⟩), .pointer (some ⟨bm, 0, none⟩)], .slice (some ⟨W.heap.size + 1, 0, none⟩) 1 1] (((W.alloc (.cells #[.int .i64 op, .int .u16 x, .int .u16 y, .int .u16 z, .int .u16 s, .pointer (some ⟨bd, 0, none⟩), .pointer (some ⟨br, 0, none⟩), .pointer (some ⟨bm, 0, none⟩)] 213)).drewN q).alloc (.cells #[.int .u16 (M.ld m x)] 23)) fun e W' => e = .returned (.tuple #[]) ∧ S.HasD W' bd (D ++ [M.ld m x]) ∧ S.At bd W W' := fun q => by
    have b2 : Below W.heap.size W (((W.alloc (.cells #[.int .i64 op, .int .u16 x, .int .u16 y, .int .u16 z, .int .u16 s, .pointer (some ⟨bd, 0, none⟩), .pointer (some ⟨br, 0, none⟩), .pointer (some ⟨bm, 0, none⟩)] 213)).drewN q).alloc (.cells #[.int .u16 (M.ld m x)] 23)) := (⟨hb.os, hb.tape, hb.output, hb.size, hb.block⟩ : Below W.heap.size W ((W.alloc (.cells #[.int .i64 op, .int .u16 x, .int .u16 y, .int .u16 z, .int .u16 s, .pointer (some ⟨bd, 0, none⟩), .pointer (some ⟨br, 0, none⟩), .pointer (some ⟨bm, 0, none⟩)] 213)).drewN q)).alloc hb.size _
    have hs : S.Sl S.eU 1 (((W.alloc (.cells #[.int .i64 op, .int .u16 x, .int .u16 y, .int .u16 z, .int .u16 s, .pointer (some ⟨bd, 0, none⟩), .pointer (some ⟨br, 0, none⟩), .pointer (some ⟨bm, 0, none⟩)] 213)).drewN q).alloc (.cells #[.int .u16 (M.ld m x)] 23)) (some ⟨W.heap.size + 1, 0, none⟩) [M.ld m x] := sl_block S.hU _ _ 23 _ (by
      have := heap_alloc_new ((W.alloc (.cells #[.int .i64 op, .int .u16 x, .int .u16 y, .int .u16 z, .int .u16 s, .pointer (some ⟨bd, 0, none⟩), .pointer (some ⟨br, 0, none⟩), .pointer (some ⟨bm, 0, none⟩)] 213)).drewN q) (.cells #[.int .u16 (M.ld m x)] 23)
      have e : ((W.alloc (.cells #[.int .i64 op, .int .u16 x, .int .u16 y, .int .u16 z, .int .u16 s, .pointer (some ⟨bd, 0, none⟩), .pointer (some ⟨br, 0, none⟩), .pointer (some ⟨bm, 0, none⟩)] 213)).drewN q).heap.size = W.heap.size + 1 := by show (W.alloc _).heap.size = _; simp
      rw [e] at this; exact this)
    have hp := put_any op x y z s bd br bm D [M.ld m x] (some ⟨W.heap.size + 1, 0, none⟩) 1 _ (h.d.below b2) hs hl
    simp only [List.length_cons, List.length_nil, Nat.reduceAdd] at hp
    exact hp.mono fun e W' ⟨a, b, c⟩ => ⟨a, b, c.os.trans b2.os, c.tape.trans b2.tape, c.output.trans b2.output, Nat.le_trans b2.size c.size, fun k hk hn => (c.block k (Nat.lt_of_lt_of_le hk b2.size) hn).trans (b2.block k hk)⟩
  have hv : IntKind.u16.wrap (M.ld m x) = M.ld m x := by
    have := M.ld_bound m hk.m.wf x
    simp [IntKind.wrap, IntKind.bits, IntKind.signed]; omega
  have H : Hid _ := S.hid h
  clear h hk hb
  go_enter Tryz.func145, Tryz.ntmps145
  go_wp2_with fail
  go_region_with (first | (go_at_call 70; refine hc.mono ?_; rintro e w1 ⟨rfl, q, rfl⟩) | (go_at_call 130; refine (hp _).mono ?_; rintro e w2 ⟨rfl, h1, h2⟩))
  all_goals go_wp2
  all_goals go_end0
  all_goals exact ⟨rfl, H.out.put h1 h2⟩
end Go.Proofs.YteldjmecomngeaaGreat.P
/-! pad. -/
namespace Go.Proofs.YteldjmecomngeaaGreat.P
open Go.RowKit
open Go.Proofs
set_option linter.unusedVariables false
set_option linter.unusedSimpArgs false
set_option maxHeartbeats 2000000
set_option maxRecDepth 100000
theorem do_pad (op x y z s : Int) (bd br bm : Nat) (F : Nat → Prop) (D : List Int) (R : List (Int × Int)) (m : M.MS) (W : World) (h : PS W bd br bm F D R m)  (hl : D.length + 1 ≤ 256) :
    Calls Tryz.prog 153 #[.agg #[.int .i64 op, .int .u16 x, .int .u16 y, .int .u16 z, .int .u16 s, .pointer (some ⟨bd, 0, none⟩), .pointer (some ⟨br, 0, none⟩), .pointer (some ⟨bm, 0, none⟩)]] W fun e W' => e = .returned (.tuple #[]) ∧ PD W W' bd br bm F (D ++ [m.pad]) (R) (m) := by
  have hb := bel_alloc W (.cells #[.int .i64 op, .int .u16 x, .int .u16 y, .int .u16 z, .int .u16 s, .pointer (some ⟨bd, 0, none⟩), .pointer (some ⟨br, 0, none⟩), .pointer (some ⟨bm, 0, none⟩)] 213)
  have hk := h.below hb
  have hc := M.pad_any bm (W.alloc (.cells #[.int .i64 op, .int .u16 x, .int .u16 y, .int .u16 z, .int .u16 s, .pointer (some ⟨bd, 0, none⟩), .pointer (some ⟨br, 0, none⟩), .pointer (some ⟨bm, 0, none⟩)] 213)).drew (hk.m.kept fun i hi _ => rfl)
  have hp : ∀ q, Calls Tryz.prog 130 #[.agg #[.int .i64 op, .int .u16 x, .int .u16 y, .int .u16 z, .int .u16 s, .pointer (some ⟨bd, 0, none⟩), .pointer (some ⟨br, 0, none⟩), .pointer (some ⟨bm, 0, none⟩)], .slice (some ⟨W.heap.size + 1, 0, none⟩) 1 1] (((W.alloc (.cells #[.int .i64 op, .int .u16 x, .int .u16 y, .int .u16 z, .int .u16 s, .pointer (some ⟨bd, 0, none⟩), .pointer (some ⟨br, 0, none⟩), .pointer (some ⟨bm, 0, none⟩)] 213)).drewN q).alloc (.cells #[.int .u16 (m.pad)] 23)) fun e W' => e = .returned (.tuple #[]) ∧ S.HasD W' bd (D ++ [m.pad]) ∧ S.At bd W W' := fun q => by
    have b2 : Below W.heap.size W (((W.alloc (.cells #[.int .i64 op, .int .u16 x, .int .u16 y, .int .u16 z, .int .u16 s, .pointer (some ⟨bd, 0, none⟩), .pointer (some ⟨br, 0, none⟩), .pointer (some ⟨bm, 0, none⟩)] 213)).drewN q).alloc (.cells #[.int .u16 (m.pad)] 23)) := (⟨hb.os, hb.tape, hb.output, hb.size, hb.block⟩ : Below W.heap.size W ((W.alloc (.cells #[.int .i64 op, .int .u16 x, .int .u16 y, .int .u16 z, .int .u16 s, .pointer (some ⟨bd, 0, none⟩), .pointer (some ⟨br, 0, none⟩), .pointer (some ⟨bm, 0, none⟩)] 213)).drewN q)).alloc hb.size _
    have hs : S.Sl S.eU 1 (((W.alloc (.cells #[.int .i64 op, .int .u16 x, .int .u16 y, .int .u16 z, .int .u16 s, .pointer (some ⟨bd, 0, none⟩), .pointer (some ⟨br, 0, none⟩), .pointer (some ⟨bm, 0, none⟩)] 213)).drewN q).alloc (.cells #[.int .u16 (m.pad)] 23)) (some ⟨W.heap.size + 1, 0, none⟩) [m.pad] := sl_block S.hU _ _ 23 _ (by
      have := heap_alloc_new ((W.alloc (.cells #[.int .i64 op, .int .u16 x, .int .u16 y, .int .u16 z, .int .u16 s, .pointer (some ⟨bd, 0, none⟩), .pointer (some ⟨br, 0, none⟩), .pointer (some ⟨bm, 0, none⟩)] 213)).drewN q) (.cells #[.int .u16 (m.pad)] 23)
      have e : ((W.alloc (.cells #[.int .i64 op, .int .u16 x, .int .u16 y, .int .u16 z, .int .u16 s, .pointer (some ⟨bd, 0, none⟩), .pointer (some ⟨br, 0, none⟩), .pointer (some ⟨bm, 0, none⟩)] 213)).drewN q).heap.size = W.heap.size + 1 := by show (W.alloc _).heap.size = _; simp
      rw [e] at this; exact this)
    have hp := put_any op x y z s bd br bm D [m.pad] (some ⟨W.heap.size + 1, 0, none⟩) 1 _ (h.d.below b2) hs hl
    simp only [List.length_cons, List.length_nil, Nat.reduceAdd] at hp
    exact hp.mono fun e W' ⟨a, b, c⟩ => ⟨a, b, c.os.trans b2.os, c.tape.trans b2.tape, c.output.trans b2.output, Nat.le_trans b2.size c.size, fun k hk hn => (c.block k (Nat.lt_of_lt_of_le hk b2.size) hn).trans (b2.block k hk)⟩
  have hv : IntKind.u16.wrap m.pad = m.pad := by
    have := hk.m.wf.pad0; have := hk.m.wf.pad1
    simp [IntKind.wrap, IntKind.bits, IntKind.signed]; omega
  have H : Hid _ := S.hid h
  clear h hk hb
  go_enter Tryz.func153, Tryz.ntmps153
  go_wp2_with fail
  go_region_with (first | (go_at_call 154; refine hc.mono ?_; rintro e w1 ⟨rfl, q, rfl⟩) | (go_at_call 130; refine (hp _).mono ?_; rintro e w2 ⟨rfl, h1, h2⟩))
  all_goals go_wp2
  all_goals go_end0
  all_goals exact ⟨rfl, H.out.put h1 h2⟩
theorem do_fromR (op x y z s : Int) (bd br bm : Nat) (F : Nat → Prop) (D : List Int) (R : List (Int × Int)) (m : M.MS) (W : World) (h : PS W bd br bm F D R m) (R0 : List (Int × Int)) (v : Int) (hR : R = R0 ++ [(4, v)]) (hl : D.length + 1 ≤ 256) :
    Calls Tryz.prog 149 #[.agg #[.int .i64 op, .int .u16 x, .int .u16 y, .int .u16 z, .int .u16 s, .pointer (some ⟨bd, 0, none⟩), .pointer (some ⟨br, 0, none⟩), .pointer (some ⟨bm, 0, none⟩)]] W fun e W' => e = .returned (.tuple #[]) ∧ PD W W' bd br bm F (D ++ [s]) (R0) (m) := by
  subst hR
  have hb := bel_alloc W (.cells #[.int .i64 op, .int .u16 x, .int .u16 y, .int .u16 z, .int .u16 s, .pointer (some ⟨bd, 0, none⟩), .pointer (some ⟨br, 0, none⟩), .pointer (some ⟨bm, 0, none⟩)] 213)
  have hk := h.below hb
  have hc := S.rpop_ok br R0 4 v _ hk.r
  have hlt : W.heap.size ≠ br := by have := S.lt_of h.r.1; omega
  have hbx := heap_alloc_new W (.cells #[.int .i64 op, .int .u16 x, .int .u16 y, .int .u16 z, .int .u16 s, .pointer (some ⟨bd, 0, none⟩), .pointer (some ⟨br, 0, none⟩), .pointer (some ⟨bm, 0, none⟩)] 213)
  have hsz : (W.alloc (.cells #[.int .i64 op, .int .u16 x, .int .u16 y, .int .u16 z, .int .u16 s, .pointer (some ⟨bd, 0, none⟩), .pointer (some ⟨br, 0, none⟩), .pointer (some ⟨bm, 0, none⟩)] 213)).heap.size = W.heap.size + 1 := by simp
  have H := S.hid h
  have HK := S.hid hk
  have HB := S.hid hb
  have HX := S.hid hbx
  have HZ := S.hid hsz
  clear h hk hb hbx hsz
  go_enter Tryz.func149, Tryz.ntmps149
  go_wp2_with fail
  refine hc.mono ?_
  rintro e w1 ⟨rfl, h1, h2⟩
  have hPD := HK.out.save h1 h2
  have hbx : w1.heap[W.heap.size]? = _ := (h2.block _ (by rw [HZ.out]; omega) hlt).trans HX.out
  have c0 := S.cell_of w1 W.heap.size 0 _ 213 _ hbx rfl
  have c1 := S.cell_of w1 W.heap.size 1 _ 213 _ hbx rfl
  have c2 := S.cell_of w1 W.heap.size 2 _ 213 _ hbx rfl
  have c3 := S.cell_of w1 W.heap.size 3 _ 213 _ hbx rfl
  have c4 := S.cell_of w1 W.heap.size 4 _ 213 _ hbx rfl
  have c5 := S.cell_of w1 W.heap.size 5 _ 213 _ hbx rfl
  have c6 := S.cell_of w1 W.heap.size 6 _ 213 _ hbx rfl
  have c7 := S.cell_of w1 W.heap.size 7 _ 213 _ hbx rfl
  have b2 := bel_alloc w1 (.cells #[.int .u16 s] 23)
  have hs : S.Sl S.eU 1 (w1.alloc (.cells #[.int .u16 s] 23)) (some ⟨w1.heap.size, 0, none⟩) [s] := sl_block S.hU _ _ 23 _ (heap_alloc_new w1 _)
  have hp := put_any op x y z s bd br bm D [s] (some ⟨w1.heap.size, 0, none⟩) 1 _ (hPD.s.d.below b2) hs hl
  simp only [List.length_cons, List.length_nil, Nat.reduceAdd] at hp
  clear hbx
  go_wp2_with fail
  refine hp.mono ?_
  rintro e w2 ⟨rfl, h3, h4⟩
  go_wp2
  go_end0
  exact ⟨rfl, PD.ahead (S.lt_of H.out.d.1) (S.lt_of H.out.r.1) HB.out (hPD.trans (hPD.s.put h3 (at_alloc _ h4)))⟩
end Go.Proofs.YteldjmecomngeaaGreat.P
/-! +!. -/
namespace Go.Proofs.YteldjmecomngeaaGreat.P
open Go.RowKit
open Go.Proofs
set_option linter.unusedVariables false
set_option linter.unusedSimpArgs false
set_option maxHeartbeats 2000000
set_option maxRecDepth 100000
theorem do_plus (op x y z s : Int) (bd br bm : Nat) (F : Nat → Prop) (D : List Int) (R : List (Int × Int)) (m : M.MS) (W : World) (h : PS W bd br bm F D R m) (hx : C.C x) (hy : C.C y) (ht : m.tones.length ≤ 999000) :
    Calls Tryz.prog 147 #[.agg #[.int .i64 op, .int .u16 x, .int .u16 y, .int .u16 z, .int .u16 s, .pointer (some ⟨bd, 0, none⟩), .pointer (some ⟨br, 0, none⟩), .pointer (some ⟨bm, 0, none⟩)]] W fun e W' => e = .returned (.tuple #[]) ∧ PD W W' bd br bm F (D) (R) (M.sc m y ((M.cl m y + x) % 65536)) := by
  have h0 := h.cut
  have hb := bel_alloc W (.cells #[.int .i64 op, .int .u16 x, .int .u16 y, .int .u16 z, .int .u16 s, .pointer (some ⟨bd, 0, none⟩), .pointer (some ⟨br, 0, none⟩), .pointer (some ⟨bm, 0, none⟩)] 213)
  have hk := h0.below hb
  have hc := M.cell_any bm y hy.1 hy.2 (W.alloc (.cells #[.int .i64 op, .int .u16 x, .int .u16 y, .int .u16 z, .int .u16 s, .pointer (some ⟨bd, 0, none⟩), .pointer (some ⟨br, 0, none⟩), .pointer (some ⟨bm, 0, none⟩)] 213)).drew (hk.m.kept fun i hi _ => rfl)
  have hv : IntKind.u16.wrap (M.cl m y + x) = (M.cl m y + x) % 65536 := by simp [IntKind.wrap, IntKind.bits, IntKind.signed]
  have hbx := heap_alloc_new W (.cells #[.int .i64 op, .int .u16 x, .int .u16 y, .int .u16 z, .int .u16 s, .pointer (some ⟨bd, 0, none⟩), .pointer (some ⟨br, 0, none⟩), .pointer (some ⟨bm, 0, none⟩)] 213)
  have sA : ∀ W2 : World, W2.heap[W.heap.size]? = some (.cells #[.int .i64 op, .int .u16 x, .int .u16 y, .int .u16 z, .int .u16 s, .pointer (some ⟨bd, 0, none⟩), .pointer (some ⟨br, 0, none⟩), .pointer (some ⟨bm, 0, none⟩)] 213 (0, 0)) → W2.cell? ⟨W.heap.size, 1, none⟩ = some (.int .u16 x) ∧ W2.cell? ⟨W.heap.size, 2, none⟩ = some (.int .u16 y) ∧ W2.cell? ⟨W.heap.size, 7, none⟩ = some (.pointer (some ⟨bm, 0, none⟩)) := fun W2 e => ⟨S.cell_of W2 _ 1 _ 213 _ e rfl, S.cell_of W2 _ 2 _ 213 _ e rfl, S.cell_of W2 _ 7 _ 213 _ e rfl⟩
  have s0 := sA (W.alloc (.cells #[.int .i64 op, .int .u16 x, .int .u16 y, .int .u16 z, .int .u16 s, .pointer (some ⟨bd, 0, none⟩), .pointer (some ⟨br, 0, none⟩), .pointer (some ⟨bm, 0, none⟩)] 213)).drew hbx
  have s1 : ∀ q, _ := fun q => sA ((W.alloc (.cells #[.int .i64 op, .int .u16 x, .int .u16 y, .int .u16 z, .int .u16 s, .pointer (some ⟨bd, 0, none⟩), .pointer (some ⟨br, 0, none⟩), .pointer (some ⟨bm, 0, none⟩)] 213)).drewN q) hbx
  have hp : ∀ q, Calls Tryz.prog 144 #[.pointer (some ⟨bm, 0, none⟩), .int .u16 y, .int .u16 ((M.cl m y + x) % 65536)] ((W.alloc (.cells #[.int .i64 op, .int .u16 x, .int .u16 y, .int .u16 z, .int .u16 s, .pointer (some ⟨bd, 0, none⟩), .pointer (some ⟨br, 0, none⟩), .pointer (some ⟨bm, 0, none⟩)] 213)).drewN q) fun e W' => e = .returned (.tuple #[]) ∧ PD W W' bd br bm F D R (M.sc m y ((M.cl m y + x) % 65536)) ∧ W'.cell? ⟨W.heap.size, 1, none⟩ = some (.int .u16 x) ∧ W'.cell? ⟨W.heap.size, 2, none⟩ = some (.int .u16 y) ∧ W'.cell? ⟨W.heap.size, 7, none⟩ = some (.pointer (some ⟨bm, 0, none⟩)) := fun q => by
    have b2 : Below W.heap.size W ((W.alloc (.cells #[.int .i64 op, .int .u16 x, .int .u16 y, .int .u16 z, .int .u16 s, .pointer (some ⟨bd, 0, none⟩), .pointer (some ⟨br, 0, none⟩), .pointer (some ⟨bm, 0, none⟩)] 213)).drewN q) := ⟨hb.os, hb.tape, hb.output, hb.size, hb.block⟩
    have hk2 := h0.below b2
    exact (M.setCell_any bm y hy.1 hy.2 ((M.cl m y + x) % 65536) (by omega) (by omega) _ hk2.m (by omega)).mono fun e W' ⟨a, b⟩ => ⟨a, PD.wk (PD.ahead (S.lt_of h.d.1) (S.lt_of h.r.1) b2 (hk2.mem b)) (fun i g => g.1) h.fd h.fr (S.lt_of h.d.1) (S.lt_of h.r.1),
      sA W' ((b.2.block W.heap.size (by show W.heap.size < (W.alloc _).heap.size; simp) (fun g => by have := g.2; omega)).trans hbx)⟩
  clear h hk hb h0 sA hbx
  go_enter Tryz.func147, Tryz.ntmps147
  go_wp2_with fail
  go_region_held (fun w' => w'.cell? ⟨W.heap.size, 1, none⟩ = some (.int .u16 x) ∧ w'.cell? ⟨W.heap.size, 2, none⟩ = some (.int .u16 y) ∧ w'.cell? ⟨W.heap.size, 7, none⟩ = some (.pointer (some ⟨bm, 0, none⟩)))
    (first | (with_reducible exact s0) | (with_reducible exact s1 _) | (with_reducible exact s2))
    (first | (go_at_call 142; refine hc.mono ?_; rintro e w1 ⟨rfl, q, rfl⟩) | (go_at_call 144; refine (hp _).mono ?_; rintro e w2 ⟨rfl, h1, s2⟩))
  all_goals go_wp2
  all_goals go_end0
  all_goals exact ⟨rfl, h1⟩
end Go.Proofs.YteldjmecomngeaaGreat.P
