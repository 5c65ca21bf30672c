import Derived.WalkKit
namespace Go.Proofs.YtoemoiehjdmheaaGreat.T
def dig (c : Nat) : Nat := if 48 <= c /\ c <= 57 then c - 48 else if 97 <= c /\ c <= 102 then c - 87 else 99
theorem dig_le (c : Nat) : dig c <= 99 := by unfold dig; split <;> (try split) <;> omega
theorem dig_high (c : Nat) (h : 103 <= c) : dig c = 99 := by unfold dig; rw [if_neg (by omega), if_neg (by omega)]
def stepV (b : Nat) (o : Option Nat) (d : Nat) : Option Nat :=
 match o with
 | none => none
 | some n => if d < b then some (n * b + d) else none
def val (b : Nat) (l : List UInt8) : Option Nat := l.foldl (fun o c => stepV b o (dig c.toNat)) (some 0)
theorem val_snoc (b : Nat) (l : List UInt8) (c : UInt8) : val b (l ++ [c]) = stepV b (val b l) (dig c.toNat) := by
 unfold val; rw [List.foldl_append]; rfl
theorem fold_none (b : Nat) (l : List UInt8) : l.foldl (fun o c => stepV b o (dig c.toNat)) none = none := by
 induction l with
 | nil => rfl
 | cons c l ih => rw [List.foldl_cons]; exact ih
theorem val_append_none (b : Nat) (l m : List UInt8) (h : val b l = none) : val b (l ++ m) = none := by
 unfold val at *; rw [List.foldl_append, h]; exact fold_none b m
theorem val_take_none (b : Nat) (l : List UInt8) (k : Nat) (h : val b (l.take k) = none) : val b l = none := by
 have := val_append_none b (l.take k) (l.drop k) h
 rwa [List.take_append_drop] at this
theorem cap_step (n b d g : Nat) (hb : 1 <= b) : min (min n g * b + d) g = min (n * b + d) g := by
 by_cases h : n <= g
 ·rw [Nat.min_eq_left h]
 ·have h1 : min n g = g := Nat.min_eq_right (by omega)
  have h2 : g <= g * b := Nat.le_mul_of_pos_right g hb
  have h3 : g * b <= n * b := Nat.mul_le_mul_right b (by omega)
  rw [h1]; omega
def quo (l : List UInt8) : Bool :=
 match l with
 | [a, c, d] => decide (a.toNat = 39) && (decide (d.toNat = 39) && decide (33 <= c.toNat /\ c.toNat <= 126))
 | _ => false
def body (b : Nat) (l : List UInt8) : Option Nat := if l = [] then none else val b l
def numI (l : List UInt8) : Option Int :=
 if quo l = true then some ((l.getD 1 0).toNat : Int)
 else match l with
  | [] => none
  | c :: t =>
   if c.toNat = 45 then (body 10 t).map fun n => -(n : Int)
   else if c.toNat = 36 then (body 16 t).map fun n => (n : Int)
   else if c.toNat = 37 then (body 2 t).map fun n => (n : Int)
   else (body 10 (c :: t)).map fun n => (n : Int)
def cellOf (o : Option Int) : Int :=
 match o with
 | none => 0
 | some n => if -32768 <= n /\ n <= 65535 then n % 65536 else 0
def errOf (o : Option Int) : Int :=
 match o with
 | none => 20
 | some n => if -32768 <= n /\ n <= 65535 then 0 else 21
def numC (l : List UInt8) : Int := cellOf (numI l)
def numE (l : List UInt8) : Int := errOf (numI l)
def seen (c : Nat) : Bool := decide (33 <= c /\ c <= 126)
def nameB (l : List UInt8) : Bool :=
 decide (1 <= l.length) && (decide (l.length <= 31) && (decide (l ≠ [92]) && (decide (l ≠ [40]) && (l.all (fun c => seen c.toNat) && decide (numI l = none)))))
def stepP (p : Int × Int) (c : UInt8) : Int × Int := if c.toNat = 10 then (p.1 + 1, 1) else (p.1, p.2 + 1)
def place (l : List UInt8) (o : Nat) : Int × Int := (l.take o).foldl stepP (1, 1)
end Go.Proofs.YtoemoiehjdmheaaGreat.T
