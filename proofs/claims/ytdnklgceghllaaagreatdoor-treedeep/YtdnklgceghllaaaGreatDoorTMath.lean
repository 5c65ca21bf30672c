import Derived.WalkKit
import Derived.Test.YtdnklgceghllaaaGreatDoorProg
import Derived.KernelRfl
namespace Go.Proofs.YtdnklgceghllaaaGreatDoor.T
def dig (c : Nat) : Nat := if 48 <= c /\ c <= 57 then c - 48 else if 97 <= c /\ c <= 102 then c - 87 else 99
theorem dig_le (c : Nat) : dig c <= 99 := by unfold dig; split <;> (try split) <;> omega
theorem dig_high (c : Nat) (h : 103 <= c) : dig c = 99 := by unfold dig; rw [if_neg (by omega), if_neg (by omega)]
def stepV (b : Nat) (o : Option Nat) (d : Nat) : Option Nat :=
  match o with
  | none => none
  | some n => if d < b then some (n * b + d) else none
def val (b : Nat) (l : List UInt8) : Option Nat := l.foldl (fun o c => stepV b o (dig c.toNat)) (some 0)
theorem val_nil (b : Nat) : val b [] = some 0 := rfl
theorem val_snoc (b : Nat) (l : List UInt8) (c : UInt8) : val b (l ++ [c]) = stepV b (val b l) (dig c.toNat) := by
  unfold val; rw [List.foldl_append]; rfl
theorem fold_none (b : Nat) (l : List UInt8) : l.foldl (fun o c => stepV b o (dig c.toNat)) none = none := by
  induction l with
  | nil => rfl
  | cons c l ih => rw [List.foldl_cons]; exact ih
theorem val_append_none (b : Nat) (l m : List UInt8) (h : val b l = none) : val b (l ++ m) = none := by
  unfold val at *; rw [List.foldl_append, h]; exact fold_none b m
theorem val_take_none (b : Nat) (l : List UInt8) (k : Nat) (h : val b (l.take k) = none) : val b l = none := by
  have := val_append_none b (l.take k) (l.drop k) h
  rwa [List.take_append_drop] at this
theorem cap_step (n b d g : Nat) (hb : 1 <= b) : min (min n g * b + d) g = min (n * b + d) g := by
  by_cases h : n <= g
  · rw [Nat.min_eq_left h]
  · have h1 : min n g = g := Nat.min_eq_right (by omega)
    have h2 : g <= g * b := Nat.le_mul_of_pos_right g hb
    have h3 : g * b <= n * b := Nat.mul_le_mul_right b (by omega)
    rw [h1]; omega
def quo (l : List UInt8) : Bool :=
  match l with
  | [a, c, d] => decide (a.toNat = 39) && (decide (d.toNat = 39) && decide (33 <= c.toNat /\ c.toNat <= 126))
  | _ => false
def body (b : Nat) (l : List UInt8) : Option Nat := if l = [] then none else val b l
def numI (l : List UInt8) : Option Int :=
  if quo l = true then some ((l.getD 1 0).toNat : Int)
  else match l with
    | [] => none
    | c :: t =>
      if c.toNat = 45 then (body 10 t).map fun n => -(n : Int)
      else if c.toNat = 36 then (body 16 t).map fun n => (n : Int)
      else if c.toNat = 37 then (body 2 t).map fun n => (n : Int)
      else (body 10 (c :: t)).map fun n => (n : Int)
def cellOf (o : Option Int) : Int :=
  match o with
  | none => 0
  | some n => if -32768 <= n /\ n <= 65535 then n % 65536 else 0
def errOf (o : Option Int) : Int :=
  match o with
  | none => 20
  | some n => if -32768 <= n /\ n <= 65535 then 0 else 21
def numC (l : List UInt8) : Int := cellOf (numI l)
def numE (l : List UInt8) : Int := errOf (numI l)
def seen (c : Nat) : Bool := decide (33 <= c /\ c <= 126)
def nameB (l : List UInt8) : Bool :=
  decide (1 <= l.length) && (decide (l.length <= 31) && (decide (l ≠ [92]) && (decide (l ≠ [40]) && (l.all (fun c => seen c.toNat) && decide (numI l = none)))))
def stepP (p : Int × Int) (c : UInt8) : Int × Int := if c.toNat = 10 then (p.1 + 1, 1) else (p.1, p.2 + 1)
def place (l : List UInt8) (o : Nat) : Int × Int := (l.take o).foldl stepP (1, 1)
def clampI (o : Int) (n : Nat) : Int := max 0 (min o n)
def clampN (o : Int) (n : Nat) : Nat := (clampI o n).toNat
theorem clamp_cast (o : Int) (n : Nat) : (clampN o n : Int) = clampI o n := by unfold clampN clampI; omega
theorem clamp_le (o : Int) (n : Nat) : clampN o n <= n := by unfold clampN clampI; omega
theorem place_zero (l : List UInt8) : place l 0 = (1, 1) := rfl
theorem place_succ (l : List UInt8) (k : Nat) (h : k < l.length) : place l (k + 1) = stepP (place l k) l[k] := by
  unfold place; rw [List.take_succ_eq_append_getElem h, List.foldl_append]; rfl
theorem place_seg (l : List UInt8) (b : Nat) (line : Int) (h0 : place l b = (line, 1)) :
    ∀ o, b <= o -> o <= l.length -> (∀ k (hk : k < l.length), b <= k -> k < o -> l[k].toNat ≠ 10) -> place l o = (line, (o : Int) - b + 1) := by
  intro o
  induction o with
  | zero => intro h1 _ _; obtain rfl : b = 0 := by omega
            rw [h0]; simp
  | succ o ih =>
    intro h1 h2 h3
    by_cases e : b = o + 1
    · subst e; rw [h0]; simp
    · have hk : o < l.length := by omega
      rw [place_succ l o hk, ih (by omega) (by omega) (fun k hk a c => h3 k hk a (by omega))]
      unfold stepP
      rw [if_neg (h3 o hk (by omega) (by omega))]
      simp; omega
theorem place_nl (l : List UInt8) (k : Nat) (h : k < l.length) (h10 : l[k].toNat = 10) : place l (k + 1) = ((place l k).1 + 1, 1) := by
  rw [place_succ l k h]; unfold stepP; rw [if_pos h10]
theorem place_line_pos (l : List UInt8) (o : Nat) : 1 <= (place l o).1 /\ (place l o).1 <= 1 + o /\ 1 <= (place l o).2 /\ (place l o).2 <= 1 + o := by
  induction o with
  | zero => rw [place_zero]; simp
  | succ o ih =>
    by_cases h : o < l.length
    · rw [place_succ l o h]; unfold stepP; split <;> simp <;> omega
    · have : place l (o + 1) = place l o := by unfold place; rw [List.take_of_length_le (by omega), List.take_of_length_le (by omega)]
      rw [this]; omega
end Go.Proofs.YtdnklgceghllaaaGreatDoor.T
namespace Go.Proofs.YtdnklgceghllaaaGreatDoor.Y
open Go.RowKit
set_option linter.unusedVariables false
abbrev Ps := Int × Int
structure Nd where
 k : Int
 op : Int
 v : Int
 nm : ByteArray
 th : List Nd
 el : List Nd
 has : Bool
 p : Ps
def e0 : ByteArray := ⟨#[]⟩
structure Df where
 k : Int
 nm : ByteArray
 v : Int
 body : List Nd
 p : Ps
theorem Nd.ind {P : Nd -> Prop} (h : ∀ n : Nd, (∀ m ∈ n.th, P m) -> (∀ m ∈ n.el, P m) -> P n) : ∀ n, P n := by
 intro n
 generalize hs : SizeOf.sizeOf n = s
 induction s using Nat.strongRecOn generalizing n with
 | ind s ih =>
  refine h n (fun m hm => ih (SizeOf.sizeOf m) ?_ m rfl) (fun m hm => ih (SizeOf.sizeOf m) ?_ m rfl)
  ·obtain ⟨k, op, v, nm, th, el, has, p⟩ := n
   have h1 : SizeOf.sizeOf m < SizeOf.sizeOf th := List.sizeOf_lt_of_mem hm
   simp only [Nd.mk.sizeOf_spec] at hs
   omega
  ·obtain ⟨k, op, v, nm, th, el, has, p⟩ := n
   have h1 : SizeOf.sizeOf m < SizeOf.sizeOf el := List.sizeOf_lt_of_mem hm
   simp only [Nd.mk.sizeOf_spec] at hs
   omega
abbrev Rm := Int × Int × Int
def ps (r : Rm) : Int := if 512 < r.1 then 110 else if 16384 < r.2.1 then 111 else if 16384 < r.2.2 then 112 else 0
end Go.Proofs.YtdnklgceghllaaaGreatDoor.Y
namespace Go.Proofs.YtdnklgceghllaaaGreatDoor.K
open Go.Proofs.YtdnklgceghllaaaGreatDoor.T
set_option linter.unusedVariables false
def bk (c : Nat) : Bool := decide (c = 9) || (decide (c = 10) || (decide (c = 13) || decide (c = 32)))
def wl : List UInt8 -> Nat
 | [] => 0
 | c :: t => if T.seen c.toNat = true then wl t + 1 else 0
def wend (l : List UInt8) (i : Nat) : Nat := i + wl (l.drop i)
theorem wl_le (l : List UInt8) : wl l <= l.length := by
 induction l with
 | nil => exact Nat.le_refl _
 | cons c t ih => unfold wl; split <;> simp <;> omega
theorem drop_cons (l : List UInt8) (i : Nat) (h : i < l.length) : l.drop i = l[i] :: l.drop (i + 1) := List.drop_eq_getElem_cons h
theorem wend_yes (l : List UInt8) (i : Nat) (h : i < l.length) (hs : T.seen l[i].toNat = true) : wend l i = wend l (i + 1) := by
 unfold wend; rw [drop_cons l i h, wl, if_pos hs]; omega
theorem wend_no (l : List UInt8) (i : Nat) (h : i < l.length) (hs : T.seen l[i].toNat = false) : wend l i = i := by
 unfold wend; rw [drop_cons l i h, wl, if_neg (by simp [hs])]; omega
theorem wend_out (l : List UInt8) (i : Nat) (h : l.length <= i) : wend l i = i := by
 unfold wend; rw [List.drop_of_length_le h]; simp [wl]
theorem wend_ge (l : List UInt8) (i : Nat) : i <= wend l i := by unfold wend; omega
theorem wend_le (l : List UInt8) (i : Nat) (h : i <= l.length) : wend l i <= l.length := by
 unfold wend; have := wl_le (l.drop i); rw [List.length_drop] at this; omega
def ixb (c : Nat) : List UInt8 -> Option Nat
 | [] => none
 | x :: t => if x.toNat = c then some 0 else (ixb c t).map (· + 1)
def nxt (c : Nat) (l : List UInt8) (i : Nat) : Option Nat := (ixb c (l.drop i)).map fun k => i + k + 1
theorem nxt_yes (c : Nat) (l : List UInt8) (i : Nat) (h : i < l.length) (hc : l[i].toNat = c) : nxt c l i = some (i + 1) := by
 unfold nxt; rw [drop_cons l i h, ixb, if_pos hc]; rfl
theorem nxt_no (c : Nat) (l : List UInt8) (i : Nat) (h : i < l.length) (hc : ¬ l[i].toNat = c) : nxt c l i = nxt c l (i + 1) := by
 unfold nxt; rw [drop_cons l i h, ixb, if_neg hc]
 cases ixb c (l.drop (i + 1)) with
 | none => rfl
 | some k => simp; omega
theorem nxt_out (c : Nat) (l : List UInt8) (i : Nat) (h : l.length <= i) : nxt c l i = none := by
 unfold nxt; rw [List.drop_of_length_le h]; rfl
theorem nxt_in (c : Nat) (l : List UInt8) : ∀ i j, nxt c l i = some j -> i < j /\ j <= l.length := by
 intro i
 generalize hn : l.length - i = n
 induction n generalizing i with
 | zero => intro j h; rw [nxt_out c l i (by omega)] at h; cases h
 | succ n ih =>
  intro j h
  have hi : i < l.length := by omega
  by_cases hc : l[i].toNat = c
  ·rw [nxt_yes c l i hi hc] at h; simp at h; omega
  ·rw [nxt_no c l i hi hc] at h
   have := ih (i + 1) (by omega) j h
   omega
def wd (l : List UInt8) (i j : Nat) : List UInt8 := (l.drop i).take (j - i)
theorem wd_len (l : List UInt8) (i j : Nat) (h : j <= l.length) : (wd l i j).length = j - i := by
 unfold wd; rw [List.length_take, List.length_drop]; omega
abbrev Sp := Except Int (Nat ⊕ Nat)
def spW (l : List UInt8) (i j : Nat) : Sp :=
 if wd l i j = [92] then .ok (.inl ((nxt 10 l j).getD l.length))
 else if wd l i j = [40] then (match nxt 41 l j with | none => .error 92 | some k => .ok (.inl k))
 else if 31 < j - i then .error 93
 else if numE (wd l i j) = 21 then .error 21
 else .ok (.inr j)
def sp (l : List UInt8) (i : Nat) : Sp :=
 if wend l i = i then (if bk (l.getD i 0).toNat = true then .ok (.inl (i + 1)) else .error 91) else spW l i (wend l i)
theorem sp_to (l : List UInt8) (i j : Nat) (h : i < l.length) (e : sp l i = .ok (.inl j)) : i < j /\ j <= l.length := by
 unfold sp at e
 by_cases h1 : wend l i = i
 ·rw [if_pos h1] at e
  split at e
  ·cases e; omega
  ·cases e
 ·rw [if_neg h1] at e
  have h2 := wend_ge l i
  have h3 := wend_le l i (Nat.le_of_lt h)
  unfold spW at e
  split at e
  ·cases hn : nxt 10 l (wend l i) with
   | none => rw [hn] at e; simp at e; omega
   | some k => rw [hn] at e; simp at e; have := nxt_in _ _ _ _ hn; omega
  ·split at e
   ·cases hn : nxt 41 l (wend l i) with
    | none => rw [hn] at e; cases e
    | some k => rw [hn] at e; cases e; have := nxt_in _ _ _ _ hn; omega
   ·split at e
    ·cases e
    ·split at e <;> cases e
theorem sp_wo (l : List UInt8) (i j : Nat) (h : i < l.length) (e : sp l i = .ok (.inr j)) : i < j /\ j <= l.length /\ j = wend l i /\ wd l i j ≠ [92] /\ wd l i j ≠ [40] /\ j - i <= 31 /\ numE (wd l i j) ≠ 21 := by
 unfold sp at e
 by_cases h1 : wend l i = i
 ·rw [if_pos h1] at e
  split at e <;> cases e
 ·rw [if_neg h1] at e
  have h2 := wend_ge l i
  have h3 := wend_le l i (Nat.le_of_lt h)
  unfold spW at e
  split at e
  ·cases e
  ·split at e
   ·split at e <;> cases e
   ·split at e
    ·cases e
    ·split at e
     ·cases e
     ·cases e
      refine ⟨by omega, h3, rfl, by assumption, by assumption, by omega, by assumption⟩
theorem sp_no (l : List UInt8) (i : Nat) (e : Int) (h : sp l i = .error e) : e = 91 \/ e = 92 \/ e = 93 \/ e = 21 := by
 unfold sp at h
 split at h
 ·split at h <;> cases h; simp
 ·unfold spW at h
  split at h
  ·cases h
  ·split at h
   ·split at h <;> cases h; simp
   ·split at h
    ·cases h; simp
    ·split at h <;> cases h; simp
def scN (l : List UInt8) : Nat -> Nat -> List (Nat × Nat) -> List (Nat × Nat) × Nat × Int
 | 0, i, a => (a, i, 0)
 | f + 1, i, a => if l.length <= i then (a, i, 0) else match sp l i with
  | .ok (.inl j) => scN l f j a
  | .error e => (a, i, e)
  | .ok (.inr j) => scN l f j (a ++ [(i, j)])
def sc (l : List UInt8) : List (Nat × Nat) × Nat × Int := scN l (l.length + 1) 0 []
structure At (l : List UInt8) (i : Nat) (a : List (Nat × Nat)) : Prop where
 le : i <= l.length
 few : a.length <= i
 rest : ∃ f, l.length < i + f /\ scN l f i a = sc l
theorem At.start (l : List UInt8) : At l 0 [] := ⟨Nat.zero_le _, Nat.le_refl _, l.length + 1, by omega, rfl⟩
theorem At.to {l : List UInt8} {i j : Nat} {a : List (Nat × Nat)} (h : At l i a) (hi : i < l.length) (e : sp l i = .ok (.inl j)) : At l j a := by
 obtain ⟨h1, h0, f, h2, h3⟩ := h
 have := sp_to l i j hi e
 cases f with
 | zero => omega
 | succ f => rw [scN, if_neg (by omega), e] at h3; exact ⟨by omega, by omega, f, by omega, h3⟩
theorem At.wo {l : List UInt8} {i j : Nat} {a : List (Nat × Nat)} (h : At l i a) (hi : i < l.length) (e : sp l i = .ok (.inr j)) : At l j (a ++ [(i, j)]) := by
 obtain ⟨h1, h0, f, h2, h3⟩ := h
 have := sp_wo l i j hi e
 cases f with
 | zero => omega
 | succ f => rw [scN, if_neg (by omega), e] at h3; exact ⟨by omega, by simp; omega, f, by omega, h3⟩
theorem At.no {l : List UInt8} {i : Nat} {e : Int} {a : List (Nat × Nat)} (h : At l i a) (hi : i < l.length) (x : sp l i = .error e) : sc l = (a, i, e) := by
 obtain ⟨h1, _, f, h2, h3⟩ := h
 cases f with
 | zero => omega
 | succ f => rw [scN, if_neg (by omega), x] at h3; exact h3.symm
theorem At.fin {l : List UInt8} {i : Nat} {a : List (Nat × Nat)} (h : At l i a) (hi : l.length <= i) : sc l = (a, i, 0) := by
 obtain ⟨h1, _, f, h2, h3⟩ := h
 cases f with
 | zero => exact h3.symm
 | succ f => rw [scN, if_pos hi] at h3; exact h3.symm
theorem At.ends (l : List UInt8) {P : Nat -> List (Nat × Nat) -> Prop} (h0 : P 0 []) (hto : ∀ i j a, At l i a -> P i a -> i < l.length -> sp l i = .ok (.inl j) -> P j a) (hwo : ∀ i j a, At l i a -> P i a -> i < l.length -> sp l i = .ok (.inr j) -> P j (a ++ [(i, j)])) :
  ∃ i a, At l i a /\ P i a /\ ((l.length <= i /\ sc l = (a, i, 0)) \/ ∃ e, i < l.length /\ sp l i = .error e /\ sc l = (a, i, e)) := by
 have H : ∀ n i a, l.length - i = n -> At l i a -> P i a -> ∃ i a, At l i a /\ P i a /\ ((l.length <= i /\ sc l = (a, i, 0)) \/ ∃ e, i < l.length /\ sp l i = .error e /\ sc l = (a, i, e)) := by
  intro n
  induction n using Nat.strongRecOn with
  | ind n ih =>
   intro i a hn hA hP
   by_cases hi : l.length <= i
   ·exact ⟨i, a, hA, hP, .inl ⟨hi, hA.fin hi⟩⟩
   ·have hi' : i < l.length := by omega
    match e : sp l i with
    | .ok (.inl j) =>
     have := sp_to l i j hi' e
     exact ih (l.length - j) (by omega) j a rfl (hA.to hi' e) (hto i j a hA hP hi' e)
    | .error x => exact ⟨i, a, hA, hP, .inr ⟨x, hi', e, hA.no hi' e⟩⟩
    | .ok (.inr j) =>
     have := sp_wo l i j hi' e
     exact ih (l.length - j) (by omega) j _ rfl (hA.wo hi' e) (hwo i j a hA hP hi' e)
 exact H _ 0 [] rfl (At.start l) h0
end Go.Proofs.YtdnklgceghllaaaGreatDoor.K
