import Derived.Test.YtoemoiehjdmheaaGreatYSize
import Derived.Test.YtoemoiehjdmheaaGreatPAll
import Derived.Test.YtoemoiehjdmheaaGreatTMath
namespace Go.Proofs.YtoemoiehjdmheaaGreat.R
open Go.Proofs.YtoemoiehjdmheaaGreat.Y (Nd Df e0)
set_option linter.unusedVariables false
def resL : List (List UInt8) := [[58], [59], [99, 111, 110, 115, 116, 97, 110, 116], [118, 97, 114, 105, 97, 98, 108, 101], [98, 117, 102, 102, 101, 114], [98, 97, 110, 107], [123], [125], [105, 102], [101, 108, 115, 101], [116, 104, 101, 110], [98, 101, 103, 105, 110], [117, 110, 116, 105, 108], [119, 104, 105, 108, 101], [114, 101, 112, 101, 97, 116], [97, 103, 97, 105, 110], [100, 111], [108, 111, 111, 112], [101, 120, 105, 116]]
def resW (s : ByteArray) : Bool := resL.any fun l => s.toList == l
def prN (s : ByteArray) : Bool := !s.toList.isEmpty && P.allN.any fun x => (P.nm x).toList == s.toList
def isRes (s : ByteArray) : Bool := resW s || prN s
def isNm (s : ByteArray) : Bool := T.nameB s.data.toList && !isRes s
def strc (k : Int) : Bool := decide (4 <= k) && decide (k <= 8)
def usesF (k op v : Int) (nm : ByteArray) (th el has : Bool) : Bool :=
 decide (1 <= k) && (decide (k <= 9) && ((k == 1 || op == 0) && ((k == 2 || v == 0) && ((k == 3 || nm.toList.isEmpty) && ((strc k || th) && ((k == 6 || (k == 4 && has) || el) && (k == 4 || !has)))))))
def uses (n : Nd) : Bool := usesF n.k n.op n.v n.nm n.th.isEmpty n.el.isEmpty n.has
def fits (names : List ByteArray) (n : Nd) : Bool :=
 if n.k = 1 then decide (9 <= n.op) && decide (n.op <= 63) else if n.k = 3 then names.any (fun s => decide (s = n.nm)) else true
def fe {α : Type} : List (α -> Int) -> α -> Int
 | [], _ => 0
 | f :: r, a => if f a = 0 then fe r a else f a
def own1 (names : List ByteArray) (n : Nd) (i : Nat × Bool) : Int :=
 if uses n = false then 100 else if fits names n = false then 103 else if n.k = 9 /\ i.2 = true then 108 else if strc n.k = true /\ i.1 = 32 then 109 else 0
def inn (n : Nd) (i : Nat × Bool) : Nat × Bool := (i.1 + 1, i.2 || n.k == 8)
def ck (names : List ByteArray) : Nd -> Nat × Bool -> Int
 | ⟨k, op, v, nm, th, el, has, p⟩ => fun i =>
  if own1 names ⟨k, op, v, nm, th, el, has, p⟩ i = 0 then
   (if fe (th.map (ck names)) (inn ⟨k, op, v, nm, th, el, has, p⟩ i) = 0 then fe (el.map (ck names)) (inn ⟨k, op, v, nm, th, el, has, p⟩ i) else fe (th.map (ck names)) (inn ⟨k, op, v, nm, th, el, has, p⟩ i))
  else own1 names ⟨k, op, v, nm, th, el, has, p⟩ i
def cks (names : List ByteArray) (l : List Nd) : Nat × Bool -> Int := fe (l.map (ck names))
theorem ck_is (names : List ByteArray) (n : Nd) (i : Nat × Bool) : ck names n i = if own1 names n i = 0 then (if cks names n.th (inn n i) = 0 then cks names n.el (inn n i) else cks names n.th (inn n i)) else own1 names n i := by
 cases n; rw [ck]; rfl
theorem cks_nil (names : List ByteArray) (i : Nat × Bool) : cks names [] i = 0 := rfl
theorem cks_cons (names : List ByteArray) (n : Nd) (r : List Nd) (i : Nat × Bool) : cks names (n :: r) i = if ck names n i = 0 then cks names r i else ck names n i := rfl
theorem fe_append {α : Type} (a : α) : ∀ l m : List (α -> Int), fe (l ++ m) a = if fe l a = 0 then fe m a else fe l a
 | [], m => by simp [fe]
 | f :: r, m => by
  rw [List.cons_append, fe, fe, fe_append a r m]
  by_cases h : f a = 0 <;> simp [h]
theorem cks_append (names : List ByteArray) (l m : List Nd) (i : Nat × Bool) : cks names (l ++ m) i = if cks names l i = 0 then cks names m i else cks names l i := by
 unfold cks; rw [List.map_append, fe_append]
theorem cks_take_succ (names : List ByteArray) (l : List Nd) (k : Nat) (n : Nd) (i : Nat × Bool) (h : l[k]? = some n) (h0 : cks names (l.take k) i = 0) : cks names (l.take (k + 1)) i = ck names n i := by
 rw [List.take_add_one, h, cks_append, if_pos h0]
 show cks names [n] i = _
 rw [cks_cons, cks_nil]
 by_cases e : ck names n i = 0 <;> simp [e]
theorem fe_stop {α : Type} (a : α) : ∀ (l : List (α -> Int)) (k : Nat), fe (l.take k) a ≠ 0 -> fe l a = fe (l.take k) a
 | [], k, h => by simp
 | f :: r, 0, h => absurd rfl h
 | f :: r, k + 1, h => by
  rw [List.take_succ_cons, fe] at h ⊢
  rw [fe]
  by_cases e : f a = 0
  ·rw [if_pos e] at h ⊢; rw [if_pos e, fe_stop a r k h]
  ·rw [if_neg e, if_neg e]
theorem cks_stop (names : List ByteArray) (l : List Nd) (k : Nat) (i : Nat × Bool) (h : cks names (l.take k) i ≠ 0) : cks names l i = cks names (l.take k) i := by
 unfold cks at h ⊢
 rw [List.map_take] at h ⊢
 exact fe_stop i _ k h
def fieldsF (k v : Int) (b : Bool) : Bool := if k = 1 then v == 0 else if k = 2 \/ k = 3 then b else false
def dfE (names : List ByteArray) (d : Df) : Int :=
 if fieldsF d.k d.v d.body.isEmpty = false then 100 else if isNm d.nm = false then 101 else if names.any (fun s => decide (s = d.nm)) = true then 102 else if d.k = 3 /\ 16384 < d.v then 106 else cks names d.body (0, false)
def dsE : List ByteArray -> List Df -> Int
 | _, [] => 0
 | ns, d :: r => if dfE ns d = 0 then dsE (ns ++ [d.nm]) r else dfE ns d
abbrev Bk := Int × List UInt8
def bkE : Int -> List Bk -> Int
 | _, [] => 0
 | last, b :: r => if b.1 < 0 \/ 16 <= b.1 \/ 16384 < b.2.length then 106 else if b.1 <= last then 102 else bkE b.1 r
def isMain (d : Df) : Bool := d.k == 1 && decide (d.nm = ⟨#[109, 97, 105, 110]⟩)
def chk (ds : List Df) (bs : List Bk) : Int := if dsE [] ds = 0 then (if bkE (-1) bs = 0 then (if ds.any isMain then 0 else 107) else bkE (-1) bs) else dsE [] ds
end Go.Proofs.YtoemoiehjdmheaaGreat.R
