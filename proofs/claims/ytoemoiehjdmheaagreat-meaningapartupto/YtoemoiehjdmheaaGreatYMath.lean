import Derived.Test.YtoemoiehjdmheaaGreatProg
import Derived.WalkKit
import Derived.KernelRfl
namespace Go.Proofs.YtoemoiehjdmheaaGreat.Y
open Go.RowKit
set_option linter.unusedVariables false
abbrev Ps := Int × Int
structure Nd where
 k : Int
 op : Int
 v : Int
 nm : ByteArray
 th : List Nd
 el : List Nd
 has : Bool
 p : Ps
def e0 : ByteArray := ⟨#[]⟩
structure Df where
 k : Int
 nm : ByteArray
 v : Int
 body : List Nd
 p : Ps
def cn (k : Int) (has : Bool) (a b : Int) : Int :=
 if k = 1 \/ k = 3 \/ k = 9 then 1 else if k = 2 then 2 else if k = 4 then (if has then 4 + a + b else 2 + a) else if k = 5 \/ k = 7 then a + 2 else if k = 6 then a + b + 4 else if k = 8 then a + 3 else 0
def ce : Nd -> Int
 | ⟨k, _, _, _, th, el, has, _⟩ => cn k has (th.map ce).sum (el.map ce).sum
def cl (l : List Nd) : Int := (l.map ce).sum
theorem ce_is (n : Nd) : ce n = cn n.k n.has (cl n.th) (cl n.el) := by cases n; rw [ce]; rfl
theorem cl_nil : cl [] = 0 := rfl
theorem cl_cons (n : Nd) (r : List Nd) : cl (n :: r) = ce n + cl r := by simp [cl]
theorem cl_append : ∀ a b : List Nd, cl (a ++ b) = cl a + cl b
 | [], b => by rw [cl_nil, List.nil_append, Int.zero_add]
 | n :: r, b => by rw [List.cons_append, cl_cons, cl_cons, cl_append r b]; omega
theorem Nd.ind {P : Nd -> Prop} (h : ∀ n : Nd, (∀ m ∈ n.th, P m) -> (∀ m ∈ n.el, P m) -> P n) : ∀ n, P n := by
 intro n
 generalize hs : SizeOf.sizeOf n = s
 induction s using Nat.strongRecOn generalizing n with
 | ind s ih =>
  refine h n (fun m hm => ih (SizeOf.sizeOf m) ?_ m rfl) (fun m hm => ih (SizeOf.sizeOf m) ?_ m rfl)
  ·obtain ⟨k, op, v, nm, th, el, has, p⟩ := n
   have h1 : SizeOf.sizeOf m < SizeOf.sizeOf th := List.sizeOf_lt_of_mem hm
   simp only [Nd.mk.sizeOf_spec] at hs
   omega
  ·obtain ⟨k, op, v, nm, th, el, has, p⟩ := n
   have h1 : SizeOf.sizeOf m < SizeOf.sizeOf el := List.sizeOf_lt_of_mem hm
   simp only [Nd.mk.sizeOf_spec] at hs
   omega
theorem cl_take_succ (l : List Nd) (k : Nat) (n : Nd) (h : l[k]? = some n) : cl (l.take (k + 1)) = cl (l.take k) + ce n := by
 rw [List.take_add_one, h, cl_append]
 show _ + cl [n] = _
 rw [cl_cons, cl_nil]; omega
theorem cl_take_all (l : List Nd) (k : Nat) (h : l.length <= k) : cl (l.take k) = cl l := by rw [List.take_of_length_le h]
theorem w_eq {a b : Int} (h : a % 18446744073709551616 = b % 18446744073709551616) : wrap64 a = wrap64 b := by unfold wrap64; omega
theorem w_em (a : Int) : wrap64 a % 18446744073709551616 = a % 18446744073709551616 := by unfold wrap64; omega
theorem w_lo (a : Int) : -9223372036854775808 <= wrap64 a := by unfold wrap64; omega
theorem w_hi (a : Int) : wrap64 a <= 9223372036854775807 := by unfold wrap64; omega
theorem w_in (a : Int) (h : -9223372036854775808 <= a /\ a <= 9223372036854775807) : wrap64 a = a := by unfold wrap64; omega
theorem w_u16 (a : Int) : wrap64 a % 65536 = a % 65536 := by unfold wrap64; omega
theorem w_al (a b : Int) : wrap64 (wrap64 a + b) = wrap64 (a + b) := w_eq (by have := w_em a; omega)
theorem w_ar (a b : Int) : wrap64 (a + wrap64 b) = wrap64 (a + b) := w_eq (by have := w_em b; omega)
structure Pl where
 nm : ByteArray
 at_ : Int
 sz : Int
 ram : Int
def db (d : Df) : Int := if d.k = 1 then 4 + 2 * cl d.body else if d.k = 2 \/ d.k = 3 then 4 else 0
def dr (d : Df) : Int := if d.k = 3 then d.v else 0
abbrev Rm := Int × Int × Int
def wt (r : Rm) (d : Df) : Rm := (wrap64 (r.1 + 1), wrap64 (r.2.1 + db d), wrap64 (r.2.2 + dr d))
def ps (r : Rm) : Int := if 512 < r.1 then 110 else if 16384 < r.2.1 then 111 else if 16384 < r.2.2 then 112 else 0
def bt (d : Df) (a b : Rm) : Pl := ⟨d.nm, a.2.1 % 65536, wrap64 (b.2.1 - a.2.1), if d.k = 3 then (32768 + a.2.2) % 65536 else 0⟩
def nn : Nd -> Nat
 | ⟨_, _, _, _, th, el, _, _⟩ => 1 + (th.map nn).sum + (el.map nn).sum
def nl (l : List Nd) : Nat := (l.map nn).sum
theorem nn_is (n : Nd) : nn n = 1 + nl n.th + nl n.el := by cases n; rw [nn]; rfl
theorem nl_cons (n : Nd) (r : List Nd) : nl (n :: r) = nn n + nl r := by simp [nl]
theorem nl_len : ∀ l : List Nd, l.length <= nl l
 | [] => Nat.le_refl _
 | n :: r => by have := nl_len r; rw [nl_cons, nn_is, List.length_cons]; omega
theorem nl_mem : ∀ {l : List Nd} {n : Nd}, n ∈ l -> nn n <= nl l
 | m :: r, n, h => by
  rw [nl_cons]
  rcases List.mem_cons.1 h with rfl | h
  ·omega
  ·have := nl_mem h; omega
theorem nl_th {l : List Nd} {n : Nd} (h : n ∈ l) : nl n.th <= nl l := by have := nl_mem h; rw [nn_is] at this; omega
theorem nl_el {l : List Nd} {n : Nd} (h : n ∈ l) : nl n.el <= nl l := by have := nl_mem h; rw [nn_is] at this; omega
end Go.Proofs.YtoemoiehjdmheaaGreat.Y
