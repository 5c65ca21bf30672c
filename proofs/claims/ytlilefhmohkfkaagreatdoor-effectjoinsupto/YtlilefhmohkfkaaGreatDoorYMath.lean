import Derived.Test.YtlilefhmohkfkaaGreatDoorProg
import Derived.WalkKit
import Derived.KernelRfl
/-! What a program is; how many cells nodes come to; the places of definitions. -/
namespace Go.Proofs.YtlilefhmohkfkaaGreatDoor.Y
open Go.RowKit
set_option linter.unusedVariables false
abbrev Ps := Int × Int
/-- A node: its kind, primitive, value, name, both lists, whether it has an else, its place. -/
structure Nd where
  k : Int
  op : Int
  v : Int
  nm : ByteArray
  th : List Nd
  el : List Nd
  has : Bool
  p : Ps
def e0 : ByteArray := ⟨#[]⟩
structure Df where
  k : Int
  nm : ByteArray
  v : Int
  body : List Nd
  p : Ps
/-- The cells of a node whose lists come to a and b. -/
def cn (k : Int) (has : Bool) (a b : Int) : Int :=
  if k = 1 ∨ k = 3 ∨ k = 9 then 1 else if k = 2 then 2 else if k = 4 then (if has then 4 + a + b else 2 + a) else if k = 5 ∨ k = 7 then a + 2 else if k = 6 then a + b + 4 else if k = 8 then a + 3 else 0
def ce : Nd → Int
  | ⟨k, _, _, _, th, el, has, _⟩ => cn k has (th.map ce).sum (el.map ce).sum
def cl (l : List Nd) : Int := (l.map ce).sum
theorem ce_is (n : Nd) : ce n = cn n.k n.has (cl n.th) (cl n.el) := by cases n; rw [ce]; rfl
theorem cl_nil : cl [] = 0 := rfl
theorem cl_cons (n : Nd) (r : List Nd) : cl (n :: r) = ce n + cl r := by simp [cl]
theorem cn_nn (k : Int) (has : Bool) (a b : Int) (ha : 0 ≤ a) (hb : 0 ≤ b) : 0 ≤ cn k has a b := by
  unfold cn
  repeat' split
  all_goals omega
theorem Nd.ind {P : Nd → Prop} (h : ∀ n : Nd, (∀ m ∈ n.th, P m) → (∀ m ∈ n.el, P m) → P n) : ∀ n, P n := by
  intro n
  generalize hs : SizeOf.sizeOf n = s
  induction s using Nat.strongRecOn generalizing n with
  | ind s ih =>
    refine h n (fun m hm => ih (SizeOf.sizeOf m) ?_ m rfl) (fun m hm => ih (SizeOf.sizeOf m) ?_ m rfl)
    · obtain ⟨k, op, v, nm, th, el, has, p⟩ := n
      have h1 : SizeOf.sizeOf m < SizeOf.sizeOf th := List.sizeOf_lt_of_mem hm
      simp only [Nd.mk.sizeOf_spec] at hs
      omega
    · obtain ⟨k, op, v, nm, th, el, has, p⟩ := n
      have h1 : SizeOf.sizeOf m < SizeOf.sizeOf el := List.sizeOf_lt_of_mem hm
      simp only [Nd.mk.sizeOf_spec] at hs
      omega
theorem cl_nn_of : ∀ l : List Nd, (∀ m ∈ l, 0 ≤ ce m) → 0 ≤ cl l
  | [], _ => by rw [cl_nil]; decide
  | n :: r, h => by
    rw [cl_cons]
    have h1 := h n (by simp)
    have h2 := cl_nn_of r fun m hm => h m (by simp [hm])
    omega
theorem ce_nn (n : Nd) : 0 ≤ ce n := Nd.ind (P := fun n => 0 ≤ ce n) (fun n h1 h2 => by rw [ce_is]; exact cn_nn _ _ _ _ (cl_nn_of _ h1) (cl_nn_of _ h2)) n
theorem cl_nn (l : List Nd) : 0 ≤ cl l := cl_nn_of l fun m _ => ce_nn m
/-! ### Numbers that go round -/
theorem w_in (a : Int) (h : -9223372036854775808 ≤ a ∧ a ≤ 9223372036854775807) : wrap64 a = a := by unfold wrap64; omega
/-! ### Places -/
def dr (d : Df) : Int := if d.k = 3 then d.v else 0
/-- What is taken: definitions, bytes of code, bytes of variables. -/
abbrev Rm := Int × Int × Int
def ps (r : Rm) : Int := if 512 < r.1 then 110 else if 16384 < r.2.1 then 111 else if 16384 < r.2.2 then 112 else 0
end Go.Proofs.YtlilefhmohkfkaaGreatDoor.Y
