import Derived.Test.YtoemoiehjdmheaaGreatYMath
import Derived.WalkKit
import Derived.Below
namespace Go.Proofs.YtoemoiehjdmheaaGreat.Y
open Go.RowKit
open Go.Proofs
set_option linter.unusedVariables false
set_option linter.unusedSimpArgs false
structure Hd (p : Prop) : Prop where
 out : p
theorem hid {p : Prop} (h : p) : Hd p := ⟨h⟩
def ndc (n : Nd) (tv ev : Value) : List Value := [.int .i64 n.k, .int .i64 n.op, .int .u16 n.v, .string n.nm, tv, ev, .bool n.has, .int .i64 n.p.1, .int .i64 n.p.2]
def ZV (v : Value) : Prop := v = .slice none 0 0 \/ ∃ a c, v = .slice (some a) 0 c
def NF (W : World) (O : Nat -> Prop) (R : Value -> List Nd -> Prop) (v : Value) (l : List Nd) : Prop :=
 (ZV v /\ l = []) \/ ∃ b o c, v = .slice (some ⟨b, o, none⟩) l.length c /\ O b /\ l.length <= 140737488355328 /\ ∀ (i : Nat) (n : Nd), l[i]? = some n ->
  ∃ tv ev : Value, (∀ (j : Nat) (x : Value), (ndc n tv ev)[j]? = some x -> W.cell? ⟨b, o + i * 9 + j, none⟩ = some x) /\ R tv n.th /\ R ev n.el
theorem NF.mono {W : World} {O : Nat -> Prop} {R R' : Value -> List Nd -> Prop} {v : Value} {l : List Nd} (h : NF W O R v l) (k : ∀ v l, R v l -> R' v l) : NF W O R' v l := by
 rcases h with h | ⟨b, o, c, e1, e2, e4, e3⟩
 ·exact .inl h
 ·refine .inr ⟨b, o, c, e1, e2, e4, fun i n hi => ?_⟩
  obtain ⟨tv, ev, hc, ht, he⟩ := e3 i n hi
  exact ⟨tv, ev, hc, k _ _ ht, k _ _ he⟩
def NV (W : World) (O : Nat -> Prop) (v : Value) (l : List Nd) : Prop := ∀ R : Value -> List Nd -> Prop, (∀ v l, NF W O R v l -> R v l) -> R v l
theorem NV.shut {W : World} {O : Nat -> Prop} {v : Value} {l : List Nd} (h : NF W O (NV W O) v l) : NV W O v l := fun R hR => hR v l (h.mono fun v l hv => hv R hR)
theorem NV.out {W : World} {O : Nat -> Prop} {v : Value} {l : List Nd} (h : NV W O v l) : NF W O (NV W O) v l := h (NF W O (NV W O)) fun v l hv => hv.mono fun v l h => NV.shut h
def N1 (W : World) (O : Nat -> Prop) (b o : Nat) (n : Nd) : Prop := ∃ tv ev : Value, (∀ (j : Nat) (x : Value), (ndc n tv ev)[j]? = some x -> W.cell? ⟨b, o + j, none⟩ = some x) /\ NV W O tv n.th /\ NV W O ev n.el
def NA (W : World) (O : Nat -> Prop) (b o : Nat) (l : List Nd) : Prop := ∀ (i : Nat) (n : Nd), l[i]? = some n -> N1 W O b (o + i * 9) n
theorem N1.ex {W : World} {O : Nat -> Prop} {b o : Nat} {n : Nd} (h : N1 W O b o n) : ∃ tv ev : Value, (∀ (j : Nat) (x : Value), (ndc n tv ev)[j]? = some x -> W.cell? ⟨b, o + j, none⟩ = some x) /\ NV W O tv n.th /\ NV W O ev n.el := h
theorem N1.mk {W : World} {O : Nat -> Prop} {b o : Nat} {n : Nd} (tv ev : Value) (h : ∀ (j : Nat) (x : Value), (ndc n tv ev)[j]? = some x -> W.cell? ⟨b, o + j, none⟩ = some x) (ht : NV W O tv n.th) (he : NV W O ev n.el) : N1 W O b o n := ⟨tv, ev, h, ht, he⟩
theorem NA.nil (W : World) (O : Nat -> Prop) (b o : Nat) : NA W O b o [] := fun i n h => by simp at h
theorem NA.cons {W : World} {O : Nat -> Prop} {b o : Nat} {n : Nd} {r : List Nd} (h : N1 W O b o n) (k : NA W O b (o + 9) r) : NA W O b o (n :: r)
 | 0, m, hi => by simp at hi; subst hi; simpa using h
 | i + 1, m, hi => by
  have := k i m (by simpa using hi)
  rw [show o + (i + 1) * 9 = o + 9 + i * 9 by omega]
  exact this
theorem NV.nil {W : World} {O : Nat -> Prop} {v : Value} (h : ZV v) : NV W O v [] := NV.shut (.inl ⟨h, rfl⟩)
theorem NV.row {W : World} {O : Nat -> Prop} {b o c : Nat} {l : List Nd} (hO : O b) (hl : l.length <= 140737488355328) (h : NA W O b o l) : NV W O (.slice (some ⟨b, o, none⟩) l.length c) l := NV.shut (.inr ⟨b, o, c, rfl, hO, hl, h⟩)
theorem NV.cases {W : World} {O : Nat -> Prop} {v : Value} {l : List Nd} (h : NV W O v l) : (ZV v /\ l = []) \/ ∃ b o c, v = .slice (some ⟨b, o, none⟩) l.length c /\ O b /\ l.length <= 140737488355328 /\ NA W O b o l := h.out
theorem NV.kept {W W' : World} {O O' : Nat -> Prop} {v : Value} {l : List Nd} (h : NV W O v l) (k : ∀ i, O i -> W'.heap[i]? = W.heap[i]?) (m : ∀ i, O i -> O' i) : NV W' O' v l := by
 refine h (NV W' O') fun v l hv => NV.shut ?_
 rcases hv with h | ⟨b, o, c, e1, e2, e4, e3⟩
 ·exact .inl h
 ·refine .inr ⟨b, o, c, e1, m _ e2, e4, fun i n hi => ?_⟩
  obtain ⟨tv, ev, hc, ht, he⟩ := e3 i n hi
  exact ⟨tv, ev, fun j x hx => (World.cell?_of_block (w := W) (a := ⟨b, o + i * 9 + j, none⟩) (k b e2)).trans (hc j x hx), ht, he⟩
theorem NV.ex {W : World} {O : Nat -> Prop} {v : Value} {l : List Nd} (h : NV W O v l) : ∃ p c, v = .slice p l.length c /\ l.length <= 140737488355328 /\ (∀ (i : Nat) (n : Nd), l[i]? = some n -> ∃ b o, p = some ⟨b, o, none⟩ /\ O b /\ N1 W O b (o + i * 9) n) := by
 rcases h.cases with ⟨rfl | ⟨a, c, rfl⟩, rfl⟩ | ⟨b, o, c, rfl, hO, hl, hA⟩
 ·exact ⟨none, 0, rfl, by simp, fun i n h => by simp at h⟩
 ·exact ⟨some a, c, rfl, by simp, fun i n h => by simp at h⟩
 ·exact ⟨_, c, rfl, hl, fun i n h => ⟨b, o, rfl, hO, hA i n h⟩⟩
theorem NV.below {W W' : World} {O : Nat -> Prop} {v : Value} {l : List Nd} (h : NV W O v l) (k : Below W.heap.size W W') (hO : ∀ i, O i -> i < W.heap.size) : NV W' O v l := h.kept (fun i hi => k.block i (hO i hi)) fun _ h => h
theorem cells9 {W : World} {b o : Nat} {n : Nd} {tv ev : Value} (h : ∀ (j : Nat) (x : Value), (ndc n tv ev)[j]? = some x -> W.cell? ⟨b, o + j, none⟩ = some x) : W.cell? ⟨b, o, none⟩ = some (.int .i64 n.k) /\ W.cell? ⟨b, o + 1, none⟩ = some (.int .i64 n.op) /\ W.cell? ⟨b, o + 2, none⟩ = some (.int .u16 n.v) /\ W.cell? ⟨b, o + 3, none⟩ = some (.string n.nm) /\ W.cell? ⟨b, o + 4, none⟩ = some tv /\ W.cell? ⟨b, o + 5, none⟩ = some ev /\ W.cell? ⟨b, o + 6, none⟩ = some (.bool n.has) /\ W.cell? ⟨b, o + 7, none⟩ = some (.int .i64 n.p.1) /\ W.cell? ⟨b, o + 8, none⟩ = some (.int .i64 n.p.2) :=
 ⟨h 0 _ rfl, h 1 _ rfl, h 2 _ rfl, h 3 _ rfl, h 4 _ rfl, h 5 _ rfl, h 6 _ rfl, h 7 _ rfl, h 8 _ rfl⟩
end Go.Proofs.YtoemoiehjdmheaaGreat.Y
