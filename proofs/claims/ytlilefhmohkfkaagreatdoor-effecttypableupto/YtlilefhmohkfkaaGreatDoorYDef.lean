import Derived.Test.YtlilefhmohkfkaaGreatDoorYKit
import Derived.Test.YtlilefhmohkfkaaGreatDoorSKit
import Derived.Deep.DeepCutAuto
import Derived.Deep.RegionHeld3
import Derived.BigQuiet
namespace Go.Proofs.YtlilefhmohkfkaaGreatDoor.Y
open Go.RowKit
open Go.Proofs
set_option linter.unusedVariables false
set_option linter.unusedSimpArgs false
def dfc (d : Df) (bv : Value) : List Value := [.int .i64 d.k, .string d.nm, .int .u16 d.v, bv, .int .i64 d.p.1, .int .i64 d.p.2]
def D1 (W : World) (O : Nat -> Prop) (b o : Nat) (d : Df) : Prop := ∃ bv, (∀ (j : Nat) (x : Value), (dfc d bv)[j]? = some x -> W.cell? ⟨b, o + j, none⟩ = some x) /\ NV W O bv d.body
def DV (W : World) (O : Nat -> Prop) (v : Value) (ds : List Df) : Prop := ∃ p c, v = .slice p ds.length c /\ ds.length <= 140737488355328 /\ ∀ (i : Nat) (d : Df), ds[i]? = some d -> ∃ b o, p = some ⟨b, o, none⟩ /\ O b /\ D1 W O b (o + i * 6) d
theorem cells6 {W : World} {b o : Nat} {n : Df} {bv : Value} (h : ∀ (j : Nat) (x : Value), (dfc n bv)[j]? = some x -> W.cell? ⟨b, o + j, none⟩ = some x) : W.cell? ⟨b, o, none⟩ = some (.int .i64 n.k) /\ W.cell? ⟨b, o + 1, none⟩ = some (.string n.nm) /\ W.cell? ⟨b, o + 2, none⟩ = some (.int .u16 n.v) /\ W.cell? ⟨b, o + 3, none⟩ = some bv /\ W.cell? ⟨b, o + 4, none⟩ = some (.int .i64 n.p.1) /\ W.cell? ⟨b, o + 5, none⟩ = some (.int .i64 n.p.2) :=
 ⟨h 0 _ rfl, h 1 _ rfl, h 2 _ rfl, h 3 _ rfl, h 4 _ rfl, h 5 _ rfl⟩
theorem D1.kept {W W' : World} {O O' : Nat -> Prop} {b o : Nat} {d : Df} (h : D1 W O b o d) (hb : W'.heap[b]? = W.heap[b]?) (k : ∀ i, O i -> W'.heap[i]? = W.heap[i]?) (m : ∀ i, O i -> O' i) : D1 W' O' b o d := by
 obtain ⟨bv, hc, hn⟩ := h
 exact ⟨bv, fun j x hx => (World.cell?_of_block (w := W) (a := ⟨b, o + j, none⟩) hb).trans (hc j x hx), hn.kept k m⟩
theorem DV.kept {W W' : World} {O O' : Nat -> Prop} {v : Value} {l : List Df} (h : DV W O v l) (k : ∀ i, O i -> W'.heap[i]? = W.heap[i]?) (m : ∀ i, O i -> O' i) : DV W' O' v l := by
 obtain ⟨p, c, rfl, hl, hp⟩ := h
 refine ⟨p, c, rfl, hl, fun i d hi => ?_⟩
 obtain ⟨b, o, e, hO, hD⟩ := hp i d hi
 exact ⟨b, o, e, m _ hO, hD.kept (k b hO) k m⟩
theorem DV.below {W W' : World} {O : Nat -> Prop} {v : Value} {l : List Df} (h : DV W O v l) (k : Below W.heap.size W W') (hO : ∀ i, O i -> i < W.heap.size) : DV W' O v l := h.kept (fun i hi => k.block i (hO i hi)) fun _ h => h
end Go.Proofs.YtlilefhmohkfkaaGreatDoor.Y
