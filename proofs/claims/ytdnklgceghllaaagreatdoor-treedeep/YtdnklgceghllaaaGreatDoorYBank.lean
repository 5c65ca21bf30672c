import Derived.Test.YtdnklgceghllaaaGreatDoorYKit
import Derived.Test.YtdnklgceghllaaaGreatDoorSKit
import Derived.Deep.DeepCutAuto
import Derived.Deep.RegionHeld3
import Derived.BigQuiet
import Derived.Laws.BytesArg
namespace Go.Proofs.YtdnklgceghllaaaGreatDoor.Y
open Go.RowKit
open Go.Proofs
set_option linter.unusedVariables false
set_option linter.unusedSimpArgs false
def dfc (d : Df) (bv : Value) : List Value := [.int .i64 d.k, .string d.nm, .int .u16 d.v, bv, .int .i64 d.p.1, .int .i64 d.p.2]
def D1 (W : World) (O : Nat -> Prop) (b o : Nat) (d : Df) : Prop := ∃ bv, (∀ (j : Nat) (x : Value), (dfc d bv)[j]? = some x -> W.cell? ⟨b, o + j, none⟩ = some x) /\ NV W O bv d.body
def DV (W : World) (O : Nat -> Prop) (v : Value) (ds : List Df) : Prop := ∃ p c, v = .slice p ds.length c /\ ds.length <= 140737488355328 /\ ∀ (i : Nat) (d : Df), ds[i]? = some d -> ∃ b o, p = some ⟨b, o, none⟩ /\ O b /\ D1 W O b (o + i * 6) d
theorem cells6 {W : World} {b o : Nat} {n : Df} {bv : Value} (h : ∀ (j : Nat) (x : Value), (dfc n bv)[j]? = some x -> W.cell? ⟨b, o + j, none⟩ = some x) : W.cell? ⟨b, o, none⟩ = some (.int .i64 n.k) /\ W.cell? ⟨b, o + 1, none⟩ = some (.string n.nm) /\ W.cell? ⟨b, o + 2, none⟩ = some (.int .u16 n.v) /\ W.cell? ⟨b, o + 3, none⟩ = some bv /\ W.cell? ⟨b, o + 4, none⟩ = some (.int .i64 n.p.1) /\ W.cell? ⟨b, o + 5, none⟩ = some (.int .i64 n.p.2) :=
 ⟨h 0 _ rfl, h 1 _ rfl, h 2 _ rfl, h 3 _ rfl, h 4 _ rfl, h 5 _ rfl⟩
theorem D1.kept {W W' : World} {O O' : Nat -> Prop} {b o : Nat} {d : Df} (h : D1 W O b o d) (hb : W'.heap[b]? = W.heap[b]?) (k : ∀ i, O i -> W'.heap[i]? = W.heap[i]?) (m : ∀ i, O i -> O' i) : D1 W' O' b o d := by
 obtain ⟨bv, hc, hn⟩ := h
 exact ⟨bv, fun j x hx => (World.cell?_of_block (w := W) (a := ⟨b, o + j, none⟩) hb).trans (hc j x hx), hn.kept k m⟩
theorem DV.kept {W W' : World} {O O' : Nat -> Prop} {v : Value} {l : List Df} (h : DV W O v l) (k : ∀ i, O i -> W'.heap[i]? = W.heap[i]?) (m : ∀ i, O i -> O' i) : DV W' O' v l := by
 obtain ⟨p, c, rfl, hl, hp⟩ := h
 refine ⟨p, c, rfl, hl, fun i d hi => ?_⟩
 obtain ⟨b, o, e, hO, hD⟩ := hp i d hi
 exact ⟨b, o, e, m _ hO, hD.kept (k b hO) k m⟩
theorem DV.below {W W' : World} {O : Nat -> Prop} {v : Value} {l : List Df} (h : DV W O v l) (k : Below W.heap.size W W') (hO : ∀ i, O i -> i < W.heap.size) : DV W' O v l := h.kept (fun i hi => k.block i (hO i hi)) fun _ h => h
end Go.Proofs.YtdnklgceghllaaaGreatDoor.Y
namespace Go.Proofs.YtdnklgceghllaaaGreatDoor.Y
open Go.RowKit
open Go.Proofs
set_option linter.unusedVariables false
set_option linter.unusedSimpArgs false
set_option maxHeartbeats 4000000
set_option maxRecDepth 100000
abbrev Bk := Int × List UInt8
def BS (W : World) (O : Nat -> Prop) (v : Value) (l : List UInt8) : Prop := (ZV v /\ l = []) \/ ∃ b o c, v = .slice (some ⟨b, o, none⟩) l.length c /\ O b /\ ∀ (j : Nat) x, l[j]? = some x -> W.cell? ⟨b, o + j, none⟩ = some (.int .u8 (x.toNat : Int))
theorem BS.kept {W W' : World} {O O' : Nat -> Prop} {v : Value} {l : List UInt8} (h : BS W O v l) (k : ∀ i, O i -> W'.heap[i]? = W.heap[i]?) (m : ∀ i, O i -> O' i) : BS W' O' v l := by
 rcases h with h | ⟨b, o, c, e1, e2, e4⟩
 ·exact .inl h
 ·exact .inr ⟨b, o, c, e1, m _ e2, fun j x hx => (World.cell?_of_block (w := W) (a := ⟨b, o + j, none⟩) (k b e2)).trans (e4 j x hx)⟩
theorem BS.below {W W' : World} {O : Nat -> Prop} {v : Value} {l : List UInt8} (h : BS W O v l) (k : Below W.heap.size W W') (hO : ∀ i, O i -> i < W.heap.size) : BS W' O v l := h.kept (fun i hi => k.block i (hO i hi)) fun _ h => h
theorem BS.ex {W : World} {O : Nat -> Prop} {v : Value} {l : List UInt8} (h : BS W O v l) : ∃ p c, v = .slice p l.length c := by
 rcases h with ⟨rfl | ⟨a, c, rfl⟩, rfl⟩ | ⟨b, o, c, rfl, _⟩
 ·exact ⟨none, 0, rfl⟩
 ·exact ⟨some a, c, rfl⟩
 ·exact ⟨_, c, rfl⟩
theorem BS.conv {W : World} {O : Nat -> Prop} {v : Value} {l : List UInt8} (h : BS W O v l) : (convert 50 9 v).run Tryz.prog W = .ok (.string ⟨l.toArray⟩) W := by
 rcases h with ⟨rfl | ⟨a, c, rfl⟩, rfl⟩ | ⟨b, o, c, rfl, _, h⟩
 ·rw [run_convert_bytes_string W 50 9 5 none 0 0 Tryz.underlying50 Tryz.underlying5 Tryz.underlying9]; rfl
 ·exact run_convert_bytes_back (P := Tryz.prog) W 50 9 5 a c [] Tryz.underlying50 Tryz.underlying5 Tryz.underlying9 (fun j hj => by simp at hj)
 ·exact run_convert_bytes_back (P := Tryz.prog) W 50 9 5 ⟨b, o, none⟩ c l Tryz.underlying50 Tryz.underlying5 Tryz.underlying9 (fun j hj => by rw [Addr.add_lit]; exact h j _ (by simp))
def eb (x : UInt8) : List Value := [.int .u8 (x.toNat : Int)]
theorem en_eb (l : List UInt8) (j : Nat) : (S.en eb l)[j]? = l[j]?.map fun x => .int .u8 (x.toNat : Int) := by
 have : S.en eb l = l.map fun x => Value.int .u8 (x.toNat : Int) := by
  induction l with
  | nil => rfl
  | cons a r ih => rw [S.en_cons, ih]; rfl
 rw [this, List.getElem?_map]
theorem own_bs {W : World} {B : Nat} {O : Nat -> Prop} {v : Value} {l : List UInt8} (h : W.ownsRow B 5 1 v l.length (S.en eb l)) (hO : ∀ g, v.ownBlock = some g -> O g) : BS W O v l := by
 rcases h.2 with ⟨rfl, e⟩ | ⟨g, cap, cur, rfl, h2, h3⟩
 ·exact .inl ⟨.inl rfl, List.eq_nil_of_length_eq_zero e⟩
 ·refine .inr ⟨g, 0, cap, rfl, hO g rfl, fun j x hx => ?_⟩
  have := World.ownsRow.cells h (g := g) rfl j (.int .u8 (x.toNat : Int)) (by rw [en_eb, hx]; rfl)
  rw [Addr.add_lit] at this
  exact this
def B1 (W : World) (O : Nat -> Prop) (b o : Nat) (d : Bk) : Prop := ∃ bv, (W.cell? ⟨b, o, none⟩ = some (.int .i64 d.1) /\ W.cell? ⟨b, o + 1, none⟩ = some bv) /\ BS W O bv d.2
def BV (W : World) (O : Nat -> Prop) (v : Value) (ds : List Bk) : Prop := ∃ p c, v = .slice p ds.length c /\ ∀ (i : Nat) (d : Bk), ds[i]? = some d -> ∃ b o, p = some ⟨b, o, none⟩ /\ O b /\ B1 W O b (o + i * 2) d
theorem BV.kept {W W' : World} {O O' : Nat -> Prop} {v : Value} {ds : List Bk} (h : BV W O v ds) (k : ∀ i, O i -> W'.heap[i]? = W.heap[i]?) (m : ∀ i, O i -> O' i) : BV W' O' v ds := by
 obtain ⟨p, c, e, h⟩ := h
 refine ⟨p, c, e, fun i d hd => ?_⟩
 obtain ⟨b, o, e1, e2, bv, ⟨e3, e4⟩, e5⟩ := h i d hd
 exact ⟨b, o, e1, m _ e2, bv, ⟨(World.cell?_of_block (w := W) (a := ⟨b, o + i * 2, none⟩) (k b e2)).trans e3, (World.cell?_of_block (w := W) (a := ⟨b, o + i * 2 + 1, none⟩) (k b e2)).trans e4⟩, e5.kept k m⟩
theorem BV.below {W W' : World} {O : Nat -> Prop} {v : Value} {l : List Bk} (h : BV W O v l) (k : Below W.heap.size W W') (hO : ∀ i, O i -> i < W.heap.size) : BV W' O v l := h.kept (fun i hi => k.block i (hO i hi)) fun _ h => h
end Go.Proofs.YtdnklgceghllaaaGreatDoor.Y
