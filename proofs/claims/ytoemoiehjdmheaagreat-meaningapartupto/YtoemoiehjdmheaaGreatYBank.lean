import Derived.Test.YtoemoiehjdmheaaGreatYSize
import Derived.Test.YtoemoiehjdmheaaGreatSKit
import Derived.Laws.BytesArg
namespace Go.Proofs.YtoemoiehjdmheaaGreat.Y
open Go.RowKit
open Go.Proofs
set_option linter.unusedVariables false
set_option linter.unusedSimpArgs false
set_option maxHeartbeats 4000000
set_option maxRecDepth 100000
abbrev Bk := Int × List UInt8
def BS (W : World) (O : Nat -> Prop) (v : Value) (l : List UInt8) : Prop := (ZV v /\ l = []) \/ ∃ b o c, v = .slice (some ⟨b, o, none⟩) l.length c /\ O b /\ ∀ (j : Nat) x, l[j]? = some x -> W.cell? ⟨b, o + j, none⟩ = some (.int .u8 (x.toNat : Int))
theorem BS.kept {W W' : World} {O O' : Nat -> Prop} {v : Value} {l : List UInt8} (h : BS W O v l) (k : ∀ i, O i -> W'.heap[i]? = W.heap[i]?) (m : ∀ i, O i -> O' i) : BS W' O' v l := by
 rcases h with h | ⟨b, o, c, e1, e2, e4⟩
 ·exact .inl h
 ·exact .inr ⟨b, o, c, e1, m _ e2, fun j x hx => (World.cell?_of_block (w := W) (a := ⟨b, o + j, none⟩) (k b e2)).trans (e4 j x hx)⟩
theorem BS.below {W W' : World} {O : Nat -> Prop} {v : Value} {l : List UInt8} (h : BS W O v l) (k : Below W.heap.size W W') (hO : ∀ i, O i -> i < W.heap.size) : BS W' O v l := h.kept (fun i hi => k.block i (hO i hi)) fun _ h => h
theorem BS.ex {W : World} {O : Nat -> Prop} {v : Value} {l : List UInt8} (h : BS W O v l) : ∃ p c, v = .slice p l.length c := by
 rcases h with ⟨rfl | ⟨a, c, rfl⟩, rfl⟩ | ⟨b, o, c, rfl, _⟩
 ·exact ⟨none, 0, rfl⟩
 ·exact ⟨some a, c, rfl⟩
 ·exact ⟨_, c, rfl⟩
def eb (x : UInt8) : List Value := [.int .u8 (x.toNat : Int)]
theorem hEb (x : UInt8) : (eb x).length = 1 := rfl
theorem en_eb (l : List UInt8) (j : Nat) : (S.en eb l)[j]? = l[j]?.map fun x => .int .u8 (x.toNat : Int) := by
 have : S.en eb l = l.map fun x => Value.int .u8 (x.toNat : Int) := by
  induction l with
  | nil => rfl
  | cons a r ih => rw [S.en_cons, ih]; rfl
 rw [this, List.getElem?_map]
theorem BS.cs {W : World} {O : Nat -> Prop} {v : Value} {l : List UInt8} (h : BS W O v l) : S.Cs W v 1 l.length (S.en eb l) := by
 rcases h with ⟨rfl | ⟨a, c, rfl⟩, rfl⟩ | ⟨b, o, c, rfl, _, h⟩
 ·exact .inl ⟨rfl, rfl, rfl⟩
 ·exact .inr ⟨a, c, rfl, rfl, fun j u hj => by simp [S.en] at hj, fun u hu => by simp [S.en] at hu⟩
 ·refine .inr ⟨⟨b, o, none⟩, c, rfl, by rw [S.en_len hEb], fun j u hj => ?_, fun u hu => ?_⟩
  ·rw [en_eb] at hj
   cases hx : l[j]? with
   | none => rw [hx] at hj; cases hj
   | some x => rw [hx] at hj; cases hj; rw [Addr.add_lit]; exact h j x hx
  ·simp only [S.en, eb, List.mem_flatMap, List.mem_singleton] at hu
   obtain ⟨x, _, rfl⟩ := hu
   rfl
theorem own_bs {W : World} {B : Nat} {O : Nat -> Prop} {v : Value} {l : List UInt8} (h : W.ownsRow B 5 1 v l.length (S.en eb l)) (hO : ∀ g, v.ownBlock = some g -> O g) : BS W O v l := by
 rcases h.2 with ⟨rfl, e⟩ | ⟨g, cap, cur, rfl, h2, h3⟩
 ·exact .inl ⟨.inl rfl, List.eq_nil_of_length_eq_zero e⟩
 ·refine .inr ⟨g, 0, cap, rfl, hO g rfl, fun j x hx => ?_⟩
  have := World.ownsRow.cells h (g := g) rfl j (.int .u8 (x.toNat : Int)) (by rw [en_eb, hx]; rfl)
  rw [Addr.add_lit] at this
  exact this
def B1 (W : World) (O : Nat -> Prop) (b o : Nat) (d : Bk) : Prop := ∃ bv, (W.cell? ⟨b, o, none⟩ = some (.int .i64 d.1) /\ W.cell? ⟨b, o + 1, none⟩ = some bv) /\ BS W O bv d.2
def BV (W : World) (O : Nat -> Prop) (v : Value) (ds : List Bk) : Prop := ∃ p c, v = .slice p ds.length c /\ ∀ (i : Nat) (d : Bk), ds[i]? = some d -> ∃ b o, p = some ⟨b, o, none⟩ /\ O b /\ B1 W O b (o + i * 2) d
theorem BV.kept {W W' : World} {O O' : Nat -> Prop} {v : Value} {ds : List Bk} (h : BV W O v ds) (k : ∀ i, O i -> W'.heap[i]? = W.heap[i]?) (m : ∀ i, O i -> O' i) : BV W' O' v ds := by
 obtain ⟨p, c, e, h⟩ := h
 refine ⟨p, c, e, fun i d hd => ?_⟩
 obtain ⟨b, o, e1, e2, bv, ⟨e3, e4⟩, e5⟩ := h i d hd
 exact ⟨b, o, e1, m _ e2, bv, ⟨(World.cell?_of_block (w := W) (a := ⟨b, o + i * 2, none⟩) (k b e2)).trans e3, (World.cell?_of_block (w := W) (a := ⟨b, o + i * 2 + 1, none⟩) (k b e2)).trans e4⟩, e5.kept k m⟩
theorem BV.below {W W' : World} {O : Nat -> Prop} {v : Value} {l : List Bk} (h : BV W O v l) (k : Below W.heap.size W W') (hO : ∀ i, O i -> i < W.heap.size) : BV W' O v l := h.kept (fun i hi => k.block i (hO i hi)) fun _ h => h
set_option maxHeartbeats 4000000
set_option maxRecDepth 100000
theorem ndc_len (n : Nd) (tv ev : Value) : (ndc n tv ev).length = 9 := rfl
theorem infoNd : (Tryz.prog.info? 90).map (fun i => (i.zero, i.size, i.bytes)) = some (some (.agg #[.int .i64 0, .int .i64 0, .int .u16 0, .string ⟨#[]⟩, .slice none 0 0, .slice none 0 0, .bool false, .int .i64 0, .int .i64 0]), 9, 112) := by kernel_rfl
end Go.Proofs.YtoemoiehjdmheaaGreat.Y
