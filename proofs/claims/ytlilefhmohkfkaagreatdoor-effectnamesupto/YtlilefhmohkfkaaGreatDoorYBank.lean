import Derived.Test.YtlilefhmohkfkaaGreatDoorYDef
import Derived.Test.YtlilefhmohkfkaaGreatDoorSKit
import Derived.Laws.BytesArg
namespace Go.Proofs.YtlilefhmohkfkaaGreatDoor.Y
open Go.RowKit
open Go.Proofs
set_option linter.unusedVariables false
set_option linter.unusedSimpArgs false
set_option maxHeartbeats 4000000
set_option maxRecDepth 100000
abbrev Bk := Int × List UInt8
def BS (W : World) (O : Nat -> Prop) (v : Value) (l : List UInt8) : Prop := (ZV v /\ l = []) \/ ∃ b o c, v = .slice (some ⟨b, o, none⟩) l.length c /\ O b /\ ∀ (j : Nat) x, l[j]? = some x -> W.cell? ⟨b, o + j, none⟩ = some (.int .u8 (x.toNat : Int))
theorem BS.kept {W W' : World} {O O' : Nat -> Prop} {v : Value} {l : List UInt8} (h : BS W O v l) (k : ∀ i, O i -> W'.heap[i]? = W.heap[i]?) (m : ∀ i, O i -> O' i) : BS W' O' v l := by
 rcases h with h | ⟨b, o, c, e1, e2, e4⟩
 ·exact .inl h
 ·exact .inr ⟨b, o, c, e1, m _ e2, fun j x hx => (World.cell?_of_block (w := W) (a := ⟨b, o + j, none⟩) (k b e2)).trans (e4 j x hx)⟩
theorem BS.below {W W' : World} {O : Nat -> Prop} {v : Value} {l : List UInt8} (h : BS W O v l) (k : Below W.heap.size W W') (hO : ∀ i, O i -> i < W.heap.size) : BS W' O v l := h.kept (fun i hi => k.block i (hO i hi)) fun _ h => h
theorem BS.ex {W : World} {O : Nat -> Prop} {v : Value} {l : List UInt8} (h : BS W O v l) : ∃ p c, v = .slice p l.length c := by
 rcases h with ⟨rfl | ⟨a, c, rfl⟩, rfl⟩ | ⟨b, o, c, rfl, _⟩
 ·exact ⟨none, 0, rfl⟩
 ·exact ⟨some a, c, rfl⟩
 ·exact ⟨_, c, rfl⟩
theorem BS.conv {W : World} {O : Nat -> Prop} {v : Value} {l : List UInt8} (h : BS W O v l) : (convert 66 9 v).run Tryz.prog W = .ok (.string ⟨l.toArray⟩) W := by
 rcases h with ⟨rfl | ⟨a, c, rfl⟩, rfl⟩ | ⟨b, o, c, rfl, _, h⟩
 ·rw [run_convert_bytes_string W 66 9 5 none 0 0 Tryz.underlying66 Tryz.underlying5 Tryz.underlying9]; rfl
 ·exact run_convert_bytes_back (P := Tryz.prog) W 66 9 5 a c [] Tryz.underlying66 Tryz.underlying5 Tryz.underlying9 (fun j hj => by simp at hj)
 ·exact run_convert_bytes_back (P := Tryz.prog) W 66 9 5 ⟨b, o, none⟩ c l Tryz.underlying66 Tryz.underlying5 Tryz.underlying9 (fun j hj => by rw [Addr.add_lit]; exact h j _ (by simp))
def eb (x : UInt8) : List Value := [.int .u8 (x.toNat : Int)]
theorem hEb (x : UInt8) : (eb x).length = 1 := rfl
def B1 (W : World) (O : Nat -> Prop) (b o : Nat) (d : Bk) : Prop := ∃ bv, (W.cell? ⟨b, o, none⟩ = some (.int .i64 d.1) /\ W.cell? ⟨b, o + 1, none⟩ = some bv) /\ BS W O bv d.2
def BV (W : World) (O : Nat -> Prop) (v : Value) (ds : List Bk) : Prop := ∃ p c, v = .slice p ds.length c /\ ∀ (i : Nat) (d : Bk), ds[i]? = some d -> ∃ b o, p = some ⟨b, o, none⟩ /\ O b /\ B1 W O b (o + i * 2) d
theorem BV.kept {W W' : World} {O O' : Nat -> Prop} {v : Value} {ds : List Bk} (h : BV W O v ds) (k : ∀ i, O i -> W'.heap[i]? = W.heap[i]?) (m : ∀ i, O i -> O' i) : BV W' O' v ds := by
 obtain ⟨p, c, e, h⟩ := h
 refine ⟨p, c, e, fun i d hd => ?_⟩
 obtain ⟨b, o, e1, e2, bv, ⟨e3, e4⟩, e5⟩ := h i d hd
 exact ⟨b, o, e1, m _ e2, bv, ⟨(World.cell?_of_block (w := W) (a := ⟨b, o + i * 2, none⟩) (k b e2)).trans e3, (World.cell?_of_block (w := W) (a := ⟨b, o + i * 2 + 1, none⟩) (k b e2)).trans e4⟩, e5.kept k m⟩
theorem BV.below {W W' : World} {O : Nat -> Prop} {v : Value} {l : List Bk} (h : BV W O v l) (k : Below W.heap.size W W') (hO : ∀ i, O i -> i < W.heap.size) : BV W' O v l := h.kept (fun i hi => k.block i (hO i hi)) fun _ h => h
set_option maxHeartbeats 4000000
set_option maxRecDepth 100000
def NC (W : World) (O : Nat -> Prop) : List Nd -> List Value -> Prop
 | [], cs => cs = []
 | n :: r, cs => ∃ tv ev cs', cs = ndc n tv ev ++ cs' /\ NV W O tv n.th /\ NV W O ev n.el /\ NC W O r cs'
theorem ndc_len (n : Nd) (tv ev : Value) : (ndc n tv ev).length = 9 := rfl
theorem NC.app {W : World} {O : Nat -> Prop} : ∀ {l l' : List Nd} {cs cs' : List Value}, NC W O l cs -> NC W O l' cs' -> NC W O (l ++ l') (cs ++ cs')
 | [], l', cs, cs', h, h' => by rw [NC] at h; subst h; exact h'
 | n :: r, l', cs, cs', h, h' => by
  rw [NC] at h
  obtain ⟨tv, ev, c2, rfl, ht, he, h2⟩ := h
  rw [List.cons_append, NC]
  exact ⟨tv, ev, c2 ++ cs', by rw [List.append_assoc], ht, he, NC.app h2 h'⟩
theorem NC.kept {W W' : World} {O O' : Nat -> Prop} (k : ∀ i, O i -> W'.heap[i]? = W.heap[i]?) (m : ∀ i, O i -> O' i) : ∀ {l : List Nd} {cs : List Value}, NC W O l cs -> NC W' O' l cs
 | [], cs, h => by rw [NC] at h ⊢; exact h
 | n :: r, cs, h => by
  rw [NC] at h ⊢
  obtain ⟨tv, ev, c2, rfl, ht, he, h2⟩ := h
  exact ⟨tv, ev, c2, rfl, ht.kept k m, he.kept k m, NC.kept k m h2⟩
theorem NC.na {W : World} {O : Nat -> Prop} {b : Nat} : ∀ {l : List Nd} {o : Nat} {cs : List Value}, NC W O l cs -> (∀ (j : Nat) u, cs[j]? = some u -> W.cell? ⟨b, o + j, none⟩ = some u) -> NA W O b o l
 | [], o, cs, _, _ => NA.nil _ _ _ _
 | n :: r, o, cs, h, hc => by
  rw [NC] at h
  obtain ⟨tv, ev, c2, rfl, ht, he, h2⟩ := h
  refine NA.cons (N1.mk tv ev (fun j x hx => hc j x (by rw [List.getElem?_append_left (List.getElem?_eq_some_iff.1 hx).1]; exact hx)) ht he) (NC.na h2 fun j u hj => ?_)
  have := hc (9 + j) u (by rw [List.getElem?_append_right (by rw [ndc_len]; omega), ndc_len, Nat.add_sub_cancel_left]; exact hj)
  rw [show o + 9 + j = o + (9 + j) by omega]
  exact this
theorem own_nv {W : World} {O : Nat -> Prop} {B : Nat} {v : Value} {l : List Nd} {cs : List Value} (h : W.ownsRow B 30 9 v l.length cs) (hc : NC W O l cs) (hl : l.length <= 140737488355328) (hO : ∀ g, v.ownBlock = some g -> O g) : NV W O v l := by
 rcases h.2 with ⟨rfl, e⟩ | ⟨g, cap, cur, rfl, h2, h3⟩
 ·obtain rfl := List.eq_nil_of_length_eq_zero e
  exact NV.nil (.inl rfl)
 ·refine NV.row (hO g rfl) hl (hc.na fun j u hj => ?_)
  have := World.ownsRow.cells h (g := g) rfl j u hj
  rw [Addr.add_lit] at this
  exact this
theorem infoNd : (Tryz.prog.info? 30).map (fun i => (i.zero, i.size, i.bytes)) = some (some (.agg #[.int .i64 0, .int .i64 0, .int .u16 0, .string ⟨#[]⟩, .slice none 0 0, .slice none 0 0, .bool false, .int .i64 0, .int .i64 0]), 9, 112) := by kernel_rfl
end Go.Proofs.YtlilefhmohkfkaaGreatDoor.Y
