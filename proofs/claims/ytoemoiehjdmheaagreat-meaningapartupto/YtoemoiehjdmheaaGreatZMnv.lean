import Derived.Test.YtoemoiehjdmheaaGreatZMth
import Derived.Test.YtoemoiehjdmheaaGreatYKit
import Derived.Test.YtoemoiehjdmheaaGreatSKit
namespace Go.Proofs.YtoemoiehjdmheaaGreat.Z
open Go.RowKit
open Go.Proofs
open Go.Proofs.YtoemoiehjdmheaaGreat.Y (Nd Df Ps Pl hid ZV)
set_option linter.unusedVariables false
set_option linter.unusedSimpArgs false
def mnc (n : Mn) (wv tv ov : Value) : List Value := [.int .i64 n.op, .int .u16 n.v, wv, .int .i64 n.p.1, .int .i64 n.p.2, .int .i64 n.k, tv, ov, .bool n.has]
def WR (W : World) (O : Nat -> Prop) (R : Value -> List Mn -> Prop) (wv : Value) (w : List (List Mn)) (wp : Ps) : Prop :=
 (w = [] /\ wv = .pointer none) \/ ∃ (b : Nat) (l : List Mn) (bv : Value), w = [l] /\ wv = .pointer (some ⟨b, 0, none⟩) /\ O b /\ W.heap[b]? = some (.cells [bv, .int .i64 wp.1, .int .i64 wp.2].toArray 149 (0, 0)) /\ R bv l
def NF (W : World) (O : Nat -> Prop) (R : Value -> List Mn -> Prop) (v : Value) (l : List Mn) : Prop :=
 (ZV v /\ l = []) \/ ∃ b o c, v = .slice (some ⟨b, o, none⟩) l.length c /\ O b /\ l.length <= 140737488355328 /\ ∀ (i : Nat) (n : Mn), l[i]? = some n ->
  ∃ wv tv ov : Value, (∀ (j : Nat) (x : Value), (mnc n wv tv ov)[j]? = some x -> W.cell? ⟨b, o + i * 9 + j, none⟩ = some x) /\ WR W O R wv n.w n.wp /\ R tv n.th /\ R ov n.ot
theorem WR.mono {W : World} {O : Nat -> Prop} {R R' : Value -> List Mn -> Prop} {wv : Value} {w : List (List Mn)} {wp : Ps} (h : WR W O R wv w wp) (k : ∀ v l, R v l -> R' v l) : WR W O R' wv w wp := by
 rcases h with h | ⟨b, l, bv, e1, e2, e3, e4, e5⟩
 ·exact .inl h
 ·exact .inr ⟨b, l, bv, e1, e2, e3, e4, k _ _ e5⟩
theorem NF.mono {W : World} {O : Nat -> Prop} {R R' : Value -> List Mn -> Prop} {v : Value} {l : List Mn} (h : NF W O R v l) (k : ∀ v l, R v l -> R' v l) : NF W O R' v l := by
 rcases h with h | ⟨b, o, c, e1, e2, e4, e3⟩
 ·exact .inl h
 ·refine .inr ⟨b, o, c, e1, e2, e4, fun i n hi => ?_⟩
  obtain ⟨wv, tv, ev, hc, hw, ht, he⟩ := e3 i n hi
  exact ⟨wv, tv, ev, hc, hw.mono k, k _ _ ht, k _ _ he⟩
def MNV (W : World) (O : Nat -> Prop) (v : Value) (l : List Mn) : Prop := ∀ R : Value -> List Mn -> Prop, (∀ v l, NF W O R v l -> R v l) -> R v l
theorem MNV.shut {W : World} {O : Nat -> Prop} {v : Value} {l : List Mn} (h : NF W O (MNV W O) v l) : MNV W O v l := fun R hR => hR v l (h.mono fun v l hv => hv R hR)
theorem MNV.out {W : World} {O : Nat -> Prop} {v : Value} {l : List Mn} (h : MNV W O v l) : NF W O (MNV W O) v l := h (NF W O (MNV W O)) fun v l hv => hv.mono fun v l h => MNV.shut h
abbrev WP (W : World) (O : Nat -> Prop) (wv : Value) (w : List (List Mn)) (wp : Ps) : Prop := WR W O (MNV W O) wv w wp
def M1 (W : World) (O : Nat -> Prop) (b o : Nat) (n : Mn) : Prop := ∃ wv tv ov : Value, (∀ (j : Nat) (x : Value), (mnc n wv tv ov)[j]? = some x -> W.cell? ⟨b, o + j, none⟩ = some x) /\ WP W O wv n.w n.wp /\ MNV W O tv n.th /\ MNV W O ov n.ot
theorem MNV.nil {W : World} {O : Nat -> Prop} {v : Value} (h : ZV v) : MNV W O v [] := MNV.shut (.inl ⟨h, rfl⟩)
theorem MNV.row {W : World} {O : Nat -> Prop} {b o c : Nat} {l : List Mn} (hO : O b) (hl : l.length <= 140737488355328) (h : ∀ (i : Nat) (n : Mn), l[i]? = some n -> M1 W O b (o + i * 9) n) : MNV W O (.slice (some ⟨b, o, none⟩) l.length c) l := MNV.shut (.inr ⟨b, o, c, rfl, hO, hl, h⟩)
theorem MNV.ex {W : World} {O : Nat -> Prop} {v : Value} {l : List Mn} (h : MNV W O v l) : ∃ p c, v = .slice p l.length c /\ l.length <= 140737488355328 /\ (∀ (i : Nat) (n : Mn), l[i]? = some n -> ∃ b o, p = some ⟨b, o, none⟩ /\ O b /\ M1 W O b (o + i * 9) n) := by
 rcases h.out with ⟨rfl | ⟨a, c, rfl⟩, rfl⟩ | ⟨b, o, c, rfl, hO, hl, hA⟩
 ·exact ⟨none, 0, rfl, by simp, fun i n h => by simp at h⟩
 ·exact ⟨some a, c, rfl, by simp, fun i n h => by simp at h⟩
 ·exact ⟨_, c, rfl, hl, fun i n h => ⟨b, o, rfl, hO, hA i n h⟩⟩
theorem WR.kept {W W' : World} {O O' : Nat -> Prop} {R : Value -> List Mn -> Prop} {wv : Value} {w : List (List Mn)} {wp : Ps} (h : WR W O R wv w wp) (k : ∀ i, O i -> W'.heap[i]? = W.heap[i]?) (m : ∀ i, O i -> O' i) : WR W' O' R wv w wp := by
 rcases h with h | ⟨b, l, bv, e1, e2, e3, e4, e5⟩
 ·exact .inl h
 ·exact .inr ⟨b, l, bv, e1, e2, m _ e3, (k b e3).trans e4, e5⟩
theorem MNV.kept {W W' : World} {O O' : Nat -> Prop} {v : Value} {l : List Mn} (h : MNV W O v l) (k : ∀ i, O i -> W'.heap[i]? = W.heap[i]?) (m : ∀ i, O i -> O' i) : MNV W' O' v l := by
 refine h (MNV W' O') fun v l hv => MNV.shut ?_
 rcases hv with h | ⟨b, o, c, e1, e2, e4, e3⟩
 ·exact .inl h
 ·refine .inr ⟨b, o, c, e1, m _ e2, e4, fun i n hi => ?_⟩
  obtain ⟨wv, tv, ev, hc, hw, ht, he⟩ := e3 i n hi
  exact ⟨wv, tv, ev, fun j x hx => (World.cell?_of_block (w := W) (a := ⟨b, o + i * 9 + j, none⟩) (k b e2)).trans (hc j x hx), hw.kept k m, ht, he⟩
theorem WP.keep {W W' : World} {O O' : Nat -> Prop} {wv : Value} {w : List (List Mn)} {wp : Ps} (h : WP W O wv w wp) (k : ∀ i, O i -> W'.heap[i]? = W.heap[i]?) (m : ∀ i, O i -> O' i) : WP W' O' wv w wp := (h.kept k m).mono fun _ _ h => h.kept k m
theorem MNV.below {W W' : World} {O : Nat -> Prop} {v : Value} {l : List Mn} (h : MNV W O v l) (k : Below W.heap.size W W') (hO : ∀ i, O i -> i < W.heap.size) : MNV W' O v l := h.kept (fun i hi => k.block i (hO i hi)) fun _ h => h
theorem WP.below {W W' : World} {O : Nat -> Prop} {wv : Value} {w : List (List Mn)} {wp : Ps} (h : WP W O wv w wp) (k : Below W.heap.size W W') (hO : ∀ i, O i -> i < W.heap.size) : WP W' O wv w wp := h.keep (fun i hi => k.block i (hO i hi)) fun _ h => h
theorem mcells {W : World} {b o : Nat} {n : Mn} {wv tv ov : Value} (h : ∀ (j : Nat) (x : Value), (mnc n wv tv ov)[j]? = some x -> W.cell? ⟨b, o + j, none⟩ = some x) : W.cell? ⟨b, o, none⟩ = some (.int .i64 n.op) /\ W.cell? ⟨b, o + 1, none⟩ = some (.int .u16 n.v) /\ W.cell? ⟨b, o + 2, none⟩ = some wv /\ W.cell? ⟨b, o + 3, none⟩ = some (.int .i64 n.p.1) /\ W.cell? ⟨b, o + 4, none⟩ = some (.int .i64 n.p.2) /\ W.cell? ⟨b, o + 5, none⟩ = some (.int .i64 n.k) /\ W.cell? ⟨b, o + 6, none⟩ = some tv /\ W.cell? ⟨b, o + 7, none⟩ = some ov /\ W.cell? ⟨b, o + 8, none⟩ = some (.bool n.has) :=
 ⟨h 0 _ rfl, h 1 _ rfl, h 2 _ rfl, h 3 _ rfl, h 4 _ rfl, h 5 _ rfl, h 6 _ rfl, h 7 _ rfl, h 8 _ rfl⟩
def ty (t : Nat) : TypeId := match t with
 | 0 => 197
 | 1 => 192
 | 2 => 269
 | 3 => 193
 | 4 => 194
 | 5 => 195
 | 6 => 196
 | _ => 270
def PV (W : World) (O : Nat -> Prop) : List Fr -> Ps -> Value -> Prop
 | [], e, v => v = .iface 152 (.agg #[.int .i64 e.1, .int .i64 e.2])
 | f :: r, e, v => ∃ bv be, v = .iface (ty f.t) (.agg #[bv, .int .i64 (f.n : Int), be]) /\ MNV W O bv f.b /\ f.n < f.b.length /\ f.t <= 7 /\ PV W O r e be
theorem PV.kept {W W' : World} {O O' : Nat -> Prop} (k : ∀ i, O i -> W'.heap[i]? = W.heap[i]?) (m : ∀ i, O i -> O' i) : ∀ (l : List Fr) (e : Ps) (v : Value), PV W O l e v -> PV W' O' l e v
 | [], _, _, h => h
 | f :: r, e, v, ⟨bv, be, e1, e2, e3, e4, e5⟩ => ⟨bv, be, e1, e2.kept k m, e3, e4, PV.kept k m r e be e5⟩
theorem PV.below {W W' : World} {O : Nat -> Prop} {l : List Fr} {e : Ps} {v : Value} (h : PV W O l e v) (k : Below W.heap.size W W') (hO : ∀ i, O i -> i < W.heap.size) : PV W' O l e v := PV.kept (fun i hi => k.block i (hO i hi)) (fun _ h => h) l e v h
theorem PV.isI {W : World} {O : Nat -> Prop} : ∀ (l : List Fr) (e : Ps) (v : Value), PV W O l e v -> ∃ t x, v = .iface t x
 | [], _, _, h => ⟨_, _, h⟩
 | f :: r, e, v, ⟨bv, be, e1, _⟩ => ⟨_, _, e1⟩
end Go.Proofs.YtoemoiehjdmheaaGreat.Z
