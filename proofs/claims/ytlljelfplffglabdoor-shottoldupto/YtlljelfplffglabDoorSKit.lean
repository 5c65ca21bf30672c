import Derived.Test.YtlljelfplffglabDoorProg
import Derived.WalkKit
import Derived.KernelRfl
import Derived.Laws.Rows
import Derived.Laws.CopyRow
import Derived.ProofKit
import Derived.Laws.MakeOwn
import Derived.Laws.OwnMore
import Derived.Deep.RegionLaw
import Derived.ArgAppend
import Derived.OwnWalk
import Derived.BigQuiet
/-! Lists in memory, element by element; the cells of a stack. -/
namespace Go.Proofs.YtlljelfplffglabDoor.S
open Go.RowKit
set_option linter.unusedVariables false
set_option linter.unusedSimpArgs false
open Go.Proofs

/-! ### Elements of some cells each -/
def en {α : Type} (e : α → List Value) (l : List α) : List Value := l.flatMap e
theorem en_append {α : Type} (e : α → List Value) (a b : List α) : en e (a ++ b) = en e a ++ en e b := by simp [en]
theorem en_nil {α : Type} (e : α → List Value) : en e [] = [] := rfl
theorem en_cons {α : Type} (e : α → List Value) (a : α) (l : List α) : en e (a :: l) = e a ++ en e l := by simp [en]
theorem en_len {α : Type} {e : α → List Value} {s : Nat} (hs : ∀ a, (e a).length = s) : ∀ l : List α, (en e l).length = l.length * s
  | [] => by simp [en]
  | a :: l => by rw [en_cons, List.length_append, hs, en_len hs l, List.length_cons, Nat.succ_mul, Nat.add_comm]
theorem en_get {α : Type} {e : α → List Value} {s : Nat} (hs : ∀ a, (e a).length = s) : ∀ (l : List α) (i j : Nat) (a : α), l[i]? = some a → j < s → (en e l)[i * s + j]? = (e a)[j]?
  | [], i, j, a, h, _ => by simp at h
  | b :: l, 0, j, a, h, hj => by
    simp at h; subst h
    rw [en_cons, Nat.zero_mul, Nat.zero_add, List.getElem?_append_left (by rw [hs]; exact hj)]
  | b :: l, i + 1, j, a, h, hj => by
    have ih := en_get hs l i j a (by simpa using h) hj
    rw [en_cons, List.getElem?_append_right (by rw [hs, Nat.succ_mul]; omega), hs, ← ih]
    congr 1
    rw [Nat.succ_mul]; omega
theorem en_take {α : Type} {e : α → List Value} {s : Nat} (hs : ∀ a, (e a).length = s) : ∀ (l : List α) (i : Nat), (en e l).take (i * s) = en e (l.take i)
  | [], i => by simp [en]
  | b :: l, 0 => by simp [en]
  | b :: l, i + 1 => by
    rw [en_cons, List.take_succ_cons, en_cons, ← en_take hs l i, List.take_append, hs, Nat.succ_mul, Nat.add_sub_cancel, List.take_of_length_le (by rw [hs]; omega)]
theorem en_drop {α : Type} {e : α → List Value} {s : Nat} (hs : ∀ a, (e a).length = s) : ∀ (l : List α) (i : Nat), (en e l).drop (i * s) = en e (l.drop i)
  | [], i => by simp [en]
  | b :: l, 0 => by simp [en]
  | b :: l, i + 1 => by
    rw [en_cons, List.drop_succ_cons, ← en_drop hs l i, List.drop_append, hs, Nat.succ_mul, Nat.add_sub_cancel, List.drop_of_length_le (by rw [hs]; omega), List.nil_append]
theorem en_part {α : Type} {e : α → List Value} {s : Nat} (hs : ∀ a, (e a).length = s) (hp : 0 < s) (l : List α) (j : Nat) (u : Value) (h : (en e l)[j]? = some u) : ∃ a, l[j / s]? = some a ∧ (e a)[j % s]? = some u := by
  have hj : j < l.length * s := by rw [← en_len hs]; exact (List.getElem?_eq_some_iff.1 h).1
  have hi : j / s < l.length := (Nat.div_lt_iff_lt_mul hp).2 hj
  refine ⟨l[j / s], List.getElem?_eq_getElem hi, ?_⟩
  rw [← en_get hs l (j / s) (j % s) _ (List.getElem?_eq_getElem hi) (Nat.mod_lt _ hp), ← h]
  congr 1
  rw [Nat.mul_comm]; exact Nat.div_add_mod j s
def eU (z : Int) : List Value := [.int .u16 z]
def eK (t : Int × Int) : List Value := [.int .i64 t.1, .int .u16 t.2]
theorem hU (a : Int) : (eU a).length = 1 := rfl
theorem hK (a : Int × Int) : (eK a).length = 2 := rfl
theorem oneU (l : List Int) : ∀ u ∈ en eU l, u.oneCell' = true := by intro u hu; simp [en, eU] at hu; obtain ⟨x, _, rfl⟩ := hu; rfl
theorem oneK (l : List (Int × Int)) : ∀ u ∈ en eK l, u.oneCell' = true := by
  intro u hu; simp [en, eK] at hu; obtain ⟨a, b, _, h⟩ := hu; rcases h with rfl | rfl <;> rfl

/-! ### The cells of a stack -/
def rest {α : Type} (z : α) (l : List α) : List α := List.replicate (256 - l.length) z
def pc {α : Type} (e : α → List Value) (z : α) (l : List α) : List Value := en e (l ++ rest z l) ++ [.int .i64 (l.length : Int)]
theorem pc_len0 {α : Type} {e : α → List Value} {s : Nat} (hs : ∀ a, (e a).length = s) (z : α) (l : List α) (h : l.length ≤ 256) : (en e (l ++ rest z l)).length = 256 * s := by
  rw [en_len hs, List.length_append, rest, List.length_replicate]; congr 1; omega
theorem pc_len {α : Type} {e : α → List Value} {s : Nat} (hs : ∀ a, (e a).length = s) (z : α) (l : List α) (h : l.length ≤ 256) : (pc e z l).length = 256 * s + 1 := by
  rw [pc, List.length_append, pc_len0 hs z l h]; rfl
theorem pc_count {α : Type} {e : α → List Value} {s : Nat} (hs : ∀ a, (e a).length = s) (z : α) (l : List α) (h : l.length ≤ 256) : (pc e z l)[256 * s]? = some (.int .i64 (l.length : Int)) := by
  rw [pc, List.getElem?_append_right (by rw [pc_len0 hs z l h]; exact Nat.le_refl _), pc_len0 hs z l h, Nat.sub_self]; rfl
theorem pc_get {α : Type} {e : α → List Value} {s : Nat} (hs : ∀ a, (e a).length = s) (z : α) (l : List α) (h : l.length ≤ 256) (i j : Nat) (a : α) (ha : l[i]? = some a) (hj : j < s) : (pc e z l)[i * s + j]? = (e a)[j]? := by
  have hi : i < l.length := (List.getElem?_eq_some_iff.1 ha).1
  have h1 : i * s + j < 256 * s := by
    have : (i + 1) * s ≤ 256 * s := Nat.mul_le_mul_right s (by omega)
    rw [Nat.succ_mul] at this; omega
  rw [pc, List.getElem?_append_left (by rw [pc_len0 hs z l h]; exact h1)]
  exact en_get hs _ i j a (by rw [List.getElem?_append_left hi]; exact ha) hj
theorem pc_put {α : Type} {e : α → List Value} {s : Nat} (hs : ∀ a, (e a).length = s) (z : α) (l x : List α) (h : l.length + x.length ≤ 256) : ((pc e z l).take (l.length * s) ++ en e x ++ (pc e z l).drop (l.length * s + x.length * s)).set (256 * s) (.int .i64 ((l.length : Int) + (x.length : Int))) = pc e z (l ++ x) := by
  have e0 : l.length * s ≤ (en e (l ++ rest z l)).length := by rw [pc_len0 hs z l (by omega)]; exact Nat.mul_le_mul_right s (by omega)
  have e0' : l.length * s + x.length * s ≤ (en e (l ++ rest z l)).length := by rw [pc_len0 hs z l (by omega), ← Nat.add_mul]; exact Nat.mul_le_mul_right s (by omega)
  have e1 : (pc e z l).take (l.length * s) = en e l := by
    rw [pc, List.take_append_of_le_length e0, en_take hs, List.take_left' rfl]
  have e2 : (pc e z l).drop (l.length * s + x.length * s) = en e (rest z (l ++ x)) ++ [.int .i64 (l.length : Int)] := by
    rw [pc, List.drop_append_of_le_length e0', ← Nat.add_mul, en_drop hs]
    congr 2
    rw [List.drop_append, List.drop_of_length_le (by omega), List.nil_append, rest, rest, List.drop_replicate, List.length_append]
    congr 1; omega
  rw [e1, e2, ← List.append_assoc, ← en_append, ← en_append]
  have e3 : (en e (l ++ x ++ rest z (l ++ x))).length = 256 * s := pc_len0 hs z (l ++ x) (by simp; omega)
  rw [List.set_append_right _ _ (by rw [e3]; exact Nat.le_refl _), e3, Nat.sub_self, pc]
  congr 1
  simp
theorem set_mid {β : Type} (a b : List β) (x y : β) : (a ++ x :: b).set a.length y = a ++ y :: b := by simp
theorem rest_snoc {α : Type} (z a : α) (l : List α) (h : l.length < 256) : rest z l = z :: rest z (l ++ [a]) := by
  rw [rest, rest, show 256 - l.length = (256 - (l ++ [a]).length) + 1 by simp; omega, List.replicate_succ]
theorem pcU_pop (l : List Int) (a : Int) (h : l.length < 256) : ((pc eU 0 (l ++ [a])).set l.length (.int .u16 0)).set 256 (.int .i64 (l.length : Int)) = pc eU 0 l := by
  have e1 : pc eU 0 (l ++ [a]) = en eU l ++ (.int .u16 a :: (en eU (rest 0 (l ++ [a])) ++ [.int .i64 ((l ++ [a]).length : Int)])) := by
    rw [pc, en_append, en_append]; simp [en, eU]
  have e2 : (en eU l).length = l.length := by rw [en_len hU]; omega
  have e3 : (en eU (rest 0 (l ++ [a]))).length = 255 - l.length := by rw [en_len hU, rest, List.length_replicate, List.length_append]; simp only [List.length_cons, List.length_nil]; omega
  have h1 := set_mid (en eU l) (en eU (rest 0 (l ++ [a])) ++ [Value.int .i64 ((l ++ [a]).length : Int)]) (.int .u16 a) (.int .u16 0)
  rw [e2] at h1
  rw [e1, h1, pc, rest_snoc 0 a l h, en_append, en_cons]
  rw [List.set_append_right _ _ (by omega), e2, show 256 - l.length = (255 - l.length) + 1 by omega, List.set_cons_succ, List.set_append_right _ _ (by omega), e3, Nat.sub_self]
  simp [eU]
theorem pcK_pop (l : List (Int × Int)) (a : Int × Int) (h : l.length < 256) : (((pc eK (0, 0) (l ++ [a])).set (l.length * 2) (.int .i64 0)).set (l.length * 2 + 1) (.int .u16 0)).set 512 (.int .i64 (l.length : Int)) = pc eK (0, 0) l := by
  have e1 : pc eK (0, 0) (l ++ [a]) = en eK l ++ (.int .i64 a.1 :: .int .u16 a.2 :: (en eK (rest (0, 0) (l ++ [a])) ++ [.int .i64 ((l ++ [a]).length : Int)])) := by
    rw [pc, en_append, en_append]; simp [en, eK]
  have e2 : (en eK l).length = l.length * 2 := by rw [en_len hK]
  have e3 : (en eK (rest (0, 0) (l ++ [a]))).length = (255 - l.length) * 2 := by rw [en_len hK, rest, List.length_replicate, List.length_append]; simp only [List.length_cons, List.length_nil]; omega
  rw [e1, List.set_append_right _ _ (by omega), e2, Nat.sub_self, List.set_cons_zero, List.set_append_right _ _ (by omega), e2, show l.length * 2 + 1 - l.length * 2 = 0 + 1 by omega, List.set_cons_succ, List.set_cons_zero,
    pc, rest_snoc (0, 0) a l h, en_append, en_cons, List.set_append_right _ _ (by omega), e2, show 512 - l.length * 2 = (255 - l.length) * 2 + 1 + 1 by omega, List.set_cons_succ, List.set_cons_succ, List.set_append_right _ _ (by omega), e3, Nat.sub_self]
  simp [eK]
theorem pcK_set (l : List (Int × Int)) (a : Int × Int) (x : Int) (h : l.length < 256) : (pc eK (0, 0) (l ++ [a])).set (l.length * 2 + 1) (.int .u16 x) = pc eK (0, 0) (l ++ [(a.1, x)]) := by
  have e1 : ∀ a : Int × Int, pc eK (0, 0) (l ++ [a]) = en eK l ++ (.int .i64 a.1 :: .int .u16 a.2 :: (en eK (rest (0, 0) (l ++ [a])) ++ [.int .i64 ((l ++ [a]).length : Int)])) := by
    intro a; rw [pc, en_append, en_append]; simp [en, eK]
  have e2 : (en eK l).length = l.length * 2 := by rw [en_len hK]
  rw [e1, e1, List.set_append_right _ _ (by omega), e2, show l.length * 2 + 1 - l.length * 2 = 0 + 1 by omega, List.set_cons_succ, List.set_cons_zero]
  simp [rest]

/-! ### Worlds -/
theorem lt_of {W : World} {i : Nat} {o : Obj} (e : W.heap[i]? = some o) : i < W.heap.size := (Array.getElem?_eq_some_iff.1 e).1
theorem setCell_heap (W : World) (b i : Nat) (c : List Value) (t : TypeId) (v : Value) (h : W.heap[b]? = some (.cells c.toArray t (0, 0))) : (W.setCell ⟨b, i, none⟩ v).heap[b]? = some (.cells (c.set i v).toArray t (0, 0)) := by
  simp [World.setCell, Array.getElem?_modify, h]
theorem setCell_other (W : World) (b i k : Nat) (v : Value) (h : k ≠ b) : (W.setCell ⟨b, i, none⟩ v).heap[k]? = W.heap[k]? := Below.heap_setCell W _ v k h
theorem setCell_size (W : World) (a : Addr) (v : Value) : (W.setCell a v).heap.size = W.heap.size := by simp [World.setCell]
theorem cell_of (W : World) (b i : Nat) (c : List Value) (t : TypeId) (v : Value) (h : W.heap[b]? = some (.cells c.toArray t (0, 0))) (hi : c[i]? = some v) : W.cell? ⟨b, i, none⟩ = some v := by
  simp [World.cell?, h, hi]
theorem frozen_of (W : World) (b i : Nat) (c : List Value) (t : TypeId) (h : W.heap[b]? = some (.cells c.toArray t (0, 0))) : W.frozen? ⟨b, i, none⟩ = false := by
  simp [World.frozen?, h]
/-- Only blocks of F and new ones are touched. -/
structure Tc (F : Nat → Prop) (W W' : World) : Prop where
  os : W'.os = W.os
  tape : W'.tape = W.tape
  output : W'.output = W.output
  size : W.heap.size ≤ W'.heap.size
  block : ∀ k, k < W.heap.size → ¬ F k → W'.heap[k]? = W.heap[k]?
theorem Tc.refl (F : Nat → Prop) (W : World) : Tc F W W := ⟨rfl, rfl, rfl, Nat.le_refl _, fun _ _ _ => rfl⟩
theorem Tc.trans {F G H : Nat → Prop} {a b c : World} (h : Tc F a b) (k : Tc G b c) (hF : ∀ i, F i → H i) (hG : ∀ i, i < a.heap.size → G i → H i) : Tc H a c :=
  ⟨k.os.trans h.os, k.tape.trans h.tape, k.output.trans h.output, Nat.le_trans h.size k.size, fun i hi hn => (k.block i (Nat.lt_of_lt_of_le hi h.size) fun g => hn (hG i hi g)).trans (h.block i hi fun f => hn (hF i f))⟩
theorem Tc.of_below {F : Nat → Prop} {B : Nat} {a b : World} (h : Below B a b) (hF : ∀ i, B ≤ i → i < a.heap.size → F i) : Tc F a b :=
  ⟨h.os, h.tape, h.output, h.size, fun i hi hn => h.block i (by apply Decidable.byContradiction; intro c; exact hn (hF i (by omega) hi))⟩
theorem Tc.below {F : Nat → Prop} {B : Nat} {a b : World} (h : Tc F a b) (hB : B ≤ a.heap.size) (hF : ∀ i, F i → B ≤ i) : Below B a b :=
  ⟨h.os, h.tape, h.output, h.size, fun i hi => h.block i (by omega) fun f => by have := hF i f; omega⟩
theorem Tc.setCell {F : Nat → Prop} {a b : World} (h : Tc F a b) (g i : Nat) (hg : F g) (v : Value) : Tc F a (b.setCell ⟨g, i, none⟩ v) :=
  ⟨h.os, h.tape, h.output, by rw [setCell_size]; exact h.size, fun k hk hn => (setCell_other _ _ _ _ _ (by rintro rfl; exact hn hg)).trans (h.block k hk hn)⟩
theorem Tc.drew {F : Nat → Prop} {a b : World} (h : Tc F a b) : Tc F a b.drew := ⟨h.os, h.tape, h.output, h.size, h.block⟩
theorem Tc.drewN {F : Nat → Prop} {a b : World} (h : Tc F a b) (q : Nat) : Tc F a (b.drewN q) := ⟨h.os, h.tape, h.output, h.size, h.block⟩

/-! ### A slice value that reads as this list -/
def Sl {α : Type} (e : α → List Value) (s : Nat) (W : World) (p : Option Addr) (l : List α) : Prop := ∀ i a, l[i]? = some a → ∃ b o, p = some ⟨b, o, none⟩ ∧ ∀ j u, (e a)[j]? = some u → W.cell? ⟨b, o + i * s + j, none⟩ = some u
def Ls {α : Type} (e : α → List Value) (s : Nat) (W : World) (v : Value) (l : List α) : Prop := (v = .slice none 0 0 ∧ l = []) ∨ ∃ x c, v = .slice (some x) l.length c ∧ l.length ≤ c ∧ Sl e s W (some x) l
theorem Ls.ex {α : Type} {e : α → List Value} {s : Nat} {W : World} {v : Value} {l : List α} (h : Ls e s W v l) : ∃ p c, v = .slice p l.length c ∧ l.length ≤ c ∧ Sl e s W p l := by
  rcases h with ⟨rfl, rfl⟩ | ⟨x, c, rfl, h1, h2⟩
  · exact ⟨none, 0, rfl, Nat.le_refl _, fun i a h => by simp at h⟩
  · exact ⟨some x, c, rfl, h1, h2⟩
theorem Sl.kept {α : Type} {e : α → List Value} {s : Nat} {W W' : World} {p : Option Addr} {l : List α} (h : Sl e s W p l) (k : ∀ b o u, p = some ⟨b, o, none⟩ → ∀ i, W.cell? ⟨b, i, none⟩ = some u → W'.cell? ⟨b, i, none⟩ = some u) : Sl e s W' p l := by
  intro i a hi
  obtain ⟨b, o, e1, e2⟩ := h i a hi
  exact ⟨b, o, e1, fun j u hj => k b o u e1 _ (e2 j u hj)⟩
theorem Sl.below {α : Type} {e : α → List Value} {s : Nat} {W W' : World} {p : Option Addr} {l : List α} (h : Sl e s W p l) (b : Below W.heap.size W W') : Sl e s W' p l :=
  h.kept fun g o u _ i hu => by rw [b.cell (World.block_lt_of_cell? W _ hu)]; exact hu
theorem Sl.tc {α : Type} {e : α → List Value} {s : Nat} {W W' : World} {F : Nat → Prop} {p : Option Addr} {l : List α} (h : Sl e s W p l) (b : Tc F W W') (hF : ∀ g o, p = some ⟨g, o, none⟩ → ¬ F g) : Sl e s W' p l :=
  h.kept fun g o u hp i hu => by rw [World.cell?_of_block (b.block g (World.block_lt_of_cell? W _ hu) (hF g o hp))]; exact hu
theorem Sl.u {W : World} {p : Option Addr} {l : List Int} (h : Sl eU 1 W p l) (i : Nat) (a : Int) (hi : l[i]? = some a) : ∃ b o, p = some ⟨b, o, none⟩ ∧ W.cell? ⟨b, o + i, none⟩ = some (.int .u16 a) := by
  obtain ⟨b, o, e1, e2⟩ := h i a hi
  exact ⟨b, o, e1, by have := e2 0 _ rfl; rwa [Nat.mul_one] at this⟩
theorem Sl.k {W : World} {p : Option Addr} {l : List (Int × Int)} (h : Sl eK 2 W p l) (i : Nat) (a : Int × Int) (hi : l[i]? = some a) : ∃ b o, p = some ⟨b, o, none⟩ ∧ W.cell? ⟨b, o + i * 2, none⟩ = some (.int .i64 a.1) ∧ W.cell? ⟨b, o + i * 2 + 1, none⟩ = some (.int .u16 a.2) := by
  obtain ⟨b, o, e1, e2⟩ := h i a hi
  exact ⟨b, o, e1, e2 0 _ rfl, e2 1 _ rfl⟩
theorem Sl.take {α : Type} {e : α → List Value} {s : Nat} {W : World} {p : Option Addr} {l : List α} (h : Sl e s W p l) (n : Nat) : Sl e s W p (l.take n) := by
  intro i a hi
  rw [List.getElem?_take] at hi
  split at hi
  · exact h i a hi
  · cases hi
theorem Sl.news {α : Type} {e : α → List Value} {s : Nat} (hs : ∀ a, (e a).length = s) (hp : 0 < s) {W : World} {ad : Addr} {l : List α} (h : Sl e s W (some ad) l) (j : Nat) (u : Value) (hj : (en e l)[j]? = some u) : W.cell? (ad.add j) = some u := by
  obtain ⟨a, h1, h2⟩ := en_part hs hp l j u hj
  obtain ⟨b, o, e1, e2⟩ := h _ a h1
  simp only [Option.some.injEq] at e1
  subst e1
  have := e2 _ u h2
  rw [Addr.add_lit]
  rw [Nat.add_assoc, Nat.mul_comm, Nat.div_add_mod] at this
  exact this
/-- A row in a block of its own. -/
theorem own_mono {w : World} {B B' : Nat} {e : TypeId} {size : Nat} {v : Value} {n : Nat} {xs : List Value} (h : w.ownsRow B e size v n xs) (hb : B' ≤ B) : w.ownsRow B' e size v n xs := by
  refine ⟨h.1, ?_⟩
  rcases h.2 with h | ⟨g, cap, cur, h1, h2, h3⟩
  · exact .inl h
  · exact .inr ⟨g, cap, cur, h1, Nat.le_trans hb h2, h3⟩
theorem own_kept {W W' : World} {B : Nat} {e : TypeId} {size : Nat} {v : Value} {n : Nat} {xs : List Value} (h : W.ownsRow B e size v n xs) (k : ∀ g, v.ownBlock = some g → g < W.heap.size → W'.heap[g]? = W.heap[g]?) : W'.ownsRow B e size v n xs := by
  refine ⟨h.1, ?_⟩
  rcases h.2 with h | ⟨g, cap, cur, rfl, h2, h3, h4⟩
  · exact .inl h
  · exact .inr ⟨g, cap, cur, rfl, h2, (k g rfl (Array.getElem?_eq_some_iff.1 h3).1).trans h3, h4⟩
theorem own_sl {α : Type} {e : α → List Value} {s : Nat} (hs : ∀ a, (e a).length = s) {W : World} {B : Nat} {t : TypeId} {v : Value} {l : List α} (h : W.ownsRow B t s v l.length (en e l)) : Ls e s W v l := by
  have h' := h
  rcases h.2 with ⟨rfl, e⟩ | ⟨g, cap, cur, rfl, _, hg, hcap, _⟩
  · exact .inl ⟨rfl, List.eq_nil_of_length_eq_zero e⟩
  · refine .inr ⟨⟨g, 0, none⟩, cap, rfl, hcap, fun i a hi => ⟨g, 0, rfl, fun j u hj => ?_⟩⟩
    have hj' : j < s := by rw [← hs a]; exact (List.getElem?_eq_some_iff.1 hj).1
    have := World.ownsRow.cells h' (g := g) rfl (i * s + j) u (by rw [en_get hs l i j a hi hj']; exact hj)
    rw [Addr.add_lit] at this
    rw [Nat.add_assoc]; exact this
end Go.Proofs.YtlljelfplffglabDoor.S
