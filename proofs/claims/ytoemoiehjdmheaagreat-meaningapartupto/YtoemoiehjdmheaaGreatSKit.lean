import Derived.Test.YtoemoiehjdmheaaGreatProg
import Derived.WalkKit
import Derived.KernelRfl
import Derived.Laws.Rows
import Derived.Laws.CopyRow
import Derived.ProofKit
import Derived.Laws.MakeOwn
import Derived.Laws.OwnMore
import Derived.Deep.RegionLaw
import Derived.ArgAppend
import Derived.OwnWalk
import Derived.BigQuiet
namespace Go.Proofs.YtoemoiehjdmheaaGreat.S
open Go.RowKit
set_option linter.unusedVariables false
set_option linter.unusedSimpArgs false
open Go.Proofs
def en {α : Type} (e : α -> List Value) (l : List α) : List Value := l.flatMap e
theorem en_append {α : Type} (e : α -> List Value) (a b : List α) : en e (a ++ b) = en e a ++ en e b := by simp [en]
theorem en_nil {α : Type} (e : α -> List Value) : en e [] = [] := rfl
theorem en_cons {α : Type} (e : α -> List Value) (a : α) (l : List α) : en e (a :: l) = e a ++ en e l := by simp [en]
theorem en_len {α : Type} {e : α -> List Value} {s : Nat} (hs : ∀ a, (e a).length = s) : ∀ l : List α, (en e l).length = l.length * s
 | [] => by simp [en]
 | a :: l => by rw [en_cons, List.length_append, hs, en_len hs l, List.length_cons, Nat.succ_mul, Nat.add_comm]
theorem en_get {α : Type} {e : α -> List Value} {s : Nat} (hs : ∀ a, (e a).length = s) : ∀ (l : List α) (i j : Nat) (a : α), l[i]? = some a -> j < s -> (en e l)[i * s + j]? = (e a)[j]?
 | [], i, j, a, h, _ => by simp at h
 | b :: l, 0, j, a, h, hj => by
  simp at h; subst h
  rw [en_cons, Nat.zero_mul, Nat.zero_add, List.getElem?_append_left (by rw [hs]; exact hj)]
 | b :: l, i + 1, j, a, h, hj => by
  have ih := en_get hs l i j a (by simpa using h) hj
  rw [en_cons, List.getElem?_append_right (by rw [hs, Nat.succ_mul]; omega), hs, <- ih]
  congr 1
  rw [Nat.succ_mul]; omega
theorem en_take {α : Type} {e : α -> List Value} {s : Nat} (hs : ∀ a, (e a).length = s) : ∀ (l : List α) (i : Nat), (en e l).take (i * s) = en e (l.take i)
 | [], i => by simp [en]
 | b :: l, 0 => by simp [en]
 | b :: l, i + 1 => by
  rw [en_cons, List.take_succ_cons, en_cons, <- en_take hs l i, List.take_append, hs, Nat.succ_mul, Nat.add_sub_cancel, List.take_of_length_le (by rw [hs]; omega)]
theorem en_drop {α : Type} {e : α -> List Value} {s : Nat} (hs : ∀ a, (e a).length = s) : ∀ (l : List α) (i : Nat), (en e l).drop (i * s) = en e (l.drop i)
 | [], i => by simp [en]
 | b :: l, 0 => by simp [en]
 | b :: l, i + 1 => by
  rw [en_cons, List.drop_succ_cons, <- en_drop hs l i, List.drop_append, hs, Nat.succ_mul, Nat.add_sub_cancel, List.drop_of_length_le (by rw [hs]; omega), List.nil_append]
theorem en_part {α : Type} {e : α -> List Value} {s : Nat} (hs : ∀ a, (e a).length = s) (hp : 0 < s) (l : List α) (j : Nat) (u : Value) (h : (en e l)[j]? = some u) : ∃ a, l[j / s]? = some a /\ (e a)[j % s]? = some u := by
 have hj : j < l.length * s := by rw [<- en_len hs]; exact (List.getElem?_eq_some_iff.1 h).1
 have hi : j / s < l.length := (Nat.div_lt_iff_lt_mul hp).2 hj
 refine ⟨l[j / s], List.getElem?_eq_getElem hi, ?_⟩
 rw [<- en_get hs l (j / s) (j % s) _ (List.getElem?_eq_getElem hi) (Nat.mod_lt _ hp), <- h]
 congr 1
 rw [Nat.mul_comm]; exact Nat.div_add_mod j s
def eU (z : Int) : List Value := [.int .u16 z]
def eK (t : Int × Int) : List Value := [.int .i64 t.1, .int .u16 t.2]
theorem hU (a : Int) : (eU a).length = 1 := rfl
theorem hK (a : Int × Int) : (eK a).length = 2 := rfl
theorem oneU (l : List Int) : ∀ u ∈ en eU l, u.oneCell' = true := by intro u hu; simp [en, eU] at hu; obtain ⟨x, _, rfl⟩ := hu; rfl
theorem oneK (l : List (Int × Int)) : ∀ u ∈ en eK l, u.oneCell' = true := by
 intro u hu; simp [en, eK] at hu; obtain ⟨a, b, _, h⟩ := hu; rcases h with rfl | rfl <;> rfl
def rest {α : Type} (z : α) (l : List α) : List α := List.replicate (256 - l.length) z
def pc {α : Type} (e : α -> List Value) (z : α) (l : List α) : List Value := en e (l ++ rest z l) ++ [.int .i64 (l.length : Int)]
theorem pc_len0 {α : Type} {e : α -> List Value} {s : Nat} (hs : ∀ a, (e a).length = s) (z : α) (l : List α) (h : l.length <= 256) : (en e (l ++ rest z l)).length = 256 * s := by
 rw [en_len hs, List.length_append, rest, List.length_replicate]; congr 1; omega
theorem pc_len {α : Type} {e : α -> List Value} {s : Nat} (hs : ∀ a, (e a).length = s) (z : α) (l : List α) (h : l.length <= 256) : (pc e z l).length = 256 * s + 1 := by
 rw [pc, List.length_append, pc_len0 hs z l h]; rfl
theorem pc_count {α : Type} {e : α -> List Value} {s : Nat} (hs : ∀ a, (e a).length = s) (z : α) (l : List α) (h : l.length <= 256) : (pc e z l)[256 * s]? = some (.int .i64 (l.length : Int)) := by
 rw [pc, List.getElem?_append_right (by rw [pc_len0 hs z l h]; exact Nat.le_refl _), pc_len0 hs z l h, Nat.sub_self]; rfl
theorem pc_get {α : Type} {e : α -> List Value} {s : Nat} (hs : ∀ a, (e a).length = s) (z : α) (l : List α) (h : l.length <= 256) (i j : Nat) (a : α) (ha : l[i]? = some a) (hj : j < s) : (pc e z l)[i * s + j]? = (e a)[j]? := by
 have hi : i < l.length := (List.getElem?_eq_some_iff.1 ha).1
 have h1 : i * s + j < 256 * s := by
  have : (i + 1) * s <= 256 * s := Nat.mul_le_mul_right s (by omega)
  rw [Nat.succ_mul] at this; omega
 rw [pc, List.getElem?_append_left (by rw [pc_len0 hs z l h]; exact h1)]
 exact en_get hs _ i j a (by rw [List.getElem?_append_left hi]; exact ha) hj
theorem pc_put {α : Type} {e : α -> List Value} {s : Nat} (hs : ∀ a, (e a).length = s) (z : α) (l x : List α) (h : l.length + x.length <= 256) : ((pc e z l).take (l.length * s) ++ en e x ++ (pc e z l).drop (l.length * s + x.length * s)).set (256 * s) (.int .i64 ((l.length : Int) + (x.length : Int))) = pc e z (l ++ x) := by
 have e0 : l.length * s <= (en e (l ++ rest z l)).length := by rw [pc_len0 hs z l (by omega)]; exact Nat.mul_le_mul_right s (by omega)
 have e0' : l.length * s + x.length * s <= (en e (l ++ rest z l)).length := by rw [pc_len0 hs z l (by omega), <- Nat.add_mul]; exact Nat.mul_le_mul_right s (by omega)
 have e1 : (pc e z l).take (l.length * s) = en e l := by
  rw [pc, List.take_append_of_le_length e0, en_take hs, List.take_left' rfl]
 have e2 : (pc e z l).drop (l.length * s + x.length * s) = en e (rest z (l ++ x)) ++ [.int .i64 (l.length : Int)] := by
  rw [pc, List.drop_append_of_le_length e0', <- Nat.add_mul, en_drop hs]
  congr 2
  rw [List.drop_append, List.drop_of_length_le (by omega), List.nil_append, rest, rest, List.drop_replicate, List.length_append]
  congr 1; omega
 rw [e1, e2, <- List.append_assoc, <- en_append, <- en_append]
 have e3 : (en e (l ++ x ++ rest z (l ++ x))).length = 256 * s := pc_len0 hs z (l ++ x) (by simp; omega)
 rw [List.set_append_right _ _ (by rw [e3]; exact Nat.le_refl _), e3, Nat.sub_self, pc]
 congr 1
 simp
theorem set_mid {β : Type} (a b : List β) (x y : β) : (a ++ x :: b).set a.length y = a ++ y :: b := by simp
theorem rest_snoc {α : Type} (z a : α) (l : List α) (h : l.length < 256) : rest z l = z :: rest z (l ++ [a]) := by
 rw [rest, rest, show 256 - l.length = (256 - (l ++ [a]).length) + 1 by simp; omega, List.replicate_succ]
theorem pcU_pop (l : List Int) (a : Int) (h : l.length < 256) : ((pc eU 0 (l ++ [a])).set l.length (.int .u16 0)).set 256 (.int .i64 (l.length : Int)) = pc eU 0 l := by
 have e1 : pc eU 0 (l ++ [a]) = en eU l ++ (.int .u16 a :: (en eU (rest 0 (l ++ [a])) ++ [.int .i64 ((l ++ [a]).length : Int)])) := by
  rw [pc, en_append, en_append]; simp [en, eU]
 have e2 : (en eU l).length = l.length := by rw [en_len hU]; omega
 have e3 : (en eU (rest 0 (l ++ [a]))).length = 255 - l.length := by rw [en_len hU, rest, List.length_replicate, List.length_append]; simp only [List.length_cons, List.length_nil]; omega
 have h1 := set_mid (en eU l) (en eU (rest 0 (l ++ [a])) ++ [Value.int .i64 ((l ++ [a]).length : Int)]) (.int .u16 a) (.int .u16 0)
 rw [e2] at h1
 rw [e1, h1, pc, rest_snoc 0 a l h, en_append, en_cons]
 rw [List.set_append_right _ _ (by omega), e2, show 256 - l.length = (255 - l.length) + 1 by omega, List.set_cons_succ, List.set_append_right _ _ (by omega), e3, Nat.sub_self]
 simp [eU]
theorem pcK_pop (l : List (Int × Int)) (a : Int × Int) (h : l.length < 256) : (((pc eK (0, 0) (l ++ [a])).set (l.length * 2) (.int .i64 0)).set (l.length * 2 + 1) (.int .u16 0)).set 512 (.int .i64 (l.length : Int)) = pc eK (0, 0) l := by
 have e1 : pc eK (0, 0) (l ++ [a]) = en eK l ++ (.int .i64 a.1 :: .int .u16 a.2 :: (en eK (rest (0, 0) (l ++ [a])) ++ [.int .i64 ((l ++ [a]).length : Int)])) := by
  rw [pc, en_append, en_append]; simp [en, eK]
 have e2 : (en eK l).length = l.length * 2 := by rw [en_len hK]
 have e3 : (en eK (rest (0, 0) (l ++ [a]))).length = (255 - l.length) * 2 := by rw [en_len hK, rest, List.length_replicate, List.length_append]; simp only [List.length_cons, List.length_nil]; omega
 rw [e1, List.set_append_right _ _ (by omega), e2, Nat.sub_self, List.set_cons_zero, List.set_append_right _ _ (by omega), e2, show l.length * 2 + 1 - l.length * 2 = 0 + 1 by omega, List.set_cons_succ, List.set_cons_zero,
  pc, rest_snoc (0, 0) a l h, en_append, en_cons, List.set_append_right _ _ (by omega), e2, show 512 - l.length * 2 = (255 - l.length) * 2 + 1 + 1 by omega, List.set_cons_succ, List.set_cons_succ, List.set_append_right _ _ (by omega), e3, Nat.sub_self]
 simp [eK]
theorem pcK_set (l : List (Int × Int)) (a : Int × Int) (x : Int) (h : l.length < 256) : (pc eK (0, 0) (l ++ [a])).set (l.length * 2 + 1) (.int .u16 x) = pc eK (0, 0) (l ++ [(a.1, x)]) := by
 have e1 : ∀ a : Int × Int, pc eK (0, 0) (l ++ [a]) = en eK l ++ (.int .i64 a.1 :: .int .u16 a.2 :: (en eK (rest (0, 0) (l ++ [a])) ++ [.int .i64 ((l ++ [a]).length : Int)])) := by
  intro a; rw [pc, en_append, en_append]; simp [en, eK]
 have e2 : (en eK l).length = l.length * 2 := by rw [en_len hK]
 rw [e1, e1, List.set_append_right _ _ (by omega), e2, show l.length * 2 + 1 - l.length * 2 = 0 + 1 by omega, List.set_cons_succ, List.set_cons_zero]
 simp [rest]
theorem lt_of {W : World} {i : Nat} {o : Obj} (e : W.heap[i]? = some o) : i < W.heap.size := (Array.getElem?_eq_some_iff.1 e).1
theorem setCell_heap (W : World) (b i : Nat) (c : List Value) (t : TypeId) (v : Value) (h : W.heap[b]? = some (.cells c.toArray t (0, 0))) : (W.setCell ⟨b, i, none⟩ v).heap[b]? = some (.cells (c.set i v).toArray t (0, 0)) := by
 simp [World.setCell, Array.getElem?_modify, h]
theorem setCell_other (W : World) (b i k : Nat) (v : Value) (h : k ≠ b) : (W.setCell ⟨b, i, none⟩ v).heap[k]? = W.heap[k]? := Below.heap_setCell W _ v k h
theorem setCell_size (W : World) (a : Addr) (v : Value) : (W.setCell a v).heap.size = W.heap.size := by simp [World.setCell]
theorem cell_of (W : World) (b i : Nat) (c : List Value) (t : TypeId) (v : Value) (h : W.heap[b]? = some (.cells c.toArray t (0, 0))) (hi : c[i]? = some v) : W.cell? ⟨b, i, none⟩ = some v := by
 simp [World.cell?, h, hi]
theorem frozen_of (W : World) (b i : Nat) (c : List Value) (t : TypeId) (h : W.heap[b]? = some (.cells c.toArray t (0, 0))) : W.frozen? ⟨b, i, none⟩ = false := by
 simp [World.frozen?, h]
structure Tc (F : Nat -> Prop) (W W' : World) : Prop where
 os : W'.os = W.os
 tape : W'.tape = W.tape
 output : W'.output = W.output
 size : W.heap.size <= W'.heap.size
 block : ∀ k, k < W.heap.size -> ¬ F k -> W'.heap[k]? = W.heap[k]?
theorem Tc.refl (F : Nat -> Prop) (W : World) : Tc F W W := ⟨rfl, rfl, rfl, Nat.le_refl _, fun _ _ _ => rfl⟩
theorem Tc.trans {F G H : Nat -> Prop} {a b c : World} (h : Tc F a b) (k : Tc G b c) (hF : ∀ i, F i -> H i) (hG : ∀ i, i < a.heap.size -> G i -> H i) : Tc H a c :=
 ⟨k.os.trans h.os, k.tape.trans h.tape, k.output.trans h.output, Nat.le_trans h.size k.size, fun i hi hn => (k.block i (Nat.lt_of_lt_of_le hi h.size) fun g => hn (hG i hi g)).trans (h.block i hi fun f => hn (hF i f))⟩
theorem Tc.of_below {F : Nat -> Prop} {B : Nat} {a b : World} (h : Below B a b) (hF : ∀ i, B <= i -> i < a.heap.size -> F i) : Tc F a b :=
 ⟨h.os, h.tape, h.output, h.size, fun i hi hn => h.block i (by apply Decidable.byContradiction; intro c; exact hn (hF i (by omega) hi))⟩
theorem Tc.below {F : Nat -> Prop} {B : Nat} {a b : World} (h : Tc F a b) (hB : B <= a.heap.size) (hF : ∀ i, F i -> B <= i) : Below B a b :=
 ⟨h.os, h.tape, h.output, h.size, fun i hi => h.block i (by omega) fun f => by have := hF i f; omega⟩
theorem Tc.setCell {F : Nat -> Prop} {a b : World} (h : Tc F a b) (g i : Nat) (hg : F g) (v : Value) : Tc F a (b.setCell ⟨g, i, none⟩ v) :=
 ⟨h.os, h.tape, h.output, by rw [setCell_size]; exact h.size, fun k hk hn => (setCell_other _ _ _ _ _ (by rintro rfl; exact hn hg)).trans (h.block k hk hn)⟩
theorem Tc.drewN {F : Nat -> Prop} {a b : World} (h : Tc F a b) (q : Nat) : Tc F a (b.drewN q) := ⟨h.os, h.tape, h.output, h.size, h.block⟩
def Sl {α : Type} (e : α -> List Value) (s : Nat) (W : World) (p : Option Addr) (l : List α) : Prop := ∀ i a, l[i]? = some a -> ∃ b o, p = some ⟨b, o, none⟩ /\ ∀ j u, (e a)[j]? = some u -> W.cell? ⟨b, o + i * s + j, none⟩ = some u
def Ls {α : Type} (e : α -> List Value) (s : Nat) (W : World) (v : Value) (l : List α) : Prop := (v = .slice none 0 0 /\ l = []) \/ ∃ x c, v = .slice (some x) l.length c /\ l.length <= c /\ Sl e s W (some x) l
theorem Ls.ex {α : Type} {e : α -> List Value} {s : Nat} {W : World} {v : Value} {l : List α} (h : Ls e s W v l) : ∃ p c, v = .slice p l.length c /\ l.length <= c /\ Sl e s W p l := by
 rcases h with ⟨rfl, rfl⟩ | ⟨x, c, rfl, h1, h2⟩
 ·exact ⟨none, 0, rfl, Nat.le_refl _, fun i a h => by simp at h⟩
 ·exact ⟨some x, c, rfl, h1, h2⟩
theorem Sl.kept {α : Type} {e : α -> List Value} {s : Nat} {W W' : World} {p : Option Addr} {l : List α} (h : Sl e s W p l) (k : ∀ b o u, p = some ⟨b, o, none⟩ -> ∀ i, W.cell? ⟨b, i, none⟩ = some u -> W'.cell? ⟨b, i, none⟩ = some u) : Sl e s W' p l := by
 intro i a hi
 obtain ⟨b, o, e1, e2⟩ := h i a hi
 exact ⟨b, o, e1, fun j u hj => k b o u e1 _ (e2 j u hj)⟩
theorem Sl.below {α : Type} {e : α -> List Value} {s : Nat} {W W' : World} {p : Option Addr} {l : List α} (h : Sl e s W p l) (b : Below W.heap.size W W') : Sl e s W' p l :=
 h.kept fun g o u _ i hu => by rw [b.cell (World.block_lt_of_cell? W _ hu)]; exact hu
theorem Sl.u {W : World} {p : Option Addr} {l : List Int} (h : Sl eU 1 W p l) (i : Nat) (a : Int) (hi : l[i]? = some a) : ∃ b o, p = some ⟨b, o, none⟩ /\ W.cell? ⟨b, o + i, none⟩ = some (.int .u16 a) := by
 obtain ⟨b, o, e1, e2⟩ := h i a hi
 exact ⟨b, o, e1, by have := e2 0 _ rfl; rwa [Nat.mul_one] at this⟩
theorem Sl.news {α : Type} {e : α -> List Value} {s : Nat} (hs : ∀ a, (e a).length = s) (hp : 0 < s) {W : World} {ad : Addr} {l : List α} (h : Sl e s W (some ad) l) (j : Nat) (u : Value) (hj : (en e l)[j]? = some u) : W.cell? (ad.add j) = some u := by
 obtain ⟨a, h1, h2⟩ := en_part hs hp l j u hj
 obtain ⟨b, o, e1, e2⟩ := h _ a h1
 simp only [Option.some.injEq] at e1
 subst e1
 have := e2 _ u h2
 rw [Addr.add_lit]
 rw [Nat.add_assoc, Nat.mul_comm, Nat.div_add_mod] at this
 exact this
theorem own_mono {w : World} {B B' : Nat} {e : TypeId} {size : Nat} {v : Value} {n : Nat} {xs : List Value} (h : w.ownsRow B e size v n xs) (hb : B' <= B) : w.ownsRow B' e size v n xs := by
 refine ⟨h.1, ?_⟩
 rcases h.2 with h | ⟨g, cap, cur, h1, h2, h3⟩
 ·exact .inl h
 ·exact .inr ⟨g, cap, cur, h1, Nat.le_trans hb h2, h3⟩
theorem own_kept {W W' : World} {B : Nat} {e : TypeId} {size : Nat} {v : Value} {n : Nat} {xs : List Value} (h : W.ownsRow B e size v n xs) (k : ∀ g, v.ownBlock = some g -> g < W.heap.size -> W'.heap[g]? = W.heap[g]?) : W'.ownsRow B e size v n xs := by
 refine ⟨h.1, ?_⟩
 rcases h.2 with h | ⟨g, cap, cur, rfl, h2, h3, h4⟩
 ·exact .inl h
 ·exact .inr ⟨g, cap, cur, rfl, h2, (k g rfl (Array.getElem?_eq_some_iff.1 h3).1).trans h3, h4⟩
theorem own_sl {α : Type} {e : α -> List Value} {s : Nat} (hs : ∀ a, (e a).length = s) {W : World} {B : Nat} {t : TypeId} {v : Value} {l : List α} (h : W.ownsRow B t s v l.length (en e l)) : Ls e s W v l := by
 have h' := h
 rcases h.2 with ⟨rfl, e⟩ | ⟨g, cap, cur, rfl, _, hg, hcap, _⟩
 ·exact .inl ⟨rfl, List.eq_nil_of_length_eq_zero e⟩
 ·refine .inr ⟨⟨g, 0, none⟩, cap, rfl, hcap, fun i a hi => ⟨g, 0, rfl, fun j u hj => ?_⟩⟩
  have hj' : j < s := by rw [<- hs a]; exact (List.getElem?_eq_some_iff.1 hj).1
  have := World.ownsRow.cells h' (g := g) rfl (i * s + j) u (by rw [en_get hs l i j a hi hj']; exact hj)
  rw [Addr.add_lit] at this
  rw [Nat.add_assoc]; exact this
def HasD (W : World) (b : Nat) (l : List Int) : Prop := W.heap[b]? = some (.cells (pc eU 0 l).toArray 104 (0, 0)) /\ l.length <= 256
theorem HasD.count {W : World} {b : Nat} {l : List Int} (h : HasD W b l) : W.cell? ⟨b, 256, none⟩ = some (.int .i64 (l.length : Int)) := cell_of W b 256 _ 104 _ h.1 (pc_count hU 0 l h.2)
theorem HasD.get {W : World} {b : Nat} {l : List Int} (h : HasD W b l) (i : Nat) (a : Int) (hi : l[i]? = some a) : W.cell? ⟨b, i, none⟩ = some (.int .u16 a) := by
 have := pc_get hU 0 l h.2 i 0 a hi (by omega)
 exact cell_of W b i _ 104 _ h.1 (by rw [Nat.mul_one] at this; exact this)
theorem HasD.kept {W W' : World} {b : Nat} {l : List Int} (h : HasD W b l) (k : W'.heap[b]? = W.heap[b]?) : HasD W' b l := ⟨k.trans h.1, h.2⟩
theorem HasD.below {W W' : World} {b : Nat} {l : List Int} (h : HasD W b l) (k : Below W.heap.size W W') : HasD W' b l := h.kept (k.block b (lt_of h.1))
theorem HasD.len_lt {W : World} {b : Nat} {l : List Int} (h : HasD W b l) : (l.length : Int) <= 256 := by have := h.2; omega
theorem i64_id (z : Int) (h0 : -9223372036854775808 <= z) (h1 : z < 9223372036854775808) : IntKind.i64.wrap z = z := by
 simp [IntKind.wrap, IntKind.bits, IntKind.signed]; omega
set_option maxHeartbeats 1000000
set_option maxRecDepth 100000
theorem dlen (b : Nat) (l : List Int) (w : World) (h : HasD w b l) : Calls Tryz.prog 89 #[.pointer (some ⟨b, 0, none⟩)] w fun e w' => e = .returned (.int .i64 (l.length : Int)) /\ w' = w := by
 have c := h.count
 go_enter Tryz.func89, Tryz.ntmps89
 go_wp2
 go_ret
 exact ⟨rfl, rfl⟩
theorem dtop (b : Nat) (l : List Int) (a : Int) (w : World) (h : HasD w b (l ++ [a])) : Calls Tryz.prog 136 #[.pointer (some ⟨b, 0, none⟩), .int .i64 0] w fun e w' => e = .returned (.pointer (some ⟨b, l.length, none⟩)) /\ ∃ q, w' = w.drewN q := by
 have c := h.count
 have hl := h.2
 simp only [List.length_append, List.length_cons, List.length_nil] at c hl
 have e1 : IntKind.i64.wrap (((l.length + 1 : Nat) : Int) - 1) = (l.length : Int) := by rw [i64_id _ (by omega) (by omega)]; omega
 have e2 : IntKind.i64.wrap ((l.length : Int) - 0) = (l.length : Int) := by rw [i64_id _ (by omega) (by omega)]; omega
 have hk : (l.length : Int) < 256 := by omega
 generalize hK : ((l.length + 1 : Nat) : Int) = K at *
 go_enter Tryz.func136, Tryz.ntmps136
 go_wp2_with fail
 go_quiet (fail)
 go_wp2
 go_ret
 exact ⟨rfl, _, rfl⟩
def At (b : Nat) (W W' : World) : Prop := Tc (fun k => k = b) W W'
theorem HasD.set2 {W : World} {b : Nat} {l : List Int} {a : Int} (h : HasD W b (l ++ [a])) : HasD ((W.setCell ⟨b, l.length, none⟩ (.int .u16 0)).setCell ⟨b, 256, none⟩ (.int .i64 (l.length : Int))) b l := by
 have hl := h.2
 simp only [List.length_append, List.length_cons, List.length_nil] at hl
 refine ⟨?_, by omega⟩
 rw [setCell_heap _ b 256 _ 104 _ (setCell_heap W b l.length _ 104 _ h.1), pcU_pop l a (by omega)]
theorem dtake (b : Nat) (l : List Int) (a : Int) (w : World) (h : HasD w b (l ++ [a])) : Calls Tryz.prog 90 #[.pointer (some ⟨b, 0, none⟩)] w fun e w' => e = .returned (.int .u16 a) /\ HasD w' b l /\ At b w w' := by
 have hl := h.2
 simp only [List.length_append, List.length_cons, List.length_nil] at hl
 go_enter Tryz.func90, Tryz.ntmps90
 go_wp2_with fail
 refine (dtop b l a w h).mono ?_
 rintro e w1 ⟨rfl, q, hq⟩
 have h1 : HasD w1 b (l ++ [a]) := by rw [hq]; exact h
 have t1 : At b w w1 := by rw [hq]; exact (Tc.refl _ _).drewN q
 clear hq
 have g1 := h1.get l.length a (by simp)
 go_wp2_with fail
 refine (dtop b l a w1 h1).mono ?_
 rintro e w2 ⟨rfl, q, hq⟩
 have h2 : HasD w2 b (l ++ [a]) := by rw [hq]; exact h1
 have t2 : At b w w2 := by rw [hq]; exact t1.drewN q
 clear hq g1
 have g2 := h2.get l.length a (by simp)
 have z2 := frozen_of w2 b l.length _ 104 h2.1
 have hb := setCell_heap w2 b l.length _ 104 (.int .u16 0) h2.1
 have c3 : (w2.setCell ⟨b, l.length, none⟩ (.int .u16 0)).cell? ⟨b, 256, none⟩ = some (.int .i64 ((l.length + 1 : Nat) : Int)) := by
  refine cell_of _ b 256 _ 104 _ hb ?_
  rw [List.getElem?_set_ne (by omega)]
  have := pc_count hU 0 _ h2.2
  simpa using this
 have z3 : (w2.setCell ⟨b, l.length, none⟩ (.int .u16 0)).frozen? ⟨b, 256, none⟩ = false := frozen_of _ b 256 _ 104 hb
 have e1 : IntKind.i64.wrap (((l.length + 1 : Nat) : Int) - 1) = (l.length : Int) := by rw [i64_id _ (by omega) (by omega)]; omega
 have h3 := h2.set2
 have t3 : At b w ((w2.setCell ⟨b, l.length, none⟩ (.int .u16 0)).setCell ⟨b, 256, none⟩ (.int .i64 (l.length : Int))) := (t2.setCell b _ rfl _).setCell b _ rfl _
 generalize hK : ((l.length + 1 : Nat) : Int) = K at *
 clear hb h2 t2 hl hK
 go_wp2
 go_ret
 exact ⟨rfl, h3, t3⟩
theorem dpop (b : Nat) (l : List Int) (a : Int) (w : World) (h : HasD w b (l ++ [a])) : Calls Tryz.prog 70 #[.pointer (some ⟨b, 0, none⟩)] w fun e w' => e = .returned (.int .u16 a) /\ HasD w' b l /\ At b w w' := by
 have hd := dlen b _ w h
 have hn : (((l ++ [a]).length : Int) == 0) = false := by simp; omega
 generalize hK : (((l ++ [a]).length : Nat) : Int) = K at *
 clear hK
 go_enter Tryz.func70, Tryz.ntmps70
 go_wp2_with fail
 refine hd.mono ?_
 rintro e w1 ⟨rfl, rfl⟩
 go_wp2_with fail
 refine (dtake b l a _ h).mono ?_
 rintro e w2 ⟨rfl, h2, t2⟩
 go_wp2
 go_ret
 exact ⟨rfl, h2, t2⟩
def room : Nat := 140737488355328
theorem info32 : (Tryz.prog.info? 57).map (fun i => (i.zero, i.size, i.bytes)) = some (some (.int .u16 0), 1, 2) := by kernel_rfl
theorem size32 : (Tryz.prog.info? 57).map (·.size) = some 1 := by kernel_rfl
theorem size43 : (Tryz.prog.info? 106).map (·.size) = some 2 := by kernel_rfl
theorem grownBy_any {w w' : World} (g : w.grownBy w' none) (r : Option Nat) : w.grownBy w' r := ⟨g.os, g.tape, g.output, g.size, fun k hk _ => g.block k hk (by simp)⟩
theorem own_pos {w : World} {B : Nat} {e : TypeId} {size : Nat} {v : Value} {n : Nat} {xs : List Value} (h : w.ownsRow B e size v n xs) (h0 : 0 < n) : ∃ g cap, v = .slice (some ⟨g, 0, none⟩) n cap := by
 rcases h.2 with ⟨_, h⟩ | ⟨g, cap, cur, h1, _⟩
 ·omega
 ·exact ⟨g, cap, h1⟩
theorem run_append_own2 {P : Program} (w : World) (t ty : TypeId) (base : Nat) (e : TypeId) (i : TypeInfo) (z : Value) (size bytes : Nat) (ht : P.underlying t = some (.slice e)) (hi : P.info? e = some i) (hz : i.zero = some z)
  (hsize : i.size = size) (hby : i.bytes = bytes) (hzs : z.cells.size = size) (hsz : 0 < size)
  (v : Value) (n : Nat) (xs : List Value) (hown : w.ownsRow base e size v n xs)
  (ad : Addr) (m c : Nat) (news : List Value) (hl : news.length = m * size) (hnews : ∀ j u, news[j]? = some u -> w.cell? (ad.add j) = some u) (h1 : ∀ u ∈ news, u.oneCell' = true)
  (h63 : n + m <= maxLen) (hbytes : (n + m) * bytes <= 140737488355328) (hbase : base <= w.heap.size) :
  ∃ v' w', (Builtin.append_ #[t, t] ty #[v, .slice (some ad) m c]).run P w = .ok v' w' /\ w'.ownsRow base e size v' (n + m) (xs ++ news) /\ w.grownBy w' v.ownBlock /\ (v'.ownBlock = v.ownBlock \/ ∀ g, v'.ownBlock = some g -> w.heap.size <= g) /\ (v'.ownBlock = v.ownBlock \/ w.grownBy w' none) := by
 have hown0 := hown
 rcases hown.2 with ⟨rfl, rfl⟩ | ⟨g, cap, cur, rfl, _, _, _⟩
 ·obtain rfl : xs = [] := List.eq_nil_of_length_eq_zero (by simpa using hown.1)
  obtain ⟨v', w', hr, r1, r2, _⟩ := run_append_own (P := P) w w.heap.size t ty e i z size bytes ht hi hz hsize hby hzs hsz (.slice none 0 0) 0 [] (World.ownsRow_nil w _ e size) ad m c news hl hnews h1 h63 hbytes (Nat.le_refl _)
  exact ⟨v', w', hr, own_mono r1 hbase, r2, .inr fun g hg => (r1.lt g hg).1, .inr r2⟩
 ·by_cases hroom : n + m <= cap
  ·obtain ⟨w', hr, r1, r2⟩ := run_append_fits (P := P) w base t ty e i size ht hi hsize g n cap xs hown0 ad m c news hl hnews h1 hroom
   exact ⟨_, w', hr, r1, r2, .inl rfl, .inl rfl⟩
  ·have holds : ∀ j u, xs[j]? = some u -> w.cell? ((⟨g, 0, none⟩ : Addr).add j) = some u := hown0.cells (g := g) rfl
   obtain ⟨v', w', hr, r1, r2⟩ := run_append_arg_grows (P := P) w t ty e i z size bytes ht hi hz hsize hby hzs hsz ⟨g, 0, none⟩ n cap xs hown0.1 holds ad m c news hl hnews (by omega) h63 hbytes
   exact ⟨v', w', hr, own_mono r1 hbase, grownBy_any r2 _, .inr fun g hg => (r1.lt g hg).1, .inr r2⟩
structure Grew (W W' : World) (v v' : Value) : Prop where
 os : W'.os = W.os
 tape : W'.tape = W.tape
 output : W'.output = W.output
 size : W.heap.size <= W'.heap.size
 block : ∀ k, k < W.heap.size -> some k ≠ v.ownBlock -> W'.heap[k]? = W.heap[k]?
 own : v'.ownBlock = v.ownBlock \/ ∀ g, v'.ownBlock = some g -> W.heap.size <= g
 stay : v'.ownBlock = v.ownBlock \/ ∀ k, k < W.heap.size -> W'.heap[k]? = W.heap[k]?
theorem Grew.refl (W : World) (v : Value) : Grew W W v v := ⟨rfl, rfl, rfl, Nat.le_refl _, fun _ _ _ => rfl, .inl rfl, .inl rfl⟩
theorem Grew.below {W W' : World} {v v' : Value} (h : Grew W W' v v') {B : Nat} (hB : ∀ g, v.ownBlock = some g -> B <= g) (hs : B <= W.heap.size) : Below B W W' :=
 ⟨h.os, h.tape, h.output, h.size, fun k hk => h.block k (by omega) (fun e => by have := hB k e.symm; omega)⟩
def Cs (w : World) (u : Value) (size m : Nat) (news : List Value) : Prop := (u = .slice none 0 0 /\ m = 0 /\ news = []) \/ ∃ ad c, u = .slice (some ad) m c /\ news.length = m * size /\ (∀ j v, news[j]? = some v -> w.cell? (ad.add j) = some v) /\ ∀ v ∈ news, v.oneCell' = true
theorem wp_append_row (w : World) {o : Oper} {a : Act} {K : Act -> World -> Prop} {Q : Exit -> Act -> World -> Prop} (s x : Operand) (t e : TypeId) (z : Value) (size bytes : Nat)
  (ht : Tryz.prog.underlying t = some (.slice e)) (hinf : (Tryz.prog.info? e).map (fun i => (i.zero, i.size, i.bytes)) = some (some z, size, bytes)) (hzs : z.cells.size = size) (hsz : 0 < size)
  (ho : o.op = .call { callee := .builtin .append, args := #[s, x], argTypes := #[t, t] }) (B : Nat) (v : Value) (n : Nat) (xs : List Value) (hs : a.eval s = v) (hown : w.ownsRow B e size v n xs)
  (u : Value) (m : Nat) (news : List Value) (hx : a.eval x = u) (hp : Cs w u size m news) (hb : (n + m) * bytes <= room) (hb2 : n + m <= maxLen) (hB : B <= w.heap.size)
  (h : ∀ v' w', w'.ownsRow B e size v' (n + m) (xs ++ news) -> Grew w w' v v' -> K (a.put o.dst v') w') : o.wp Tryz.prog a w K Q := by
 obtain ⟨i0, hi, hz0, hz1, hz2⟩ := info_parts hinf
 unfold room at hb
 rcases hp with ⟨rfl, rfl, rfl⟩ | ⟨ad, c, rfl, hl, hc, h1⟩
 ·have hr := run_append_owned_none (P := Tryz.prog) w B t o.type e i0 size ht hi v n xs hown
  unfold Oper.wp execOp
  simp only [ho, resolve, invoke, builtin, Sem.run_bind, Sem.run_pure, Result.andThen_ok, List.map_toArray, List.map_cons, List.map_nil, hs, hx, hr]
  exact h v w (by simpa using hown) (Grew.refl _ _)
 ·obtain ⟨v', w', hr, r1, r2, r3, r4⟩ := run_append_own2 (P := Tryz.prog) w t o.type B e i0 z size bytes ht hi hz0 hz1 hz2 hzs hsz v n xs hown ad m c news hl hc h1 hb2 hb hB
  unfold Oper.wp execOp
  simp only [ho, resolve, invoke, builtin, Sem.run_bind, Sem.run_pure, Result.andThen_ok, List.map_toArray, List.map_cons, List.map_nil, hs, hx, hr]
  exact h v' w' r1 ⟨r2.os, r2.tape, r2.output, r2.size, fun k hk e => r2.block k hk e, r3, r4.imp_right fun g k hk => g.block k hk (by simp)⟩
theorem wpList_append_row (w : World) {ops : Array Oper} {rest : List Oper} {o : Oper} {a : Act} {Q : Exit -> Act -> World -> Prop} (hgd : o.guard = none) (s x : Operand) (t e : TypeId) (z : Value) (size bytes : Nat)
  (ht : Tryz.prog.underlying t = some (.slice e)) (hinf : (Tryz.prog.info? e).map (fun i => (i.zero, i.size, i.bytes)) = some (some z, size, bytes)) (hzs : z.cells.size = size) (hsz : 0 < size)
  (ho : o.op = .call { callee := .builtin .append, args := #[s, x], argTypes := #[t, t] }) (B : Nat) (v : Value) (n : Nat) (xs : List Value) (hs : a.eval s = v) (hown : w.ownsRow B e size v n xs)
  (u : Value) (m : Nat) (news : List Value) (hx : a.eval x = u) (hp : Cs w u size m news) (hb : (n + m) * bytes <= room) (hb2 : n + m <= maxLen) (hB : B <= w.heap.size)
  (h : ∀ v' w', w'.ownsRow B e size v' (n + m) (xs ++ news) -> Grew w w' v v' -> wpList Tryz.prog ops Q rest (a.put o.dst v') w') : wpList Tryz.prog ops Q (o :: rest) a w :=
 wpList_plain hgd fun _ hK => wp_append_row w s x t e z size bytes ht hinf hzs hsz ho B v n xs hs hown u m news hx hp hb hb2 hB fun v' w' h2 h3 => hK _ _ (h v' w' h2 h3)
theorem Ls.cs {α : Type} {e : α -> List Value} {s : Nat} (hs : ∀ a, (e a).length = s) (hp : 0 < s) (h1 : ∀ l : List α, ∀ u ∈ en e l, u.oneCell' = true) {W : World} {v : Value} {l : List α} (h : Ls e s W v l) : Cs W v s l.length (en e l) := by
 rcases h with ⟨rfl, rfl⟩ | ⟨x, c, rfl, _, h2⟩
 ·exact .inl ⟨rfl, rfl, rfl⟩
 ·exact .inr ⟨x, c, rfl, en_len hs l, fun j u hj => h2.news hs hp j u hj, h1 l⟩
theorem Cs.below {W W' : World} {u : Value} {s n : Nat} {xs : List Value} (h : Cs W u s n xs) (b : Below W.heap.size W W') : Cs W' u s n xs := by
 rcases h with h | ⟨ad, c, e1, e2, e3, e4⟩
 ·exact .inl h
 ·exact .inr ⟨ad, c, e1, e2, fun j v hj => by have e := e3 j v hj; rw [b.cell (World.block_lt_of_cell? W _ e)]; exact e, e4⟩
theorem Ls.below {α : Type} {e : α -> List Value} {s : Nat} {W W' : World} {v : Value} {l : List α} (h : Ls e s W v l) (b : Below W.heap.size W W') : Ls e s W' v l := by
 rcases h with h | ⟨x, c, e1, e2, e3⟩
 ·exact .inl h
 ·exact .inr ⟨x, c, e1, e2, e3.below b⟩
theorem Grew.belowAll {W W' : World} {v v' : Value} (h : Grew W W' v v') {N : Nat} (hB : ∀ g, v.ownBlock = some g -> N <= g) {W0 : World} (h0 : Below N W0 W) (hN : N <= W0.heap.size) : Below N W0 W' :=
 h0.trans (h.below hB (Nat.le_trans hN h0.size))
theorem eql_nil (t e : TypeId) (ht : Tryz.prog.underlying t = some (.slice e)) (W : World) (p : Option Addr) (n c : Nat) : (binOp .eql t (.slice p n c) (.slice none 0 0)).run Tryz.prog W = .ok (.bool p.isNone) W := by
 have h : ∀ d : Nat, (Op.equalIn (d + 1) t (.slice p n c) (.slice none 0 0)).run Tryz.prog W = .ok p.isNone W := fun d => by
  cases p <;> simp [Op.equalIn, run_underlying ht]
 have h2 : (Op.equal t (.slice p n c) (.slice none 0 0)).run Tryz.prog W = .ok p.isNone W := h 9999
 simp [binOp, h2]
theorem run_copy_rows {P : Program} (w : World) (dT sT ty elem : TypeId) (g o dLen dCap s : Nat) (a : Addr) (sLen sCap : Nat) (cur : Array Value) (t : TypeId) (cs : List Value)
  (hu : P.underlying dT = some (.slice elem)) (hs : (P.info? elem).map (·.size) = some s)
  (hg : w.heap[g]? = some (.cells cur t (0, 0))) (hn : cs.length = Nat.min sLen dLen * s)
  (hsrc : ∀ j v, cs[j]? = some v -> w.cell? (a.add j) = some v) (hfit : o + cs.length <= cur.size) (h1 : ∀ v ∈ cs, v.oneCell' = true) :
  (Builtin.copy_ #[dT, sT] ty #[.slice (some ⟨g, o, none⟩) dLen dCap, .slice (some a) sLen sCap]).run P w =
   .ok (goInt (Nat.min sLen dLen)) (w.setRow g (cur.toList.take o ++ cs ++ cur.toList.drop (o + cs.length)).toArray) := by
 have hl := run_loadCells_list (P := P) w a cs hsrc
 have hst := run_storeCells_at P g o t cs 0 cur w hg (by simpa using hfit) h1
 cases hq : P.info? elem with
 | none => simp [hq] at hs
 | some i =>
  have hi : i.size = s := by simpa [hq] using hs
  simp [Builtin.copy_, run_underlying hu, Builtin.lenOf, Builtin.firstCells, sizeOf, typeInfo, hq, hi, <- hn, hl, hst]
theorem setRow_eq (W : World) (g : Nat) (c : List Value) (t : TypeId) (c' : List Value) (h : W.heap[g]? = some (.cells c.toArray t (0, 0))) : (W.setRow g c'.toArray).heap[g]? = some (.cells c'.toArray t (0, 0)) := setRow_heap W g _ _ t _ h
theorem own_empty (W : World) (t : TypeId) (s : Nat) : (W.alloc (.cells #[] t)).ownsRow W.heap.size t s (.slice (some ⟨W.heap.size, 0, none⟩) 0 0) 0 [] :=
 ⟨by simp, .inr ⟨W.heap.size, 0, #[], rfl, Nat.le_refl _, heap_alloc_new W _, Nat.le_refl _, by decide, by simp, by simp⟩⟩
end Go.Proofs.YtoemoiehjdmheaaGreat.S
namespace Go.Proofs.YtoemoiehjdmheaaGreat.D
open Go.RowKit
open Go.Proofs
set_option linter.unusedVariables false
set_option linter.unusedSimpArgs false
set_option maxRecDepth 100000
theorem run_make_any (W : World) (t e : TypeId) (z : Value) (size bytes : Nat) (ht : Tryz.prog.underlying t = some (.slice e)) (hinf : (Tryz.prog.info? e).map (fun i => (i.zero, i.size, i.bytes)) = some (some z, size, bytes)) (n : Nat) (hb : bytes * n <= 281474976710656) (h63 : n <= maxLen) :
  (Instr.makeSlice t (.int .i64 (n : Int)) (.int .i64 (n : Int))).run Tryz.prog W = .ok (.slice (some ⟨W.heap.size, 0, none⟩) n n) (W.alloc (.cells (madeCells z.cells (n * size)) e)) := by
 obtain ⟨i0, hi, hz0, hz1, hz2⟩ := info_parts hinf
 have hb' : (i0.bytes : Int) * (n : Int) <= 281474976710656 := by
  have h : ((i0.bytes * n : Nat) : Int) <= 281474976710656 := by rw [hz2]; omega
  rwa [Int.natCast_mul] at h
 have hr := run_make (P := Tryz.prog) W t e i0 z ht hi hz0 .i64 .i64 n n (by omega) (Int.le_refl _) hb' (by simp [maxLen] at h63; omega)
 simp only [Int.toNat_natCast, hz1] at hr
 exact hr
end Go.Proofs.YtoemoiehjdmheaaGreat.D
