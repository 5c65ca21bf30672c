import Derived.Test.YtdnklgceghllaaaGreatDoorProg
import Derived.WalkKit
import Derived.KernelRfl
import Derived.Laws.Rows
import Derived.Laws.CopyRow
import Derived.ProofKit
import Derived.Laws.MakeOwn
import Derived.Laws.OwnMore
import Derived.Deep.RegionLaw
import Derived.ArgAppend
import Derived.OwnWalk
import Derived.BigQuiet
namespace Go.Proofs.YtdnklgceghllaaaGreatDoor.S
open Go.RowKit
set_option linter.unusedVariables false
set_option linter.unusedSimpArgs false
open Go.Proofs
def en {α : Type} (e : α -> List Value) (l : List α) : List Value := l.flatMap e
theorem en_append {α : Type} (e : α -> List Value) (a b : List α) : en e (a ++ b) = en e a ++ en e b := by simp [en]
theorem en_cons {α : Type} (e : α -> List Value) (a : α) (l : List α) : en e (a :: l) = e a ++ en e l := by simp [en]
theorem en_len {α : Type} {e : α -> List Value} {s : Nat} (hs : ∀ a, (e a).length = s) : ∀ l : List α, (en e l).length = l.length * s
 | [] => by simp [en]
 | a :: l => by rw [en_cons, List.length_append, hs, en_len hs l, List.length_cons, Nat.succ_mul, Nat.add_comm]
theorem en_get {α : Type} {e : α -> List Value} {s : Nat} (hs : ∀ a, (e a).length = s) : ∀ (l : List α) (i j : Nat) (a : α), l[i]? = some a -> j < s -> (en e l)[i * s + j]? = (e a)[j]?
 | [], i, j, a, h, _ => by simp at h
 | b :: l, 0, j, a, h, hj => by
  simp at h; subst h
  rw [en_cons, Nat.zero_mul, Nat.zero_add, List.getElem?_append_left (by rw [hs]; exact hj)]
 | b :: l, i + 1, j, a, h, hj => by
  have ih := en_get hs l i j a (by simpa using h) hj
  rw [en_cons, List.getElem?_append_right (by rw [hs, Nat.succ_mul]; omega), hs, <- ih]
  congr 1
  rw [Nat.succ_mul]; omega
def eU (z : Int) : List Value := [.int .u16 z]
def eK (t : Int × Int) : List Value := [.int .i64 t.1, .int .u16 t.2]
theorem hU (a : Int) : (eU a).length = 1 := rfl
theorem hK (a : Int × Int) : (eK a).length = 2 := rfl
def rest {α : Type} (z : α) (l : List α) : List α := List.replicate (256 - l.length) z
def pc {α : Type} (e : α -> List Value) (z : α) (l : List α) : List Value := en e (l ++ rest z l) ++ [.int .i64 (l.length : Int)]
theorem lt_of {W : World} {i : Nat} {o : Obj} (e : W.heap[i]? = some o) : i < W.heap.size := (Array.getElem?_eq_some_iff.1 e).1
theorem setCell_heap (W : World) (b i : Nat) (c : List Value) (t : TypeId) (v : Value) (h : W.heap[b]? = some (.cells c.toArray t (0, 0))) : (W.setCell ⟨b, i, none⟩ v).heap[b]? = some (.cells (c.set i v).toArray t (0, 0)) := by
 simp [World.setCell, Array.getElem?_modify, h]
theorem setCell_other (W : World) (b i k : Nat) (v : Value) (h : k ≠ b) : (W.setCell ⟨b, i, none⟩ v).heap[k]? = W.heap[k]? := Below.heap_setCell W _ v k h
theorem cell_of (W : World) (b i : Nat) (c : List Value) (t : TypeId) (v : Value) (h : W.heap[b]? = some (.cells c.toArray t (0, 0))) (hi : c[i]? = some v) : W.cell? ⟨b, i, none⟩ = some v := by
 simp [World.cell?, h, hi]
theorem frozen_of (W : World) (b i : Nat) (c : List Value) (t : TypeId) (h : W.heap[b]? = some (.cells c.toArray t (0, 0))) : W.frozen? ⟨b, i, none⟩ = false := by
 simp [World.frozen?, h]
structure Tc (F : Nat -> Prop) (W W' : World) : Prop where
 os : W'.os = W.os
 tape : W'.tape = W.tape
 output : W'.output = W.output
 size : W.heap.size <= W'.heap.size
 block : ∀ k, k < W.heap.size -> ¬ F k -> W'.heap[k]? = W.heap[k]?
def Sl {α : Type} (e : α -> List Value) (s : Nat) (W : World) (p : Option Addr) (l : List α) : Prop := ∀ i a, l[i]? = some a -> ∃ b o, p = some ⟨b, o, none⟩ /\ ∀ j u, (e a)[j]? = some u -> W.cell? ⟨b, o + i * s + j, none⟩ = some u
def Ls {α : Type} (e : α -> List Value) (s : Nat) (W : World) (v : Value) (l : List α) : Prop := (v = .slice none 0 0 /\ l = []) \/ ∃ x c, v = .slice (some x) l.length c /\ l.length <= c /\ Sl e s W (some x) l
theorem Ls.ex {α : Type} {e : α -> List Value} {s : Nat} {W : World} {v : Value} {l : List α} (h : Ls e s W v l) : ∃ p c, v = .slice p l.length c /\ l.length <= c /\ Sl e s W p l := by
 rcases h with ⟨rfl, rfl⟩ | ⟨x, c, rfl, h1, h2⟩
 ·exact ⟨none, 0, rfl, Nat.le_refl _, fun i a h => by simp at h⟩
 ·exact ⟨some x, c, rfl, h1, h2⟩
theorem Sl.kept {α : Type} {e : α -> List Value} {s : Nat} {W W' : World} {p : Option Addr} {l : List α} (h : Sl e s W p l) (k : ∀ b o u, p = some ⟨b, o, none⟩ -> ∀ i, W.cell? ⟨b, i, none⟩ = some u -> W'.cell? ⟨b, i, none⟩ = some u) : Sl e s W' p l := by
 intro i a hi
 obtain ⟨b, o, e1, e2⟩ := h i a hi
 exact ⟨b, o, e1, fun j u hj => k b o u e1 _ (e2 j u hj)⟩
theorem Sl.below {α : Type} {e : α -> List Value} {s : Nat} {W W' : World} {p : Option Addr} {l : List α} (h : Sl e s W p l) (b : Below W.heap.size W W') : Sl e s W' p l :=
 h.kept fun g o u _ i hu => by rw [b.cell (World.block_lt_of_cell? W _ hu)]; exact hu
theorem own_mono {w : World} {B B' : Nat} {e : TypeId} {size : Nat} {v : Value} {n : Nat} {xs : List Value} (h : w.ownsRow B e size v n xs) (hb : B' <= B) : w.ownsRow B' e size v n xs := by
 refine ⟨h.1, ?_⟩
 rcases h.2 with h | ⟨g, cap, cur, h1, h2, h3⟩
 ·exact .inl h
 ·exact .inr ⟨g, cap, cur, h1, Nat.le_trans hb h2, h3⟩
theorem own_kept {W W' : World} {B : Nat} {e : TypeId} {size : Nat} {v : Value} {n : Nat} {xs : List Value} (h : W.ownsRow B e size v n xs) (k : ∀ g, v.ownBlock = some g -> g < W.heap.size -> W'.heap[g]? = W.heap[g]?) : W'.ownsRow B e size v n xs := by
 refine ⟨h.1, ?_⟩
 rcases h.2 with h | ⟨g, cap, cur, rfl, h2, h3, h4⟩
 ·exact .inl h
 ·exact .inr ⟨g, cap, cur, rfl, h2, (k g rfl (Array.getElem?_eq_some_iff.1 h3).1).trans h3, h4⟩
theorem own_sl {α : Type} {e : α -> List Value} {s : Nat} (hs : ∀ a, (e a).length = s) {W : World} {B : Nat} {t : TypeId} {v : Value} {l : List α} (h : W.ownsRow B t s v l.length (en e l)) : Ls e s W v l := by
 have h' := h
 rcases h.2 with ⟨rfl, e⟩ | ⟨g, cap, cur, rfl, _, hg, hcap, _⟩
 ·exact .inl ⟨rfl, List.eq_nil_of_length_eq_zero e⟩
 ·refine .inr ⟨⟨g, 0, none⟩, cap, rfl, hcap, fun i a hi => ⟨g, 0, rfl, fun j u hj => ?_⟩⟩
  have hj' : j < s := by rw [<- hs a]; exact (List.getElem?_eq_some_iff.1 hj).1
  have := World.ownsRow.cells h' (g := g) rfl (i * s + j) u (by rw [en_get hs l i j a hi hj']; exact hj)
  rw [Addr.add_lit] at this
  rw [Nat.add_assoc]; exact this
theorem i64_id (z : Int) (h0 : -9223372036854775808 <= z) (h1 : z < 9223372036854775808) : IntKind.i64.wrap z = z := by
 simp [IntKind.wrap, IntKind.bits, IntKind.signed]; omega
set_option maxHeartbeats 1000000
set_option maxRecDepth 100000
def At (b : Nat) (W W' : World) : Prop := Tc (fun k => k = b) W W'
def room : Nat := 140737488355328
theorem grownBy_any {w w' : World} (g : w.grownBy w' none) (r : Option Nat) : w.grownBy w' r := ⟨g.os, g.tape, g.output, g.size, fun k hk _ => g.block k hk (by simp)⟩
theorem own_pos {w : World} {B : Nat} {e : TypeId} {size : Nat} {v : Value} {n : Nat} {xs : List Value} (h : w.ownsRow B e size v n xs) (h0 : 0 < n) : ∃ g cap, v = .slice (some ⟨g, 0, none⟩) n cap := by
 rcases h.2 with ⟨_, h⟩ | ⟨g, cap, cur, h1, _⟩
 ·omega
 ·exact ⟨g, cap, h1⟩
theorem run_append_own2 {P : Program} (w : World) (t ty : TypeId) (base : Nat) (e : TypeId) (i : TypeInfo) (z : Value) (size bytes : Nat) (ht : P.underlying t = some (.slice e)) (hi : P.info? e = some i) (hz : i.zero = some z)
  (hsize : i.size = size) (hby : i.bytes = bytes) (hzs : z.cells.size = size) (hsz : 0 < size)
  (v : Value) (n : Nat) (xs : List Value) (hown : w.ownsRow base e size v n xs)
  (ad : Addr) (m c : Nat) (news : List Value) (hl : news.length = m * size) (hnews : ∀ j u, news[j]? = some u -> w.cell? (ad.add j) = some u) (h1 : ∀ u ∈ news, u.oneCell' = true)
  (h63 : n + m <= maxLen) (hbytes : (n + m) * bytes <= 140737488355328) (hbase : base <= w.heap.size) :
  ∃ v' w', (Builtin.append_ #[t, t] ty #[v, .slice (some ad) m c]).run P w = .ok v' w' /\ w'.ownsRow base e size v' (n + m) (xs ++ news) /\ w.grownBy w' v.ownBlock /\ (v'.ownBlock = v.ownBlock \/ ∀ g, v'.ownBlock = some g -> w.heap.size <= g) /\ (v'.ownBlock = v.ownBlock \/ w.grownBy w' none) := by
 have hown0 := hown
 rcases hown.2 with ⟨rfl, rfl⟩ | ⟨g, cap, cur, rfl, _, _, _⟩
 ·obtain rfl : xs = [] := List.eq_nil_of_length_eq_zero (by simpa using hown.1)
  obtain ⟨v', w', hr, r1, r2, _⟩ := run_append_own (P := P) w w.heap.size t ty e i z size bytes ht hi hz hsize hby hzs hsz (.slice none 0 0) 0 [] (World.ownsRow_nil w _ e size) ad m c news hl hnews h1 h63 hbytes (Nat.le_refl _)
  exact ⟨v', w', hr, own_mono r1 hbase, r2, .inr fun g hg => (r1.lt g hg).1, .inr r2⟩
 ·by_cases hroom : n + m <= cap
  ·obtain ⟨w', hr, r1, r2⟩ := run_append_fits (P := P) w base t ty e i size ht hi hsize g n cap xs hown0 ad m c news hl hnews h1 hroom
   exact ⟨_, w', hr, r1, r2, .inl rfl, .inl rfl⟩
  ·have holds : ∀ j u, xs[j]? = some u -> w.cell? ((⟨g, 0, none⟩ : Addr).add j) = some u := hown0.cells (g := g) rfl
   obtain ⟨v', w', hr, r1, r2⟩ := run_append_arg_grows (P := P) w t ty e i z size bytes ht hi hz hsize hby hzs hsz ⟨g, 0, none⟩ n cap xs hown0.1 holds ad m c news hl hnews (by omega) h63 hbytes
   exact ⟨v', w', hr, own_mono r1 hbase, grownBy_any r2 _, .inr fun g hg => (r1.lt g hg).1, .inr r2⟩
structure Grew (W W' : World) (v v' : Value) : Prop where
 os : W'.os = W.os
 tape : W'.tape = W.tape
 output : W'.output = W.output
 size : W.heap.size <= W'.heap.size
 block : ∀ k, k < W.heap.size -> some k ≠ v.ownBlock -> W'.heap[k]? = W.heap[k]?
 own : v'.ownBlock = v.ownBlock \/ ∀ g, v'.ownBlock = some g -> W.heap.size <= g
 stay : v'.ownBlock = v.ownBlock \/ ∀ k, k < W.heap.size -> W'.heap[k]? = W.heap[k]?
theorem Grew.refl (W : World) (v : Value) : Grew W W v v := ⟨rfl, rfl, rfl, Nat.le_refl _, fun _ _ _ => rfl, .inl rfl, .inl rfl⟩
theorem Grew.below {W W' : World} {v v' : Value} (h : Grew W W' v v') {B : Nat} (hB : ∀ g, v.ownBlock = some g -> B <= g) (hs : B <= W.heap.size) : Below B W W' :=
 ⟨h.os, h.tape, h.output, h.size, fun k hk => h.block k (by omega) (fun e => by have := hB k e.symm; omega)⟩
def Cs (w : World) (u : Value) (size m : Nat) (news : List Value) : Prop := (u = .slice none 0 0 /\ m = 0 /\ news = []) \/ ∃ ad c, u = .slice (some ad) m c /\ news.length = m * size /\ (∀ j v, news[j]? = some v -> w.cell? (ad.add j) = some v) /\ ∀ v ∈ news, v.oneCell' = true
theorem wp_append_row (w : World) {o : Oper} {a : Act} {K : Act -> World -> Prop} {Q : Exit -> Act -> World -> Prop} (s x : Operand) (t e : TypeId) (z : Value) (size bytes : Nat)
  (ht : Tryz.prog.underlying t = some (.slice e)) (hinf : (Tryz.prog.info? e).map (fun i => (i.zero, i.size, i.bytes)) = some (some z, size, bytes)) (hzs : z.cells.size = size) (hsz : 0 < size)
  (ho : o.op = .call { callee := .builtin .append, args := #[s, x], argTypes := #[t, t] }) (B : Nat) (v : Value) (n : Nat) (xs : List Value) (hs : a.eval s = v) (hown : w.ownsRow B e size v n xs)
  (u : Value) (m : Nat) (news : List Value) (hx : a.eval x = u) (hp : Cs w u size m news) (hb : (n + m) * bytes <= room) (hb2 : n + m <= maxLen) (hB : B <= w.heap.size)
  (h : ∀ v' w', w'.ownsRow B e size v' (n + m) (xs ++ news) -> Grew w w' v v' -> K (a.put o.dst v') w') : o.wp Tryz.prog a w K Q := by
 obtain ⟨i0, hi, hz0, hz1, hz2⟩ := info_parts hinf
 unfold room at hb
 rcases hp with ⟨rfl, rfl, rfl⟩ | ⟨ad, c, rfl, hl, hc, h1⟩
 ·have hr := run_append_owned_none (P := Tryz.prog) w B t o.type e i0 size ht hi v n xs hown
  unfold Oper.wp execOp
  simp only [ho, resolve, invoke, builtin, Sem.run_bind, Sem.run_pure, Result.andThen_ok, List.map_toArray, List.map_cons, List.map_nil, hs, hx, hr]
  exact h v w (by simpa using hown) (Grew.refl _ _)
 ·obtain ⟨v', w', hr, r1, r2, r3, r4⟩ := run_append_own2 (P := Tryz.prog) w t o.type B e i0 z size bytes ht hi hz0 hz1 hz2 hzs hsz v n xs hown ad m c news hl hc h1 hb2 hb hB
  unfold Oper.wp execOp
  simp only [ho, resolve, invoke, builtin, Sem.run_bind, Sem.run_pure, Result.andThen_ok, List.map_toArray, List.map_cons, List.map_nil, hs, hx, hr]
  exact h v' w' r1 ⟨r2.os, r2.tape, r2.output, r2.size, fun k hk e => r2.block k hk e, r3, r4.imp_right fun g k hk => g.block k hk (by simp)⟩
theorem wpList_append_row (w : World) {ops : Array Oper} {rest : List Oper} {o : Oper} {a : Act} {Q : Exit -> Act -> World -> Prop} (hgd : o.guard = none) (s x : Operand) (t e : TypeId) (z : Value) (size bytes : Nat)
  (ht : Tryz.prog.underlying t = some (.slice e)) (hinf : (Tryz.prog.info? e).map (fun i => (i.zero, i.size, i.bytes)) = some (some z, size, bytes)) (hzs : z.cells.size = size) (hsz : 0 < size)
  (ho : o.op = .call { callee := .builtin .append, args := #[s, x], argTypes := #[t, t] }) (B : Nat) (v : Value) (n : Nat) (xs : List Value) (hs : a.eval s = v) (hown : w.ownsRow B e size v n xs)
  (u : Value) (m : Nat) (news : List Value) (hx : a.eval x = u) (hp : Cs w u size m news) (hb : (n + m) * bytes <= room) (hb2 : n + m <= maxLen) (hB : B <= w.heap.size)
  (h : ∀ v' w', w'.ownsRow B e size v' (n + m) (xs ++ news) -> Grew w w' v v' -> wpList Tryz.prog ops Q rest (a.put o.dst v') w') : wpList Tryz.prog ops Q (o :: rest) a w :=
 wpList_plain hgd fun _ hK => wp_append_row w s x t e z size bytes ht hinf hzs hsz ho B v n xs hs hown u m news hx hp hb hb2 hB fun v' w' h2 h3 => hK _ _ (h v' w' h2 h3)
theorem Ls.below {α : Type} {e : α -> List Value} {s : Nat} {W W' : World} {v : Value} {l : List α} (h : Ls e s W v l) (b : Below W.heap.size W W') : Ls e s W' v l := by
 rcases h with h | ⟨x, c, e1, e2, e3⟩
 ·exact .inl h
 ·exact .inr ⟨x, c, e1, e2, e3.below b⟩
theorem Grew.belowAll {W W' : World} {v v' : Value} (h : Grew W W' v v') {N : Nat} (hB : ∀ g, v.ownBlock = some g -> N <= g) {W0 : World} (h0 : Below N W0 W) (hN : N <= W0.heap.size) : Below N W0 W' :=
 h0.trans (h.below hB (Nat.le_trans hN h0.size))
end Go.Proofs.YtdnklgceghllaaaGreatDoor.S
namespace Go.Proofs.YtdnklgceghllaaaGreatDoor.D
open Go.RowKit
open Go.Proofs
set_option linter.unusedVariables false
set_option linter.unusedSimpArgs false
set_option maxRecDepth 100000
theorem run_storeVar_at (w : World) (g o : Nat) (t ty : TypeId) (cur cells : Array Value) (hg : w.heap[g]? = some (.cells cur t (0, 0))) (hi : (Tryz.prog.info? ty).map (·.size) = some cells.size)
  (hfit : o + cells.size <= cur.size) (h1 : ∀ v ∈ cells.toList, v.oneCell' = true) :
  (storeVar ty ⟨g, o, none⟩ (.agg cells)).run Tryz.prog w = .ok () (w.setRow g (cur.toList.take o ++ cells.toList ++ cur.toList.drop (o + cells.size)).toArray) := by
 have := run_storeCells_at Tryz.prog g o t cells.toList 0 cur w hg (by simpa using hfit) h1
 cases hq : Tryz.prog.info? ty with
 | none => simp [hq] at hi
 | some i =>
  have hs : cells.size = i.size := by simp [hq] at hi; omega
  simp [storeVar, sizeOf, typeInfo, hq, Value.cells, hs, this]
end Go.Proofs.YtdnklgceghllaaaGreatDoor.D
