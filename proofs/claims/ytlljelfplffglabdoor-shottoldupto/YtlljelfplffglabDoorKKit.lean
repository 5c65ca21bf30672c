import Derived.Test.YtlljelfplffglabDoorKSum
import Derived.Laws.Rows
import Derived.Laws.MakeOwn
import Derived.Laws.OwnMore
import Derived.Deep.RegionLaw
import Derived.ArgAppend
import Derived.OwnWalk
/-! Rows of bytes in a block of their own; append. -/
namespace Go.Proofs.YtlljelfplffglabDoor.K
open Go.RowKit
set_option linter.unusedVariables false

theorem info5 : (Tryd.prog.info? 5).map (fun i => (i.zero, i.size, i.bytes)) = some (some (.int .u8 0), 1, 1) := by kernel_rfl
theorem info22 : (Tryd.prog.info? 23).map (fun i => (i.zero, i.size, i.bytes)) = some (some (.slice none 0 0), 1, 24) := by kernel_rfl
def room : Nat := 140737488355328

def bv (l : List UInt8) : List Value := l.map fun b => Value.int .u8 (b.toNat : Int)
theorem bv_len (l : List UInt8) : (bv l).length = l.length := by simp [bv]
theorem bv_append (a b : List UInt8) : bv (a ++ b) = bv a ++ bv b := by simp [bv]
theorem bv_get (l : List UInt8) (j : Nat) (u : Value) : (bv l)[j]? = some u ↔ ∃ b, l[j]? = some b ∧ u = .int .u8 (b.toNat : Int) := by
  simp only [bv, List.getElem?_map, Option.map_eq_some_iff]
  exact ⟨fun ⟨b, h, e⟩ => ⟨b, h, e.symm⟩, fun ⟨b, h, e⟩ => ⟨b, h, e.symm⟩⟩
theorem bv_one (l : List UInt8) : ∀ u ∈ bv l, u.oneCell' = true := by intro u hu; simp [bv] at hu; obtain ⟨x, _, rfl⟩ := hu; rfl

/-- A slice value that reads as these bytes. -/
def Sl (W : World) (v : Value) (l : List UInt8) : Prop := (v = .slice none 0 0 ∧ l = []) ∨ ∃ x c, v = .slice (some x) l.length c ∧ l.length ≤ c ∧ ∀ j b, l[j]? = some b → W.cell? (x.add j) = some (.int .u8 (b.toNat : Int))
theorem Sl.ex {W : World} {v : Value} {l : List UInt8} (h : Sl W v l) : ∃ p c, v = .slice p l.length c ∧ Bs W p l := by
  rcases h with ⟨rfl, rfl⟩ | ⟨x, c, rfl, _, h⟩
  · exact ⟨none, 0, rfl, .inl rfl⟩
  · exact ⟨some x, c, rfl, .inr ⟨x, rfl, h⟩⟩
theorem Sl.kept {W W' : World} {v : Value} {l : List UInt8} (h : Sl W v l) (k : ∀ a u, W.cell? a = some u → some a.block = v.ownBlock → W'.cell? a = some u) : Sl W' v l := by
  rcases h with h | ⟨x, c, rfl, hc, h⟩
  · exact .inl h
  · exact .inr ⟨x, c, rfl, hc, fun j b hj => k _ _ (h j b hj) (by unfold Addr.add; split <;> rfl)⟩
theorem Sl.below {W W' : World} {v : Value} {l : List UInt8} (h : Sl W v l) (b : Below W.heap.size W W') : Sl W' v l :=
  h.kept fun a u e _ => by rw [b.cell (World.block_lt_of_cell? W a e)]; exact e
theorem Bs.below {W W' : World} {p : Option Addr} {l : List UInt8} (h : Bs W p l) (b : Below W.heap.size W W') : Bs W' p l := by
  rcases h with h | ⟨x, rfl, h⟩
  · exact .inl h
  · exact .inr ⟨x, rfl, fun j c hj => by have e := h j c hj; rw [b.cell (World.block_lt_of_cell? W _ e)]; exact e⟩

/-- A row of bytes in a block of its own. -/
def Row (W : World) (B : Nat) (v : Value) (l : List UInt8) : Prop := W.ownsRow B 5 1 v l.length (bv l)
theorem row_nil (W : World) (B : Nat) : Row W B (.slice none 0 0) [] := World.ownsRow_nil W _ 5 1
theorem Row.sl {W : World} {B : Nat} {v : Value} {l : List UInt8} (h : Row W B v l) : Sl W v l := by
  have h' := h
  rcases h.2 with ⟨rfl, e⟩ | ⟨g, cap, cur, rfl, _, hg, hcap, _⟩
  · exact .inl ⟨rfl, List.eq_nil_of_length_eq_zero e⟩
  · refine .inr ⟨⟨g, 0, none⟩, cap, rfl, hcap, fun j b hj => ?_⟩
    exact World.ownsRow.cells h' (g := g) rfl j _ ((bv_get l j _).2 ⟨b, hj, rfl⟩)
theorem row_of_alloc (W : World) (B : Nat) (hB : B ≤ W.heap.size) (l : List UInt8) (hl : l.length ≤ maxLen) : Row (W.alloc (.cells (bv l).toArray 5)) B (.slice (some ⟨W.heap.size, 0, none⟩) l.length l.length) l := by
  refine ⟨by simp [bv], .inr ⟨W.heap.size, l.length, (bv l).toArray, rfl, hB, heap_alloc_new W _, Nat.le_refl _, hl, by simp [bv], ?_⟩⟩
  rw [List.take_of_length_le (by simp [bv])]
theorem Row.kept {W W' : World} {B : Nat} {v : Value} {l : List UInt8} (h : Row W B v l) (k : ∀ g, v.ownBlock = some g → g < W.heap.size → W'.heap[g]? = W.heap[g]?) : Row W' B v l := by
  refine ⟨h.1, ?_⟩
  rcases h.2 with h | ⟨g, cap, cur, rfl, h2, h3, h4⟩
  · exact .inl h
  · exact .inr ⟨g, cap, cur, rfl, h2, (k g rfl (Array.getElem?_eq_some_iff.1 h3).1).trans h3, h4⟩
theorem Row.below {W W' : World} {B : Nat} {v : Value} {l : List UInt8} (h : Row W B v l) (b : Below W.heap.size W W') : Row W' B v l := h.kept fun g _ hg => b.block g hg
theorem Row.mono {W : World} {B B' : Nat} {v : Value} {l : List UInt8} (h : Row W B v l) (hb : B' ≤ B) : Row W B' v l := by
  refine ⟨h.1, ?_⟩
  rcases h.2 with h | ⟨g, cap, cur, h1, h2, h3⟩
  · exact .inl h
  · exact .inr ⟨g, cap, cur, h1, Nat.le_trans hb h2, h3⟩
theorem Row.lt {W : World} {B : Nat} {v : Value} {l : List UInt8} (h : Row W B v l) (g : Nat) (e : v.ownBlock = some g) : B ≤ g ∧ g < W.heap.size := by
  rcases h.2 with ⟨rfl, _⟩ | ⟨g', cap, cur, rfl, h2, h3, _⟩
  · simp [Value.ownBlock] at e
  · simp [Value.ownBlock] at e; subst e; exact ⟨h2, (Array.getElem?_eq_some_iff.1 h3).1⟩

theorem grownBy_any {w w' : World} (g : w.grownBy w' none) (r : Option Nat) : w.grownBy w' r := ⟨g.os, g.tape, g.output, g.size, fun k hk _ => g.block k hk (by simp)⟩
theorem own_mono {w : World} {B B' : Nat} {e : TypeId} {size : Nat} {v : Value} {n : Nat} {xs : List Value} (h : w.ownsRow B e size v n xs) (hb : B' ≤ B) : w.ownsRow B' e size v n xs := by
  refine ⟨h.1, ?_⟩
  rcases h.2 with h | ⟨g, cap, cur, h1, h2, h3⟩
  · exact .inl h
  · exact .inr ⟨g, cap, cur, h1, Nat.le_trans hb h2, h3⟩
theorem own_pos {w : World} {B : Nat} {e : TypeId} {size : Nat} {v : Value} {n : Nat} {xs : List Value} (h : w.ownsRow B e size v n xs) (h0 : 0 < n) : ∃ g cap, v = .slice (some ⟨g, 0, none⟩) n cap := by
  rcases h.2 with ⟨_, h⟩ | ⟨g, cap, cur, h1, _⟩
  · omega
  · exact ⟨g, cap, h1⟩
/-- append onto a row of the call's own: into the same block, or into a new one. -/
theorem run_append_own2 {P : Program} (w : World) (t ty : TypeId) (base : Nat) (e : TypeId) (i : TypeInfo) (z : Value) (size bytes : Nat) (ht : P.underlying t = some (.slice e)) (hi : P.info? e = some i) (hz : i.zero = some z)
    (hsize : i.size = size) (hby : i.bytes = bytes) (hzs : z.cells.size = size) (hsz : 0 < size)
    (v : Value) (n : Nat) (xs : List Value) (hown : w.ownsRow base e size v n xs)
    (ad : Addr) (m c : Nat) (news : List Value) (hl : news.length = m * size) (hnews : ∀ j u, news[j]? = some u → w.cell? (ad.add j) = some u) (h1 : ∀ u ∈ news, u.oneCell' = true)
    (h63 : n + m ≤ maxLen) (hbytes : (n + m) * bytes ≤ 140737488355328) (hbase : base ≤ w.heap.size) :
    ∃ v' w', (Builtin.append_ #[t, t] ty #[v, .slice (some ad) m c]).run P w = .ok v' w' ∧ w'.ownsRow base e size v' (n + m) (xs ++ news) ∧ w.grownBy w' v.ownBlock ∧ (v'.ownBlock = v.ownBlock ∨ ∀ g, v'.ownBlock = some g → w.heap.size ≤ g) ∧ (v'.ownBlock = v.ownBlock ∨ w.grownBy w' none) := by
  have hown0 := hown
  rcases hown.2 with ⟨rfl, rfl⟩ | ⟨g, cap, cur, rfl, _, _, _⟩
  · obtain rfl : xs = [] := List.eq_nil_of_length_eq_zero (by simpa using hown.1)
    obtain ⟨v', w', hr, r1, r2, _⟩ := run_append_own (P := P) w w.heap.size t ty e i z size bytes ht hi hz hsize hby hzs hsz (.slice none 0 0) 0 [] (World.ownsRow_nil w _ e size) ad m c news hl hnews h1 h63 hbytes (Nat.le_refl _)
    exact ⟨v', w', hr, own_mono r1 hbase, r2, .inr fun g hg => (r1.lt g hg).1, .inr r2⟩
  · by_cases hroom : n + m ≤ cap
    · obtain ⟨w', hr, r1, r2⟩ := run_append_fits (P := P) w base t ty e i size ht hi hsize g n cap xs hown0 ad m c news hl hnews h1 hroom
      exact ⟨_, w', hr, r1, r2, .inl rfl, .inl rfl⟩
    · have holds : ∀ j u, xs[j]? = some u → w.cell? ((⟨g, 0, none⟩ : Addr).add j) = some u := hown0.cells (g := g) rfl
      obtain ⟨v', w', hr, r1, r2⟩ := run_append_arg_grows (P := P) w t ty e i z size bytes ht hi hz hsize hby hzs hsz ⟨g, 0, none⟩ n cap xs hown0.1 holds ad m c news hl hnews (by omega) h63 hbytes
      exact ⟨v', w', hr, own_mono r1 hbase, grownBy_any r2 _, .inr fun g hg => (r1.lt g hg).1, .inr r2⟩

/-- What an append does. -/
structure Grew (W W' : World) (v v' : Value) : Prop where
  os : W'.os = W.os
  tape : W'.tape = W.tape
  output : W'.output = W.output
  size : W.heap.size ≤ W'.heap.size
  block : ∀ k, k < W.heap.size → some k ≠ v.ownBlock → W'.heap[k]? = W.heap[k]?
  own : v'.ownBlock = v.ownBlock ∨ ∀ g, v'.ownBlock = some g → W.heap.size ≤ g
  stay : v'.ownBlock = v.ownBlock ∨ ∀ k, k < W.heap.size → W'.heap[k]? = W.heap[k]?
theorem Grew.refl (W : World) (v : Value) : Grew W W v v := ⟨rfl, rfl, rfl, Nat.le_refl _, fun _ _ _ => rfl, .inl rfl, .inl rfl⟩
theorem Grew.below {W W' : World} {v v' : Value} (h : Grew W W' v v') {B : Nat} (hB : ∀ g, v.ownBlock = some g → B ≤ g) (hs : B ≤ W.heap.size) : Below B W W' :=
  ⟨h.os, h.tape, h.output, h.size, fun k hk => h.block k (by omega) (fun e => by have := hB k e.symm; omega)⟩
theorem wp_append_bytes (w : World) {o : Oper} {a : Act} {K : Act → World → Prop} {Q : Exit → Act → World → Prop} (s x : Operand)
    (ho : o.op = .call { callee := .builtin .append, args := #[s, x], argTypes := #[23, 23] }) (B : Nat) (v : Value) (l : List UInt8) (hs : a.eval s = v) (hown : Row w B v l)
    (u : Value) (m : List UInt8) (hx : a.eval x = u) (hp : Sl w u m) (hb : l.length + m.length ≤ room) (hB : B ≤ w.heap.size)
    (h : ∀ v' w', Row w' B v' (l ++ m) → Grew w w' v v' → K (a.put o.dst v') w') : o.wp Tryd.prog a w K Q := by
  obtain ⟨i0, hi, hz0, hz1, hz2⟩ := info_parts info5
  unfold room at hb
  rcases hp with ⟨rfl, rfl⟩ | ⟨ad, c, rfl, _, hc⟩
  · have hr := run_append_owned_none (P := Tryd.prog) w B 23 o.type 5 i0 1 Tryd.underlying23 hi v l.length (bv l) hown
    unfold Oper.wp execOp
    simp only [ho, resolve, invoke, builtin, Sem.run_bind, Sem.run_pure, Result.andThen_ok, List.map_toArray, List.map_cons, List.map_nil, hs, hx, hr]
    exact h v w (by simpa using hown) (Grew.refl _ _)
  · obtain ⟨v', w', hr, h1, h2, h3, h4⟩ := run_append_own2 (P := Tryd.prog) w 23 o.type B 5 i0 (.int .u8 0) 1 1 Tryd.underlying23 hi hz0 hz1 hz2 rfl (by decide) v l.length (bv l) hown ad m.length c (bv m) (by simp [bv])
      (fun j u hj => by obtain ⟨b, hb, rfl⟩ := (bv_get m j u).1 hj; exact hc j b hb) (bv_one m) (by unfold maxLen; omega) (by omega) hB
    unfold Oper.wp execOp
    simp only [ho, resolve, invoke, builtin, Sem.run_bind, Sem.run_pure, Result.andThen_ok, List.map_toArray, List.map_cons, List.map_nil, hs, hx, hr]
    exact h v' w' (by unfold Row; rw [List.length_append, bv_append]; exact h1) ⟨h2.os, h2.tape, h2.output, h2.size, fun k hk e => h2.block k hk e, h3, h4.imp_right fun g k hk => g.block k hk (by simp)⟩
theorem wpList_append_bytes (w : World) {ops : Array Oper} {rest : List Oper} {o : Oper} {a : Act} {Q : Exit → Act → World → Prop} (hgd : o.guard = none) (s x : Operand)
    (ho : o.op = .call { callee := .builtin .append, args := #[s, x], argTypes := #[23, 23] }) (B : Nat) (v : Value) (l : List UInt8) (hs : a.eval s = v) (hown : Row w B v l)
    (u : Value) (m : List UInt8) (hx : a.eval x = u) (hp : Sl w u m) (hb : l.length + m.length ≤ room) (hB : B ≤ w.heap.size)
    (h : ∀ v' w', Row w' B v' (l ++ m) → Grew w w' v v' → wpList Tryd.prog ops Q rest (a.put o.dst v') w') : wpList Tryd.prog ops Q (o :: rest) a w :=
  wpList_plain hgd fun _ hK => wp_append_bytes w s x ho B v l hs hown u m hx hp hb hB fun v' w' h2 h3 => hK _ _ (h v' w' h2 h3)
end Go.Proofs.YtlljelfplffglabDoor.K
