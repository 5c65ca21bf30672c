import Derived.Test.YtlljelfplffglabDoorSKit
/-! Append, copy, and rows of their own. -/
namespace Go.Proofs.YtlljelfplffglabDoor.S
open Go.RowKit
open Go.Proofs
set_option linter.unusedVariables false
set_option linter.unusedSimpArgs false
def room : Nat := 140737488355328
theorem info32 : (Tryd.prog.info? 37).map (fun i => (i.zero, i.size, i.bytes)) = some (some (.int .u16 0), 1, 2) := by kernel_rfl
theorem size32 : (Tryd.prog.info? 37).map (·.size) = some 1 := by kernel_rfl
theorem grownBy_any {w w' : World} (g : w.grownBy w' none) (r : Option Nat) : w.grownBy w' r := ⟨g.os, g.tape, g.output, g.size, fun k hk _ => g.block k hk (by simp)⟩
theorem own_pos {w : World} {B : Nat} {e : TypeId} {size : Nat} {v : Value} {n : Nat} {xs : List Value} (h : w.ownsRow B e size v n xs) (h0 : 0 < n) : ∃ g cap, v = .slice (some ⟨g, 0, none⟩) n cap := by
  rcases h.2 with ⟨_, h⟩ | ⟨g, cap, cur, h1, _⟩
  · omega
  · exact ⟨g, cap, h1⟩
/-- append onto a row of the call's own: into the same block, or into a new one. -/
theorem run_append_own2 {P : Program} (w : World) (t ty : TypeId) (base : Nat) (e : TypeId) (i : TypeInfo) (z : Value) (size bytes : Nat) (ht : P.underlying t = some (.slice e)) (hi : P.info? e = some i) (hz : i.zero = some z)
    (hsize : i.size = size) (hby : i.bytes = bytes) (hzs : z.cells.size = size) (hsz : 0 < size)
    (v : Value) (n : Nat) (xs : List Value) (hown : w.ownsRow base e size v n xs)
    (ad : Addr) (m c : Nat) (news : List Value) (hl : news.length = m * size) (hnews : ∀ j u, news[j]? = some u → w.cell? (ad.add j) = some u) (h1 : ∀ u ∈ news, u.oneCell' = true)
    (h63 : n + m ≤ maxLen) (hbytes : (n + m) * bytes ≤ 140737488355328) (hbase : base ≤ w.heap.size) :
    ∃ v' w', (Builtin.append_ #[t, t] ty #[v, .slice (some ad) m c]).run P w = .ok v' w' ∧ w'.ownsRow base e size v' (n + m) (xs ++ news) ∧ w.grownBy w' v.ownBlock ∧ (v'.ownBlock = v.ownBlock ∨ ∀ g, v'.ownBlock = some g → w.heap.size ≤ g) ∧ (v'.ownBlock = v.ownBlock ∨ w.grownBy w' none) := by
  have hown0 := hown
  rcases hown.2 with ⟨rfl, rfl⟩ | ⟨g, cap, cur, rfl, _, _, _⟩
  · obtain rfl : xs = [] := List.eq_nil_of_length_eq_zero (by simpa using hown.1)
    obtain ⟨v', w', hr, r1, r2, _⟩ := run_append_own (P := P) w w.heap.size t ty e i z size bytes ht hi hz hsize hby hzs hsz (.slice none 0 0) 0 [] (World.ownsRow_nil w _ e size) ad m c news hl hnews h1 h63 hbytes (Nat.le_refl _)
    exact ⟨v', w', hr, own_mono r1 hbase, r2, .inr fun g hg => (r1.lt g hg).1, .inr r2⟩
  · by_cases hroom : n + m ≤ cap
    · obtain ⟨w', hr, r1, r2⟩ := run_append_fits (P := P) w base t ty e i size ht hi hsize g n cap xs hown0 ad m c news hl hnews h1 hroom
      exact ⟨_, w', hr, r1, r2, .inl rfl, .inl rfl⟩
    · have holds : ∀ j u, xs[j]? = some u → w.cell? ((⟨g, 0, none⟩ : Addr).add j) = some u := hown0.cells (g := g) rfl
      obtain ⟨v', w', hr, r1, r2⟩ := run_append_arg_grows (P := P) w t ty e i z size bytes ht hi hz hsize hby hzs hsz ⟨g, 0, none⟩ n cap xs hown0.1 holds ad m c news hl hnews (by omega) h63 hbytes
      exact ⟨v', w', hr, own_mono r1 hbase, grownBy_any r2 _, .inr fun g hg => (r1.lt g hg).1, .inr r2⟩

/-- What an append does. -/
structure Grew (W W' : World) (v v' : Value) : Prop where
  os : W'.os = W.os
  tape : W'.tape = W.tape
  output : W'.output = W.output
  size : W.heap.size ≤ W'.heap.size
  block : ∀ k, k < W.heap.size → some k ≠ v.ownBlock → W'.heap[k]? = W.heap[k]?
  own : v'.ownBlock = v.ownBlock ∨ ∀ g, v'.ownBlock = some g → W.heap.size ≤ g
  stay : v'.ownBlock = v.ownBlock ∨ ∀ k, k < W.heap.size → W'.heap[k]? = W.heap[k]?
theorem Grew.refl (W : World) (v : Value) : Grew W W v v := ⟨rfl, rfl, rfl, Nat.le_refl _, fun _ _ _ => rfl, .inl rfl, .inl rfl⟩
theorem Grew.below {W W' : World} {v v' : Value} (h : Grew W W' v v') {B : Nat} (hB : ∀ g, v.ownBlock = some g → B ≤ g) (hs : B ≤ W.heap.size) : Below B W W' :=
  ⟨h.os, h.tape, h.output, h.size, fun k hk => h.block k (by omega) (fun e => by have := hB k e.symm; omega)⟩
/-- The cells that a slice value tells. -/
def Cs (w : World) (u : Value) (size m : Nat) (news : List Value) : Prop := (u = .slice none 0 0 ∧ m = 0 ∧ news = []) ∨ ∃ ad c, u = .slice (some ad) m c ∧ news.length = m * size ∧ (∀ j v, news[j]? = some v → w.cell? (ad.add j) = some v) ∧ ∀ v ∈ news, v.oneCell' = true
theorem wp_append_row (w : World) {o : Oper} {a : Act} {K : Act → World → Prop} {Q : Exit → Act → World → Prop} (s x : Operand) (t e : TypeId) (z : Value) (size bytes : Nat)
    (ht : Tryd.prog.underlying t = some (.slice e)) (hinf : (Tryd.prog.info? e).map (fun i => (i.zero, i.size, i.bytes)) = some (some z, size, bytes)) (hzs : z.cells.size = size) (hsz : 0 < size)
    (ho : o.op = .call { callee := .builtin .append, args := #[s, x], argTypes := #[t, t] }) (B : Nat) (v : Value) (n : Nat) (xs : List Value) (hs : a.eval s = v) (hown : w.ownsRow B e size v n xs)
    (u : Value) (m : Nat) (news : List Value) (hx : a.eval x = u) (hp : Cs w u size m news) (hb : (n + m) * bytes ≤ room) (hb2 : n + m ≤ maxLen) (hB : B ≤ w.heap.size)
    (h : ∀ v' w', w'.ownsRow B e size v' (n + m) (xs ++ news) → Grew w w' v v' → K (a.put o.dst v') w') : o.wp Tryd.prog a w K Q := by
  obtain ⟨i0, hi, hz0, hz1, hz2⟩ := info_parts hinf
  unfold room at hb
  rcases hp with ⟨rfl, rfl, rfl⟩ | ⟨ad, c, rfl, hl, hc, h1⟩
  · have hr := run_append_owned_none (P := Tryd.prog) w B t o.type e i0 size ht hi v n xs hown
    unfold Oper.wp execOp
    simp only [ho, resolve, invoke, builtin, Sem.run_bind, Sem.run_pure, Result.andThen_ok, List.map_toArray, List.map_cons, List.map_nil, hs, hx, hr]
    exact h v w (by simpa using hown) (Grew.refl _ _)
  · obtain ⟨v', w', hr, r1, r2, r3, r4⟩ := run_append_own2 (P := Tryd.prog) w t o.type B e i0 z size bytes ht hi hz0 hz1 hz2 hzs hsz v n xs hown ad m c news hl hc h1 hb2 hb hB
    unfold Oper.wp execOp
    simp only [ho, resolve, invoke, builtin, Sem.run_bind, Sem.run_pure, Result.andThen_ok, List.map_toArray, List.map_cons, List.map_nil, hs, hx, hr]
    exact h v' w' r1 ⟨r2.os, r2.tape, r2.output, r2.size, fun k hk e => r2.block k hk e, r3, r4.imp_right fun g k hk => g.block k hk (by simp)⟩
theorem wpList_append_row (w : World) {ops : Array Oper} {rest : List Oper} {o : Oper} {a : Act} {Q : Exit → Act → World → Prop} (hgd : o.guard = none) (s x : Operand) (t e : TypeId) (z : Value) (size bytes : Nat)
    (ht : Tryd.prog.underlying t = some (.slice e)) (hinf : (Tryd.prog.info? e).map (fun i => (i.zero, i.size, i.bytes)) = some (some z, size, bytes)) (hzs : z.cells.size = size) (hsz : 0 < size)
    (ho : o.op = .call { callee := .builtin .append, args := #[s, x], argTypes := #[t, t] }) (B : Nat) (v : Value) (n : Nat) (xs : List Value) (hs : a.eval s = v) (hown : w.ownsRow B e size v n xs)
    (u : Value) (m : Nat) (news : List Value) (hx : a.eval x = u) (hp : Cs w u size m news) (hb : (n + m) * bytes ≤ room) (hb2 : n + m ≤ maxLen) (hB : B ≤ w.heap.size)
    (h : ∀ v' w', w'.ownsRow B e size v' (n + m) (xs ++ news) → Grew w w' v v' → wpList Tryd.prog ops Q rest (a.put o.dst v') w') : wpList Tryd.prog ops Q (o :: rest) a w :=
  wpList_plain hgd fun _ hK => wp_append_row w s x t e z size bytes ht hinf hzs hsz ho B v n xs hs hown u m news hx hp hb hb2 hB fun v' w' h2 h3 => hK _ _ (h v' w' h2 h3)

theorem Ls.cs {α : Type} {e : α → List Value} {s : Nat} (hs : ∀ a, (e a).length = s) (hp : 0 < s) (h1 : ∀ l : List α, ∀ u ∈ en e l, u.oneCell' = true) {W : World} {v : Value} {l : List α} (h : Ls e s W v l) : Cs W v s l.length (en e l) := by
  rcases h with ⟨rfl, rfl⟩ | ⟨x, c, rfl, _, h2⟩
  · exact .inl ⟨rfl, rfl, rfl⟩
  · exact .inr ⟨x, c, rfl, en_len hs l, fun j u hj => h2.news hs hp j u hj, h1 l⟩
theorem Cs.below {W W' : World} {u : Value} {s n : Nat} {xs : List Value} (h : Cs W u s n xs) (b : Below W.heap.size W W') : Cs W' u s n xs := by
  rcases h with h | ⟨ad, c, e1, e2, e3, e4⟩
  · exact .inl h
  · exact .inr ⟨ad, c, e1, e2, fun j v hj => by have e := e3 j v hj; rw [b.cell (World.block_lt_of_cell? W _ e)]; exact e, e4⟩
theorem Ls.below {α : Type} {e : α → List Value} {s : Nat} {W W' : World} {v : Value} {l : List α} (h : Ls e s W v l) (b : Below W.heap.size W W') : Ls e s W' v l := by
  rcases h with h | ⟨x, c, e1, e2, e3⟩
  · exact .inl h
  · exact .inr ⟨x, c, e1, e2, e3.below b⟩
theorem Grew.belowAll {W W' : World} {v v' : Value} (h : Grew W W' v v') {N : Nat} (hB : ∀ g, v.ownBlock = some g → N ≤ g) {W0 : World} (h0 : Below N W0 W) (hN : N ≤ W0.heap.size) : Below N W0 W' :=
  h0.trans (h.below hB (Nat.le_trans hN h0.size))
theorem eql_nil (t e : TypeId) (ht : Tryd.prog.underlying t = some (.slice e)) (W : World) (p : Option Addr) (n c : Nat) : (binOp .eql t (.slice p n c) (.slice none 0 0)).run Tryd.prog W = .ok (.bool p.isNone) W := by
  have h : ∀ d : Nat, (Op.equalIn (d + 1) t (.slice p n c) (.slice none 0 0)).run Tryd.prog W = .ok p.isNone W := fun d => by
    cases p <;> simp [Op.equalIn, run_underlying ht]
  have h2 : (Op.equal t (.slice p n c) (.slice none 0 0)).run Tryd.prog W = .ok p.isNone W := h 9999
  simp [binOp, h2]
/-- copy, of elements of some cells each. -/
theorem run_copy_rows {P : Program} (w : World) (dT sT ty elem : TypeId) (g o dLen dCap s : Nat) (a : Addr) (sLen sCap : Nat) (cur : Array Value) (t : TypeId) (cs : List Value)
    (hu : P.underlying dT = some (.slice elem)) (hs : (P.info? elem).map (·.size) = some s)
    (hg : w.heap[g]? = some (.cells cur t (0, 0))) (hn : cs.length = Nat.min sLen dLen * s)
    (hsrc : ∀ j v, cs[j]? = some v → w.cell? (a.add j) = some v) (hfit : o + cs.length ≤ cur.size) (h1 : ∀ v ∈ cs, v.oneCell' = true) :
    (Builtin.copy_ #[dT, sT] ty #[.slice (some ⟨g, o, none⟩) dLen dCap, .slice (some a) sLen sCap]).run P w =
      .ok (goInt (Nat.min sLen dLen)) (w.setRow g (cur.toList.take o ++ cs ++ cur.toList.drop (o + cs.length)).toArray) := by
  have hl := run_loadCells_list (P := P) w a cs hsrc
  have hst := run_storeCells_at P g o t cs 0 cur w hg (by simpa using hfit) h1
  cases hq : P.info? elem with
  | none => simp [hq] at hs
  | some i =>
    have hi : i.size = s := by simpa [hq] using hs
    simp [Builtin.copy_, run_underlying hu, Builtin.lenOf, Builtin.firstCells, sizeOf, typeInfo, hq, hi, ← hn, hl, hst]
theorem setRow_eq (W : World) (g : Nat) (c : List Value) (t : TypeId) (c' : List Value) (h : W.heap[g]? = some (.cells c.toArray t (0, 0))) : (W.setRow g c'.toArray).heap[g]? = some (.cells c'.toArray t (0, 0)) := setRow_heap W g _ _ t _ h
/-- An empty row that buildSlice makes. -/
theorem own_empty (W : World) (t : TypeId) (s : Nat) : (W.alloc (.cells #[] t)).ownsRow W.heap.size t s (.slice (some ⟨W.heap.size, 0, none⟩) 0 0) 0 [] :=
  ⟨by simp, .inr ⟨W.heap.size, 0, #[], rfl, Nat.le_refl _, heap_alloc_new W _, Nat.le_refl _, by decide, by simp, by simp⟩⟩
end Go.Proofs.YtlljelfplffglabDoor.S
