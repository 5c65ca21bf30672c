import Derived.Test.YtnoedlcdcoeokaaDoorRefPlaces
import Derived.Deep.RegionHeld3
import Derived.Deep.RegionLaw
import Derived.Deep.RegionLawGrows
import Derived.ArgAppend
/-! The statement's own shelf: keep. -/
namespace Go.Proofs.YtnoedlcdcoeokaaDoor
open Go.RowKit
set_option linter.unusedVariables false

theorem info24 : (Tryd.prog.info? 24).map (fun i => (i.zero, i.size, i.bytes)) = some (some (.slice none 0 0), 1, 24) := by kernel_rfl

/-- Blocks of rows stay as they are: what may turn are the shelf's own two lists (24) and itself (42). -/
def KeepsT (W W' : World) : Prop := ∀ (b : Nat) (cs : Array Value) (t : TypeId) (fr : Nat × Nat), W.heap[b]? = some (Obj.cells cs t fr) → t ≠ 24 → t ≠ 42 → W'.heap[b]? = some (Obj.cells cs t fr)
theorem KeepsT.refl (W : World) : KeepsT W W := fun _ _ _ _ h _ _ => h
theorem KeepsT.trans {a b c : World} (h : KeepsT a b) (k : KeepsT b c) : KeepsT a c := fun x cs t fr e h1 h2 => k x cs t fr (h x cs t fr e h1 h2) h1 h2
theorem KeepsT.alloc (W : World) (o : Obj) : KeepsT W (W.alloc o) := fun b _ _ _ e _ _ => (Below.heap_alloc W o b (Array.getElem?_eq_some_iff.1 e).1).trans e
theorem KeepsT.grown {W W' : World} {v : Value} {B n : Nat} {xs : List Value} (h : W.ownsRow B 24 1 v n xs) (g : W.grownBy W' v.ownBlock) : KeepsT W W' := fun b cs t fr e h1 _ => by
  refine (g.block b (Array.getElem?_eq_some_iff.1 e).1 ?_).trans e
  intro hb
  rcases h.2 with ⟨rfl, _⟩ | ⟨x, cap, cur, rfl, _, hx, _⟩
  · simp [Value.ownBlock] at hb
  · simp [Value.ownBlock] at hb
    subst hb
    rw [hx] at e; simp at e; exact h1 e.2.1.symm
theorem KeepsT.grown0 {W W' : World} (g : W.grownBy W' none) : KeepsT W W' := fun b _ _ _ e _ _ => (g.block b (Array.getElem?_eq_some_iff.1 e).1 (by simp)).trans e
theorem KeepsT.set {W : World} {bk : Nat} {cs : Array Value} (h : W.heap[bk]? = some (.cells cs 42 (0, 0))) (j : Nat) (v : Value) : KeepsT W (W.setCell ⟨bk, j, none⟩ v) := fun b cs' t fr e _ h2 => by
  refine (Below.heap_setCell W ⟨bk, j, none⟩ v b ?_).trans e
  rintro rfl
  rw [h] at e; simp at e; exact h2 e.2.1.symm
theorem KeepsT.row {W W' : World} (h : KeepsT W W') {b : Nat} {t : TypeId} {f : Nat → Int} {n : Nat} (r : IRow W b t f n) (h1 : t ≠ 24) (h2 : t ≠ 42) : IRow W' b t f n := h b _ t _ r h1 h2

/-- The shelf holds m lists and what each held. -/
structure Sh (B bk : Nat) (W : World) (m : Nat) (ls ws : List Value) (vL vW : Value) : Prop where
  blk : W.heap[bk]? = some (.cells #[vL, vW] 42 (0, 0))
  L : W.ownsRow B 24 1 vL m ls
  R : W.ownsRow B 24 1 vW m ws
  ne : ∀ g, vL.ownBlock = some g → vW.ownBlock ≠ some g

/-- A copy of a list of places. -/
def Cpy (W : World) (p : Option Addr) (n : Nat) (g : Nat → Int) : Prop := n = 0 ∨ ∃ b cur, p = some ⟨b, 0, none⟩ ∧ W.heap[b]? = some (.cells cur 27 (0, 0)) ∧ ∀ j, j < n * 2 → cur[j]? = some (.int .i64 (g j))
theorem Cpy.kept {W W' : World} {p : Option Addr} {n : Nat} {g : Nat → Int} (h : Cpy W p n g) (k : KeepsT W W') : Cpy W' p n g := by
  rcases h with h | ⟨b, cur, e, hb, hc⟩
  · exact .inl h
  · exact .inr ⟨b, cur, e, k b cur 27 _ hb (by decide) (by decide), hc⟩
theorem Cpy.lst {W : World} {p : Option Addr} {n : Nat} {g : Nat → Int} (h : Cpy W p n g) : Lst W p n g := by
  rcases h with h | ⟨b, cur, e, hb, hc⟩
  · exact .inl h
  · exact .inr ⟨b, e, fun j hj => by rw [cell_of_row W b j _ _ _ hb, hc j hj]⟩

theorem own_kept24 {W W' : World} {B : Nat} {v u : Value} {n : Nat} {xs : List Value} (h : W.ownsRow B 24 1 u n xs) (g : W.grownBy W' v.ownBlock) (hne : ∀ x, v.ownBlock = some x → u.ownBlock ≠ some x) : W'.ownsRow B 24 1 u n xs :=
  h.kept g (by
    cases hu : u.ownBlock with
    | none => exact .inl rfl
    | some x =>
      refine .inr ?_
      intro e
      exact hne x e.symm hu)

theorem own_mono {w : World} {B B' : Nat} {e : TypeId} {size : Nat} {v : Value} {n : Nat} {xs : List Value} (h : w.ownsRow B e size v n xs) (hb : B' ≤ B) : w.ownsRow B' e size v n xs := by
  refine ⟨h.1, ?_⟩
  rcases h.2 with h | ⟨g, cap, cur, h1, h2, h3⟩
  · exact .inl h
  · exact .inr ⟨g, cap, cur, h1, Nat.le_trans hb h2, h3⟩
theorem own_pos {w : World} {B : Nat} {e : TypeId} {size : Nat} {v : Value} {n : Nat} {xs : List Value} (h : w.ownsRow B e size v n xs) (h0 : 0 < n) : ∃ g cap, v = .slice (some ⟨g, 0, none⟩) n cap := by
  rcases h.2 with ⟨_, h⟩ | ⟨g, cap, cur, h1, _⟩
  · omega
  · exact ⟨g, cap, h1⟩
theorem grownBy_any {w w' : World} (g : w.grownBy w' none) (r : Option Nat) : w.grownBy w' r := ⟨g.os, g.tape, g.output, g.size, fun k hk _ => g.block k hk (by simp)⟩
/-- append onto a row of the call's own: into the same block, or into a new one. -/
theorem run_append_own2 {P : Program} (w : World) (t ty : TypeId) (base : Nat) (e : TypeId) (i : TypeInfo) (z : Value) (size bytes : Nat) (ht : P.underlying t = some (.slice e)) (hi : P.info? e = some i) (hz : i.zero = some z)
    (hsize : i.size = size) (hby : i.bytes = bytes) (hzs : z.cells.size = size) (hsz : 0 < size)
    (v : Value) (n : Nat) (xs : List Value) (hown : w.ownsRow base e size v n xs)
    (ad : Addr) (m c : Nat) (news : List Value) (hl : news.length = m * size) (hnews : ∀ j u, news[j]? = some u → w.cell? (ad.add j) = some u) (h1 : ∀ u ∈ news, u.oneCell' = true)
    (h63 : n + m ≤ maxLen) (hbytes : (n + m) * bytes ≤ 140737488355328) (hbase : base ≤ w.heap.size) :
    ∃ v' w', (Builtin.append_ #[t, t] ty #[v, .slice (some ad) m c]).run P w = .ok v' w' ∧ w'.ownsRow base e size v' (n + m) (xs ++ news) ∧ w.grownBy w' v.ownBlock ∧ (v'.ownBlock = v.ownBlock ∨ ∀ g, v'.ownBlock = some g → w.heap.size ≤ g) := by
  have hown0 := hown
  rcases hown.2 with ⟨rfl, rfl⟩ | ⟨g, cap, cur, rfl, _, _, _⟩
  · obtain rfl : xs = [] := List.eq_nil_of_length_eq_zero (by simpa using hown.1)
    obtain ⟨v', w', hr, r1, r2, _⟩ := run_append_own (P := P) w w.heap.size t ty e i z size bytes ht hi hz hsize hby hzs hsz (.slice none 0 0) 0 [] (World.ownsRow_nil w _ e size) ad m c news hl hnews h1 h63 hbytes (Nat.le_refl _)
    exact ⟨v', w', hr, own_mono r1 hbase, r2, .inr fun g hg => (r1.lt g hg).1⟩
  · by_cases hroom : n + m ≤ cap
    · obtain ⟨w', hr, r1, r2⟩ := run_append_fits (P := P) w base t ty e i size ht hi hsize g n cap xs hown0 ad m c news hl hnews h1 hroom
      exact ⟨_, w', hr, r1, r2, .inl rfl⟩
    · have holds : ∀ j u, xs[j]? = some u → w.cell? ((⟨g, 0, none⟩ : Addr).add j) = some u := hown0.cells (g := g) rfl
      obtain ⟨v', w', hr, r1, r2⟩ := run_append_arg_grows (P := P) w t ty e i z size bytes ht hi hz hsize hby hzs hsz ⟨g, 0, none⟩ n cap xs hown0.1 holds ad m c news hl hnews (by omega) h63 hbytes
      exact ⟨v', w', hr, own_mono r1 hbase, grownBy_any r2 _, .inr fun g hg => (r1.lt g hg).1⟩
theorem wp_append_own2 {P : Program} (w : World) {o : Oper} {a : Act} {K : Act → World → Prop} {Q : Exit → Act → World → Prop} (s x : Operand) (t : TypeId)
    (ho : o.op = .call { callee := .builtin .append, args := #[s, x], argTypes := #[t, t] })
    (base : Nat) (e : TypeId) (i : TypeInfo) (z : Value) (size bytes : Nat) (ht : P.underlying t = some (.slice e)) (hi : P.info? e = some i) (hz : i.zero = some z)
    (hsize : i.size = size) (hby : i.bytes = bytes) (hzs : z.cells.size = size) (hsz : 0 < size)
    (v : Value) (n : Nat) (xs : List Value) (hs : a.eval s = v) (hown : w.ownsRow base e size v n xs)
    (ad : Addr) (m c : Nat) (news : List Value) (hx : a.eval x = .slice (some ad) m c) (hl : news.length = m * size) (hnews : ∀ j u, news[j]? = some u → w.cell? (ad.add j) = some u) (h1 : ∀ u ∈ news, u.oneCell' = true)
    (h63 : n + m ≤ maxLen) (hbytes : (n + m) * bytes ≤ 140737488355328) (hbase : base ≤ w.heap.size)
    (h : ∀ v' w', w'.ownsRow base e size v' (n + m) (xs ++ news) → w.grownBy w' v.ownBlock → (v'.ownBlock = v.ownBlock ∨ ∀ g, v'.ownBlock = some g → w.heap.size ≤ g) → K (a.put o.dst v') w') : o.wp P a w K Q := by
  obtain ⟨v', w', hr, h2, h3, h4⟩ := run_append_own2 (P := P) w t o.type base e i z size bytes ht hi hz hsize hby hzs hsz v n xs hown ad m c news hl hnews h1 h63 hbytes hbase
  unfold Oper.wp execOp
  simp only [ho, resolve, invoke, builtin, Sem.run_bind, Sem.run_pure, Result.andThen_ok, List.map_toArray, List.map_cons, List.map_nil, hs, hx, hr]
  exact h v' w' h2 h3 h4
theorem wpList_append_own2 {P : Program} (w : World) {ops : Array Oper} {rest : List Oper} {o : Oper} {a : Act} {Q : Exit → Act → World → Prop} (hgd : o.guard = none) (s x : Operand) (t : TypeId)
    (ho : o.op = .call { callee := .builtin .append, args := #[s, x], argTypes := #[t, t] })
    (base : Nat) (e : TypeId) (i : TypeInfo) (z : Value) (size bytes : Nat) (ht : P.underlying t = some (.slice e)) (hi : P.info? e = some i) (hz : i.zero = some z)
    (hsize : i.size = size) (hby : i.bytes = bytes) (hzs : z.cells.size = size) (hsz : 0 < size)
    (v : Value) (n : Nat) (xs : List Value) (hs : a.eval s = v) (hown : w.ownsRow base e size v n xs)
    (ad : Addr) (m c : Nat) (news : List Value) (hx : a.eval x = .slice (some ad) m c) (hl : news.length = m * size) (hnews : ∀ j u, news[j]? = some u → w.cell? (ad.add j) = some u) (h1 : ∀ u ∈ news, u.oneCell' = true)
    (h63 : n + m ≤ maxLen) (hbytes : (n + m) * bytes ≤ 140737488355328) (hbase : base ≤ w.heap.size)
    (h : ∀ v' w', w'.ownsRow base e size v' (n + m) (xs ++ news) → w.grownBy w' v.ownBlock → (v'.ownBlock = v.ownBlock ∨ ∀ g, v'.ownBlock = some g → w.heap.size ≤ g) → wpList P ops Q rest (a.put o.dst v') w') : wpList P ops Q (o :: rest) a w :=
  wpList_plain hgd fun _ hK => wp_append_own2 w s x t ho base e i z size bytes ht hi hz hsize hby hzs hsz v n xs hs hown ad m c news hx hl hnews h1 h63 hbytes hbase fun v' w' h2 h3 h4 => hK _ _ (h v' w' h2 h3 h4)
/-- The same as one step of a region. -/
theorem step_append_own2 {P : Program} {ops : Array Oper} {o : Oper} {a : Act} {w : World} {K : Act → World → Prop} {Q : Exit → Act → World → Prop} {E : Prop} (hg : o.guard = none) (s x : Operand) (t : TypeId)
    (ho : o.op = .call { callee := .builtin .append, args := #[s, x], argTypes := #[t, t] })
    (base : Nat) (e : TypeId) (i : TypeInfo) (z : Value) (size bytes : Nat) (ht : P.underlying t = some (.slice e)) (hi : P.info? e = some i) (hz : i.zero = some z)
    (hsize : i.size = size) (hby : i.bytes = bytes) (hzs : z.cells.size = size) (hsz : 0 < size)
    (v : Value) (n : Nat) (xs : List Value) (hs : a.eval s = v) (hown : w.ownsRow base e size v n xs)
    (ad : Addr) (m c : Nat) (news : List Value) (hx : a.eval x = .slice (some ad) m c) (hl : news.length = m * size) (hnews : ∀ j u, news[j]? = some u → w.cell? (ad.add j) = some u) (h1 : ∀ u ∈ news, u.oneCell' = true)
    (h63 : n + m ≤ maxLen) (hbytes : (n + m) * bytes ≤ 140737488355328) (hbase : base ≤ w.heap.size)
    (h : ∀ v' w', w'.ownsRow base e size v' (n + m) (xs ++ news) → w.grownBy w' v.ownBlock → (v'.ownBlock = v.ownBlock ∨ ∀ g, v'.ownBlock = some g → w.heap.size ≤ g) → K (a.put o.dst v') w') :
    if Region.wanted o (yielded ops a.tmps) = true then Oper.wp P o a w K Q else E := by
  have hw : Region.wanted o (yielded ops a.tmps) = true := by simp [Region.wanted, hg]
  rw [if_pos hw]
  exact wp_append_own2 w s x t ho base e i z size bytes ht hi hz hsize hby hzs hsz v n xs hs hown ad m c news hx hl hnews h1 h63 hbytes hbase h

theorem own_set {w : World} {B : Nat} {v : Value} {n : Nat} {xs : List Value} (h : w.ownsRow B 24 1 v n xs) {bk : Nat} {cs : Array Value} (hb : w.heap[bk]? = some (.cells cs 42 (0, 0))) (j : Nat) (u : Value) : (w.setCell ⟨bk, j, none⟩ u).ownsRow B 24 1 v n xs := by
  refine h.kept (row := some bk) ⟨rfl, rfl, rfl, by simp, fun k _ hk => Below.heap_setCell w ⟨bk, j, none⟩ u k (fun e => hk (by rw [e]))⟩ ?_
  rcases h.2 with ⟨rfl, _⟩ | ⟨x, cap, cur, rfl, _, hx, _⟩
  · exact .inl rfl
  · refine .inr ?_
    intro e
    simp [Value.ownBlock] at e
    subst e
    rw [hx] at hb; simp at hb
/-- The shelf's block is none of its lists'. -/
theorem bk_kept {W W' : World} {bk : Nat} {cs : Array Value} {v : Value} {B n : Nat} {xs : List Value} (hb : W.heap[bk]? = some (.cells cs 42 (0, 0))) (h : W.ownsRow B 24 1 v n xs) (g : W.grownBy W' v.ownBlock) : W'.heap[bk]? = some (.cells cs 42 (0, 0)) := by
  refine (g.block bk (Array.getElem?_eq_some_iff.1 hb).1 ?_).trans hb
  intro e
  rcases h.2 with ⟨rfl, _⟩ | ⟨x, cap, cur, rfl, _, hx, _⟩
  · simp [Value.ownBlock] at e
  · simp [Value.ownBlock] at e
    subst e
    rw [hx] at hb; simp at hb
theorem rowl (W : World) (b n : Nat) (g : Nat → Int) (hr : IRow W b 27 g (n * 2)) (W' : World) (hk : W'.heap[b]? = W.heap[b]?) : ∀ j u, ((List.range (n * 2)).map fun j => Value.int .i64 (g j))[j]? = some u → W'.cell? ((⟨b, 0, none⟩ : Addr).add j) = some u := by
  intro j u hj
  have hlt : j < n * 2 := by
    by_cases h : j < n * 2
    · exact h
    · rw [List.getElem?_eq_none (by simp; omega)] at hj; cases hj
  have hc := (hr.kept hk).cell j hlt
  have ha : (⟨b, 0, none⟩ : Addr).add j = ⟨b, j, none⟩ := by unfold Addr.add; split <;> simp_all
  rw [ha, hc]
  simpa [hlt] using hj

def rowL (g : Nat → Int) (n : Nat) : List Value := (List.range (n * 2)).map fun j => Value.int .i64 (g j)
theorem step_copy {ops : Array Oper} {o : Oper} {a : Act} {w : World} {K : Act → World → Prop} {Q : Exit → Act → World → Prop} {E : Prop} (hg : o.guard = none) (s x : Operand)
    (hop : o.op = Op.call { callee := Callee.builtin Builtin.append, args := #[s, x], argTypes := #[24, 24] }) (b n bs : Nat) (h0 : 0 < n) (hn : n ≤ 60) (g : Nat → Int)
    (hs : a.eval s = .slice (some ⟨bs, 0, none⟩) 0 0) (hx : a.eval x = .slice (some ⟨b, 0, none⟩) n n) (hr : IRow w b 27 g (n * 2))
    (hK : ∀ gC capC w4, w4.ownsRow w.heap.size 27 2 (.slice (some ⟨gC, 0, none⟩) n capC) n (rowL g n) → w.grownBy w4 none → K (a.put o.dst (.slice (some ⟨gC, 0, none⟩) n capC)) w4) :
    if Region.wanted o (yielded ops a.tmps) = true then Oper.wp Tryd.prog o a w K Q else E := by
  obtain ⟨i1, ji, jz0, jz1, jz2⟩ := info_parts info27
  refine step_append_grows hg s x 24 hop 27 i1 (.agg #[.int .i64 0, .int .i64 0]) 2 16 Tryd.underlying24 ji jz0 jz1 jz2 rfl (by decide) (some ⟨bs, 0, none⟩) 0 0 [] hs (by simp) rfl (by intro x hx j u hj; simp at hj) ⟨b, 0, none⟩ n n (rowL g n) hx (by simp [rowL]) (rowl w b n g hr w rfl) (by intro u hu; simp [rowL] at hu; obtain ⟨x, _, rfl⟩ := hu; rfl) (by omega) (by unfold maxLen; omega) (by omega) ?_
  intro vC w4 hownC hgrC
  rw [Nat.zero_add, List.nil_append] at hownC
  obtain ⟨gC, capC, rfl⟩ := own_pos hownC h0
  exact hK gC capC w4 hownC hgrC
theorem step_keep {ops : Array Oper} {o : Oper} {a : Act} {w : World} {K : Act → World → Prop} {Q : Exit → Act → World → Prop} {E : Prop} (hg : o.guard = none) (s x : Operand)
    (hop : o.op = Op.call { callee := Callee.builtin Builtin.append, args := #[s, x], argTypes := #[40, 40] }) (B m bt : Nat) (hm : m ≤ 10) (ws : List Value) (v u : Value) (hu : u.oneCell' = true)
    (hs : a.eval s = v) (hown : w.ownsRow B 24 1 v m ws) (hx : a.eval x = .slice (some ⟨bt, 0, none⟩) 1 1) (ht : w.cell? ⟨bt, 0, none⟩ = some u) (hB : B ≤ w.heap.size)
    (hK : ∀ gW capW w6, w6.ownsRow B 24 1 (.slice (some ⟨gW, 0, none⟩) (m + 1) capW) (m + 1) (ws ++ [u]) → w.grownBy w6 v.ownBlock → (some gW = v.ownBlock ∨ w.heap.size ≤ gW) → K (a.put o.dst (.slice (some ⟨gW, 0, none⟩) (m + 1) capW)) w6) :
    if Region.wanted o (yielded ops a.tmps) = true then Oper.wp Tryd.prog o a w K Q else E := by
  obtain ⟨i0, hi, hz0, hz1, hz2⟩ := info_parts info24
  refine step_append_own2 hg s x 40 hop B 24 i0 (.slice none 0 0) 1 24 Tryd.underlying40 hi hz0 hz1 hz2 rfl (by decide) v m ws hs hown ⟨bt, 0, none⟩ 1 1 [u] hx rfl ?_ (by intro y hy; simp at hy; subst hy; exact hu) (by unfold maxLen; omega) (by omega) hB ?_
  · intro j y hj
    match j, hj with
    | 0, hj => simp at hj; subst hj; have ha : (⟨bt, 0, none⟩ : Addr).add 0 = ⟨bt, 0, none⟩ := by { unfold Addr.add; simp }
               rw [ha]; exact ht
  · intro vW' w6 h1 h2 h3
    obtain ⟨gW, capW, rfl⟩ := own_pos h1 (by omega)
    refine hK gW capW w6 h1 h2 ?_
    rcases h3 with h3 | h3
    · exact .inl (by rw [← h3]; rfl)
    · exact .inr (h3 gW rfl)

/-- What stands behind the copy. -/
structure Mid (B bk : Nat) (w0 w2 w4 : World) (m n : Nat) (ls ws : List Value) (vL vW : Value) : Prop where
  keeps : KeepsT w2 w4
  below : Below B w0 w4
  sh : w4.heap[bk]? = some (.cells #[vL, vW] 42 (0, 0))
  L : w4.ownsRow B 24 1 vL n ls
  R : w4.ownsRow B 24 1 vW m ws
  size : B ≤ w4.heap.size
theorem mid_of {B bk : Nat} {w0 w2 W3 w4 : World} {m n : Nat} {ls ws : List Value} {vL vW : Value} (hB : Below B w0 w2) (hz : B ≤ w2.heap.size) (hb : w2.heap[bk]? = some (.cells #[vL, vW] 42 (0, 0))) (hL : w2.ownsRow B 24 1 vL n ls) (hR : w2.ownsRow B 24 1 vW m ws)
    (h3 : Below w2.heap.size w2 W3) (hg : W3.grownBy w4 none) : Mid B bk w0 w2 w4 m n ls ws vL vW := by
  have h4 : Below w2.heap.size w2 w4 := h3.grown hg h3.size (fun j hj => by cases hj)
  exact ⟨fun b cs t fr e _ _ => (h4.block b (Array.getElem?_eq_some_iff.1 e).1).trans e, hB.trans (h4.mono hz), (h4.block bk (Array.getElem?_eq_some_iff.1 hb).1).trans hb, own_below hL h4, own_below hR h4, Nat.le_trans hz h4.size⟩
theorem mid_cell {B bk : Nat} {w0 w2 w4 : World} {m n : Nat} {ls ws : List Value} {vL vW : Value} (h : Mid B bk w0 w2 w4 m n ls ws vL vW) : w4.cell? ⟨bk, 1, none⟩ = some vW := cell_of_row w4 bk 1 _ _ _ h.sh

theorem step_copy2 {ops : Array Oper} {o : Oper} {a : Act} {w : World} {K : Act → World → Prop} {Q : Exit → Act → World → Prop} {E : Prop} (hg : o.guard = none) (s x : Operand)
    (hop : o.op = Op.call { callee := Callee.builtin Builtin.append, args := #[s, x], argTypes := #[24, 24] }) (b n bs : Nat) (h0 : 0 < n) (hn : n ≤ 60) (g : Nat → Int)
    (hs : a.eval s = .slice (some ⟨bs, 0, none⟩) 0 0) (hx : a.eval x = .slice (some ⟨b, 0, none⟩) n n) (B bk : Nat) (w0 w2 : World) (m k : Nat) (ls ws : List Value) (vL vW : Value) (h3 : Below w2.heap.size w2 w) (hr : IRow w2 b 27 g (n * 2))
    (hB : Below B w0 w2) (hz : B ≤ w2.heap.size) (hb : w2.heap[bk]? = some (.cells #[vL, vW] 42 (0, 0))) (hL : w2.ownsRow B 24 1 vL k ls) (hR : w2.ownsRow B 24 1 vW m ws)
    (hK : ∀ gC capC w4, w4.ownsRow w2.heap.size 27 2 (.slice (some ⟨gC, 0, none⟩) n capC) n (rowL g n) → Mid B bk w0 w2 w4 m k ls ws vL vW → w4.cell? ⟨bk, 1, none⟩ = some vW → K (a.put o.dst (.slice (some ⟨gC, 0, none⟩) n capC)) w4) :
    if Region.wanted o (yielded ops a.tmps) = true then Oper.wp Tryd.prog o a w K Q else E :=
  step_copy hg s x hop b n bs h0 hn g hs hx (hr.kept (h3.block b hr.lt)) fun gC capC w4 h1 h2 =>
    have hM := mid_of hB hz hb hL hR h3 h2
    hK gC capC w4 (own_mono h1 h3.size) hM (mid_cell hM)
/-- What stands at the end of the statement, ahead of the store. -/
structure Last (B bk : Nat) (w0 w4 w6 : World) (m k : Nat) (ls ws : List Value) (vL vW u v' : Value) : Prop where
  keeps : KeepsT w4 w6
  below : Below B w0 w6
  sh : w6.heap[bk]? = some (.cells #[vL, vW] 42 (0, 0))
  L : w6.ownsRow B 24 1 vL k ls
  R : w6.ownsRow B 24 1 v' (m + 1) (ws ++ [u])
  ne : ∀ g, vL.ownBlock = some g → v'.ownBlock ≠ some g
theorem step_keep2 {ops : Array Oper} {o : Oper} {a : Act} {w : World} {K : Act → World → Prop} {Q : Exit → Act → World → Prop} {E : Prop} (hg : o.guard = none) (s x : Operand)
    (hop : o.op = Op.call { callee := Callee.builtin Builtin.append, args := #[s, x], argTypes := #[40, 40] }) (B bk m k bt : Nat) (hm : m ≤ 10) (ls ws : List Value) (vL v u : Value) (hu : u.oneCell' = true) (w0 w2 w4 : World)
    (hs : a.eval s = v) (hx : a.eval x = .slice (some ⟨bt, 0, none⟩) 1 1) (hM : Mid B bk w0 w2 w4 m k ls ws vL v) (hne : ∀ g, vL.ownBlock = some g → v.ownBlock ≠ some g) (h5 : Below w4.heap.size w4 w) (ht : w.cell? ⟨bt, 0, none⟩ = some u)
    (hK : ∀ gW capW w6, Last B bk w0 w4 w6 m k ls ws vL v u (.slice (some ⟨gW, 0, none⟩) (m + 1) capW) → w6.cell? ⟨bk, 1, none⟩ = some v → w6.frozen? ⟨bk, 1, none⟩ = false → K (a.put o.dst (.slice (some ⟨gW, 0, none⟩) (m + 1) capW)) w6) :
    if Region.wanted o (yielded ops a.tmps) = true then Oper.wp Tryd.prog o a w K Q else E :=
  step_keep hg s x hop B m bt hm ws v u hu hs (own_below hM.R h5) hx ht (Nat.le_trans hM.size h5.size) fun gW capW w6 h1 h2 h3 => by
    have hL5 := own_below hM.L h5
    have hR5 := own_below hM.R h5
    have hb5 := (h5.block bk (Array.getElem?_eq_some_iff.1 hM.sh).1).trans hM.sh
    have hb6 := bk_kept hb5 hR5 h2
    have hL6 : w6.ownsRow B 24 1 vL k ls := own_kept24 hL5 h2 (fun x hx hv => hne x hv hx)
    refine hK gW capW w6 ⟨?_, ?_, hb6, hL6, h1, ?_⟩ (cell_of_row w6 bk 1 _ _ _ hb6) (frozen_of_row w6 bk 1 _ _ hb6)
    · exact KeepsT.trans (fun b cs t fr e _ _ => (h5.block b (Array.getElem?_eq_some_iff.1 e).1).trans e) (KeepsT.grown hR5 h2)
    · exact (hM.below.trans (h5.mono hM.size)).grown h2 (Nat.le_trans hM.size h5.size) (fun j hj => (hR5.lt j hj).1)
    · intro g hg' hv
      have hv' : gW = g := by simpa [Value.ownBlock] using hv
      subst hv'
      rcases h3 with h3 | h3
      · exact hne gW hg' h3.symm
      · have := (hL5.lt gW hg').2; omega

theorem cpy_of_own {W : World} {B gC capC n : Nat} {g : Nat → Int} (h : W.ownsRow B 27 2 (.slice (some ⟨gC, 0, none⟩) n capC) n (rowL g n)) : Cpy W (some ⟨gC, 0, none⟩) n g := by
  have h' := h
  rcases h.2 with ⟨e, _⟩ | ⟨x, cap, cur, e, _, hx, _⟩
  · cases e
  · simp at e
    obtain ⟨rfl, rfl⟩ := e
    refine .inr ⟨gC, cur, rfl, hx, fun j hj => ?_⟩
    have := h'.cellAt j hj
    rw [cell_of_row W gC j _ _ _ hx] at this
    rw [this]; simp [rowL, hj]
theorem step_copy3 {ops : Array Oper} {o : Oper} {a : Act} {w : World} {K : Act → World → Prop} {Q : Exit → Act → World → Prop} {E : Prop} (hg : o.guard = none) (s x : Operand)
    (hop : o.op = Op.call { callee := Callee.builtin Builtin.append, args := #[s, x], argTypes := #[24, 24] }) (b n bs : Nat) (hn : n ≤ 60) (g : Nat → Int)
    (hs : a.eval s = .slice (some ⟨bs, 0, none⟩) 0 0) (hx : a.eval x = .slice (some ⟨b, 0, none⟩) n n) (B bk : Nat) (w0 w2 : World) (m k : Nat) (ls ws : List Value) (vL vW : Value) (h3 : Below w2.heap.size w2 w) (hr : IRow w2 b 27 g (n * 2))
    (hB : Below B w0 w2) (hz : B ≤ w2.heap.size) (hb : w2.heap[bk]? = some (.cells #[vL, vW] 42 (0, 0))) (hL : w2.ownsRow B 24 1 vL k ls) (hR : w2.ownsRow B 24 1 vW m ws)
    (hK : ∀ gC capC w4, Cpy w4 (some ⟨gC, 0, none⟩) n g → Mid B bk w0 w2 w4 m k ls ws vL vW → w4.cell? ⟨bk, 1, none⟩ = some vW → K (a.put o.dst (.slice (some ⟨gC, 0, none⟩) n capC)) w4) :
    if Region.wanted o (yielded ops a.tmps) = true then Oper.wp Tryd.prog o a w K Q else E := by
  by_cases h0 : 0 < n
  · exact step_copy2 hg s x hop b n bs h0 hn g hs hx B bk w0 w2 m k ls ws vL vW h3 hr hB hz hb hL hR (fun gC capC w4 h1 h2 h3 => hK gC capC w4 (cpy_of_own h1) h2 h3)
  · obtain rfl : n = 0 := by omega
    obtain ⟨i1, ji, jz0, jz1, jz2⟩ := info_parts info27
    refine step_append_room hg s x 24 hop 27 i1 2 Tryd.underlying24 ji jz1 bs 0 0 0 hs ⟨b, 0, none⟩ 0 0 [] hx rfl (by simp) (by simp) (by omega) (by simp) ?_
    have hM := mid_of hB hz hb hL hR h3 (w4 := w.setCells bs (0 + 0 * 2) []) ⟨rfl, rfl, rfl, Nat.le_refl _, fun _ _ _ => rfl⟩
    exact hK bs 0 _ (.inl rfl) hM (mid_cell hM)
/-- What the shelf's second cell holds, whatever it is. -/
def cellV (w : World) (bk : Nat) : Value :=
  match w.cell? ⟨bk, 1, none⟩ with
  | some v => v
  | none => .int .i64 0
theorem cellV_some {w : World} {bk : Nat} {v : Value} (h : w.cell? ⟨bk, 1, none⟩ = some v) : w.cell? ⟨bk, 1, none⟩ = some (cellV w bk) := by unfold cellV; rw [h]
theorem cellV_eq {w : World} {bk : Nat} {v : Value} (h : w.cell? ⟨bk, 1, none⟩ = some v) : cellV w bk = v := by unfold cellV; rw [h]
theorem cell_alloc {w : World} {bk : Nat} {v : Value} (h : w.cell? ⟨bk, 1, none⟩ = some v) (o : Obj) : (w.alloc o).cell? ⟨bk, 1, none⟩ = some v := by
  have hl := World.block_lt_of_cell? w _ h
  rw [World.cell?_of_block (w := w) (Below.heap_alloc w o bk hl)]; exact h
theorem cell_set {w : World} {bk : Nat} {v1 v2 : Value} (h : w.heap[bk]? = some (.cells #[v1, v2] 42 (0, 0))) (v : Value) : (w.setCell ⟨bk, 1, none⟩ v).cell? ⟨bk, 1, none⟩ = some v := by
  rw [cell_of_row _ bk 1 _ _ _ (heap_setCell_same w bk 1 _ 42 v h)]; rfl

theorem keep_end {B bk : Nat} {w0 W w2 w4 w6 : World} {m n gL capL gC capC gW capW : Nat} {ls ws : List Value} {vW : Value} {g : Nat → Int} (hBk : B ≤ bk) (hk2 : KeepsT W w2)
    (hM : KeepsT w2 w4) (hC : Cpy w4 (some ⟨gC, 0, none⟩) n g)
    (hl : Last B bk w0 w4 w6 m (m + 1) ls ws (.slice (some ⟨gL, 0, none⟩) (m + 1) capL) vW (.slice (some ⟨gC, 0, none⟩) n capC) (.slice (some ⟨gW, 0, none⟩) (m + 1) capW)) :
    Below B w0 (w6.setCell ⟨bk, 1, none⟩ (.slice (some ⟨gW, 0, none⟩) (m + 1) capW)) ∧ KeepsT W (w6.setCell ⟨bk, 1, none⟩ (.slice (some ⟨gW, 0, none⟩) (m + 1) capW)) ∧
      ∃ p c vL' vW', Sh B bk (w6.setCell ⟨bk, 1, none⟩ (.slice (some ⟨gW, 0, none⟩) (m + 1) capW)) (m + 1) ls (ws ++ [.slice p n c]) vL' vW' ∧ Cpy (w6.setCell ⟨bk, 1, none⟩ (.slice (some ⟨gW, 0, none⟩) (m + 1) capW)) p n g := by
  have hks := KeepsT.set hl.sh 1 (.slice (some ⟨gW, 0, none⟩) (m + 1) capW)
  refine ⟨hl.below.setCell (p := ⟨bk, 1, none⟩) hBk _, hk2.trans (hM.trans (hl.keeps.trans hks)), some ⟨gC, 0, none⟩, capC, .slice (some ⟨gL, 0, none⟩) (m + 1) capL, .slice (some ⟨gW, 0, none⟩) (m + 1) capW, ⟨?_, own_set hl.L hl.sh 1 _, own_set hl.R hl.sh 1 _, hl.ne⟩, (hC.kept hl.keeps).kept hks⟩
  rw [heap_setCell_same w6 bk 1 _ 42 _ hl.sh]; rfl

set_option maxHeartbeats 1000000 in
set_option maxRecDepth 100000 in
theorem keep_any (B bk : Nat) (w0 W : World) (m n b : Nat) (ls ws : List Value) (vL vW : Value) (g : Nat → Int) (hm : m ≤ 10) (hn : n ≤ 60) (hB : Below B w0 W) (hBk : B ≤ bk)
    (h : Sh B bk W m ls ws vL vW) (hr : IRow W b 27 g (n * 2)) :
    Calls Tryd.prog 18 #[.pointer (some ⟨bk, 0, none⟩), .slice (some ⟨b, 0, none⟩) n n] W fun e w' => e = .returned (.tuple #[]) ∧ Below B w0 w' ∧ KeepsT W w' ∧ ∃ p c vL' vW', Sh B bk w' (m + 1) (ls ++ [.slice (some ⟨b, 0, none⟩) n n]) (ws ++ [.slice p n c]) vL' vW' ∧ Cpy w' p n g := by
  obtain ⟨i0, hi, hz0, hz1, hz2⟩ := info_parts info24
  obtain ⟨i1, ji, jz0, jz1, jz2⟩ := info_parts info27
  have hbk : bk < W.heap.size := (Array.getElem?_eq_some_iff.1 h.blk).1
  have cL := cell_of_row W bk 0 _ _ _ h.blk
  have cW := cell_of_row W bk 1 _ _ _ h.blk
  simp only [List.getElem?_toArray, List.getElem?_cons_zero, List.getElem?_cons_succ] at cL cW
  go_enter Tryd.func18, Tryd.ntmps18
  go_wp2_with (first | (at_builtin; refine wpList_append_own2 _ rfl _ _ 40 rfl B 24 i0 (.slice none 0 0) 1 24 Tryd.underlying40 hi hz0 hz1 hz2 rfl (by decide) _ _ _ rfl (h.L.alloc _) ⟨W.heap.size, 0, none⟩ 1 1 [.slice (some ⟨b, 0, none⟩) n n] rfl rfl ?c1 ?c2 ?c3 ?c4 ?c5 ?_))
  case c1 =>
    intro j u hj
    match j, hj with
    | 0, hj => simp at hj; subst hj; simp [Addr.add]
  case c2 => intro u hu; simp at hu; subst hu; rfl
  case c3 => unfold maxLen; omega
  case c4 => omega
  case c5 => have := hB.size; simp; omega
  intro vL' w1 hown1 hgrow1 hdis1
  have hk1 : KeepsT W w1 := (KeepsT.alloc W _).trans (KeepsT.grown (h.L.alloc _) hgrow1)
  have hz1' : W.heap.size + 1 ≤ w1.heap.size := by have := hgrow1.size; simpa using this
  have hB1 : Below B w0 w1 := (hB.alloc (by omega) _).grown hgrow1 (by simp; omega) (fun j hj => (h.L.lt j hj).1)
  have hR1 : w1.ownsRow B 24 1 vW m ws := own_kept24 (h.R.alloc _) hgrow1 h.ne
  have hbk1 : w1.heap[bk]? = some (.cells #[vL, vW] 42 (0, 0)) := by
    refine (hgrow1.block bk (by simp; omega) ?_).trans ((Below.heap_alloc _ _ _ hbk).trans h.blk)
    intro e
    rcases h.L.2 with ⟨rfl, _⟩ | ⟨x, cap, cur, rfl, _, hx, _⟩
    · simp [Value.ownBlock] at e
    · simp [Value.ownBlock] at e
      subst e
      have := h.blk
      rw [hx] at this; simp at this
  have hr1 := hk1.row hr (by decide) (by decide)
  have hne1 : ∀ g, vL'.ownBlock = some g → vW.ownBlock ≠ some g := by
    intro g hg hw
    rcases hdis1 with e | e
    · exact h.ne g (e ▸ hg) hw
    · have h1 := e g hg
      have h2 := (h.R.lt g hw).2
      first | omega | (simp at h1; omega)
  obtain ⟨gL, capL, rfl⟩ := own_pos hown1 (by omega)
  have cL1 := cell_of_row w1 bk 0 _ _ _ hbk1
  have zL1 := frozen_of_row w1 bk 0 _ _ hbk1
  simp only [List.getElem?_toArray, List.getElem?_cons_zero] at cL1
  obtain ⟨w2, hw2⟩ : ∃ w2, w2 = w1.setCell ⟨bk, 0, none⟩ (.slice (some ⟨gL, 0, none⟩) (m + 1) capL) := ⟨_, rfl⟩
  have hbk2 : w2.heap[bk]? = some (.cells #[.slice (some ⟨gL, 0, none⟩) (m + 1) capL, vW] 42 (0, 0)) := by rw [hw2, heap_setCell_same w1 bk 0 _ 42 _ hbk1]; rfl
  have hk2 : KeepsT W w2 := hk1.trans (by rw [hw2]; exact KeepsT.set hbk1 0 _)
  have hB2 : Below B w0 w2 := by rw [hw2]; exact hB1.setCell (p := ⟨bk, 0, none⟩) hBk _
  clear cL cW
  have hL2 : w2.ownsRow B 24 1 (.slice (some ⟨gL, 0, none⟩) (m + 1) capL) (m + 1) (ls ++ [.slice (some ⟨b, 0, none⟩) n n]) := by rw [hw2]; exact own_set hown1 hbk1 0 _
  have hR2 : w2.ownsRow B 24 1 vW m ws := by rw [hw2]; exact own_set hR1 hbk1 0 _
  have hr2 := hk2.row hr (by decide) (by decide)
  have hz2' : B ≤ w2.heap.size := by rw [hw2]; simp; omega
  have cW2 := cell_of_row w2 bk 1 _ _ _ hbk2
  have zW2 := frozen_of_row w2 bk 1 _ _ hbk2
  simp only [List.getElem?_toArray, List.getElem?_cons_zero, List.getElem?_cons_succ] at cW2
  have hbk2' : bk < w2.heap.size := (Array.getElem?_eq_some_iff.1 hbk2).1
  go_wp2_with fail
  rw [← hw2]
  clear cL1 zL1 hw2 hbk1 hk1 hB1 hr1 hown1 hgrow1 hdis1 hR1
  have hp0 := cellV_eq cW2
  have hp1 : cellV w2.drew bk = vW := cellV_eq cW2
  have c3 := cell_alloc cW2 (.cells #[] 27)
  go_region_law
    (first
      | (refine step_copy3 rfl (.tmp 19) (.tmp 20) rfl b n w2.heap.size hn g (by simp [Act.eval]) (by simp [Act.eval]) B bk w0 w2 m (m + 1) (ls ++ [.slice (some ⟨b, 0, none⟩) n n]) ws (.slice (some ⟨gL, 0, none⟩) (m + 1) capL) vW ?_ hr2 hB2 hz2' hbk2 hL2 hR2 ?_; exact ⟨rfl, rfl, rfl, by simp, fun k hk => Below.heap_alloc w2 (.cells #[] 27) k hk⟩; intro gC capC w4 hC hM c4; have c5 := cell_alloc c4 (.cells #[.slice (some ⟨gC, 0, none⟩) n capC] 24))
      | (refine step_keep2 rfl (.tmp 18) (.tmp 22) rfl B bk m (m + 1) w4.heap.size hm (ls ++ [.slice (some ⟨b, 0, none⟩) n n]) ws (.slice (some ⟨gL, 0, none⟩) (m + 1) capL) vW (.slice (some ⟨gC, 0, none⟩) n capC) rfl w0 w2 w4 (by simp [Act.eval]) (by simp [Act.eval]) hM hne1 ?_ ?_ ?_; exact ⟨rfl, rfl, rfl, by simp, fun k hk => Below.heap_alloc w4 (.cells #[.slice (some ⟨gC, 0, none⟩) n capC] 24) k hk⟩; exact cell_of_row _ _ 0 _ _ _ (heap_alloc_new w4 (.cells #[.slice (some ⟨gC, 0, none⟩) n capC] 24)); intro gW capW w6 hLast c6 z6; have c7 := cell_set hLast.sh (.slice (some ⟨gW, 0, none⟩) (m + 1) capW)))
  all_goals
    have hE := keep_end hBk hk2 hM.keeps hC hLast
    clear c4 c5 c6 c7 z6 hLast hM hC
    go_wp2_with fail
    go_end0
    exact ⟨rfl, hE⟩
end Go.Proofs.YtnoedlcdcoeokaaDoor
