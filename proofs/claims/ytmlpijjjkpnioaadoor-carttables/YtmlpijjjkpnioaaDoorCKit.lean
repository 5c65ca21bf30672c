import Derived.Test.YtmlpijjjkpnioaaDoorCRound
import Derived.Test.YtmlpijjjkpnioaaDoorKTurned
import Derived.Laws.Rows
import Derived.ProofKit
import Derived.Laws.CopyRow
import Derived.Maps.RangeRun
import Derived.Deep.RegionHeld
/-! Lists of effects, banks and sections as slices tell them. -/
namespace Go.Proofs.YtmlpijjjkpnioaaDoor.C
open Go.RowKit
open Go.Proofs
open Go.Proofs.YtmlpijjjkpnioaaDoor.K
set_option linter.unusedVariables false
set_option linter.unusedSimpArgs false
theorem hid {p : Prop} (h : p) : Hid p := h
theorem setCell_other (W : World) (b i k : Nat) (v : Value) (h : k ≠ b) : (W.setCell ⟨b, i, none⟩ v).heap[k]? = W.heap[k]? := Below.heap_setCell W _ v k h
theorem own_form {w : World} {B : Nat} {e : TypeId} {size : Nat} {v : Value} {n : Nat} {xs : List Value} (h : w.ownsRow B e size v n xs) : ∃ p cap, v = .slice p n cap := by
  rcases h.2 with ⟨h, e⟩ | ⟨g, cap, cur, h1, _⟩
  · exact ⟨none, 0, by rw [h, e]⟩
  · exact ⟨_, cap, h1⟩
theorem lt_of {W : World} {i : Nat} {o : Obj} (e : W.heap[i]? = some o) : i < W.heap.size := (Array.getElem?_eq_some_iff.1 e).1
theorem cell_of (W : World) (b i : Nat) (c : List Value) (t : TypeId) (v : Value) (h : W.heap[b]? = some (.cells c.toArray t (0, 0))) (hi : c[i]? = some v) : W.cell? ⟨b, i, none⟩ = some v := by
  simp [World.cell?, h, hi]
theorem frozen_of (W : World) (b i : Nat) (c : List Value) (t : TypeId) (h : W.heap[b]? = some (.cells c.toArray t (0, 0))) : W.frozen? ⟨b, i, none⟩ = false := by
  simp [World.frozen?, h]
theorem own_kept {W W' : World} {B : Nat} {e : TypeId} {size : Nat} {v : Value} {n : Nat} {xs : List Value} (h : W.ownsRow B e size v n xs) (k : ∀ g, v.ownBlock = some g → g < W.heap.size → W'.heap[g]? = W.heap[g]?) : W'.ownsRow B e size v n xs := by
  refine ⟨h.1, ?_⟩
  rcases h.2 with h | ⟨g, cap, cur, rfl, h2, h3, h4⟩
  · exact .inl h
  · exact .inr ⟨g, cap, cur, rfl, h2, (k g rfl (Array.getElem?_eq_some_iff.1 h3).1).trans h3, h4⟩
theorem own_block {W : World} {B : Nat} {e : TypeId} {size : Nat} {v : Value} {n : Nat} {xs : List Value} (h : W.ownsRow B e size v n xs) (g : Nat) (hg : v.ownBlock = some g) : ∃ cur, W.heap[g]? = some (.cells cur e (0, 0)) := by
  rcases h.2 with ⟨rfl, _⟩ | ⟨g', cap, cur, rfl, _, h3, _⟩
  · simp [Value.ownBlock] at hg
  · simp [Value.ownBlock] at hg; subst hg; exact ⟨cur, h3⟩
theorem cell_far (W : World) (N i : Nat) (v : Value) (b j : Nat) (h : b ≠ N) : (W.setCell ⟨N, i, none⟩ v).cell? ⟨b, j, none⟩ = W.cell? ⟨b, j, none⟩ :=
  World.cell?_of_block (w := W) (setCell_other W N i b v h)
def Cs (w : World) (u : Value) (size m : Nat) (news : List Value) : Prop := (u = .slice none 0 0 ∧ m = 0 ∧ news = []) ∨ ∃ ad c, u = .slice (some ad) m c ∧ news.length = m * size ∧ (∀ j v, news[j]? = some v → w.cell? (ad.add j) = some v) ∧ ∀ v ∈ news, v.oneCell' = true
theorem wp_append_row (w : World) {o : Oper} {a : Act} {K : Act → World → Prop} {Q : Exit → Act → World → Prop} (s x : Operand) (t e : TypeId) (z : Value) (size bytes : Nat)
    (ht : Tryd.prog.underlying t = some (.slice e)) (hinf : (Tryd.prog.info? e).map (fun i => (i.zero, i.size, i.bytes)) = some (some z, size, bytes)) (hzs : z.cells.size = size) (hsz : 0 < size)
    (ho : o.op = .call { callee := .builtin .append, args := #[s, x], argTypes := #[t, t] }) (B : Nat) (v : Value) (n : Nat) (xs : List Value) (hs : a.eval s = v) (hown : w.ownsRow B e size v n xs)
    (u : Value) (m : Nat) (news : List Value) (hx : a.eval x = u) (hp : Cs w u size m news) (hb : (n + m) * bytes ≤ room) (hb2 : n + m ≤ maxLen) (hB : B ≤ w.heap.size)
    (h : ∀ v' w', w'.ownsRow B e size v' (n + m) (xs ++ news) → Grew w w' v v' → K (a.put o.dst v') w') : o.wp Tryd.prog a w K Q := by
  obtain ⟨i0, hi, hz0, hz1, hz2⟩ := info_parts hinf
  unfold room at hb
  rcases hp with ⟨rfl, rfl, rfl⟩ | ⟨ad, c, rfl, hl, hc, h1⟩
  · have hr := run_append_owned_none (P := Tryd.prog) w B t o.type e i0 size ht hi v n xs hown
    unfold Oper.wp execOp
    simp only [ho, resolve, invoke, builtin, Sem.run_bind, Sem.run_pure, Result.andThen_ok, List.map_toArray, List.map_cons, List.map_nil, hs, hx, hr]
    exact h v w (by simpa using hown) (Grew.refl _ _)
  · obtain ⟨v', w', hr, r1, r2, r3, r4⟩ := run_append_own2 (P := Tryd.prog) w t o.type B e i0 z size bytes ht hi hz0 hz1 hz2 hzs hsz v n xs hown ad m c news hl hc h1 hb2 hb hB
    unfold Oper.wp execOp
    simp only [ho, resolve, invoke, builtin, Sem.run_bind, Sem.run_pure, Result.andThen_ok, List.map_toArray, List.map_cons, List.map_nil, hs, hx, hr]
    exact h v' w' r1 ⟨r2.os, r2.tape, r2.output, r2.size, fun k hk e => r2.block k hk e, r3, r4.imp_right fun g k hk => g.block k hk (by simp)⟩
theorem wpList_append_row (w : World) {ops : Array Oper} {rest : List Oper} {o : Oper} {a : Act} {Q : Exit → Act → World → Prop} (hgd : o.guard = none) (s x : Operand) (t e : TypeId) (z : Value) (size bytes : Nat)
    (ht : Tryd.prog.underlying t = some (.slice e)) (hinf : (Tryd.prog.info? e).map (fun i => (i.zero, i.size, i.bytes)) = some (some z, size, bytes)) (hzs : z.cells.size = size) (hsz : 0 < size)
    (ho : o.op = .call { callee := .builtin .append, args := #[s, x], argTypes := #[t, t] }) (B : Nat) (v : Value) (n : Nat) (xs : List Value) (hs : a.eval s = v) (hown : w.ownsRow B e size v n xs)
    (u : Value) (m : Nat) (news : List Value) (hx : a.eval x = u) (hp : Cs w u size m news) (hb : (n + m) * bytes ≤ room) (hb2 : n + m ≤ maxLen) (hB : B ≤ w.heap.size)
    (h : ∀ v' w', w'.ownsRow B e size v' (n + m) (xs ++ news) → Grew w w' v v' → wpList Tryd.prog ops Q rest (a.put o.dst v') w') : wpList Tryd.prog ops Q (o :: rest) a w :=
  wpList_plain hgd fun _ hK => wp_append_row w s x t e z size bytes ht hinf hzs hsz ho B v n xs hs hown u m news hx hp hb hb2 hB fun v' w' h2 h3 => hK _ _ (h v' w' h2 h3)
theorem step_append_row {ops : Array Oper} {o : Oper} {a : Act} {w : World} {K : Act → World → Prop} {Q : Exit → Act → World → Prop} {E : Prop} (hgd : o.guard = none) (s x : Operand) (t e : TypeId) (z : Value) (size bytes : Nat)
    (ht : Tryd.prog.underlying t = some (.slice e)) (hinf : (Tryd.prog.info? e).map (fun i => (i.zero, i.size, i.bytes)) = some (some z, size, bytes)) (hzs : z.cells.size = size) (hsz : 0 < size)
    (ho : o.op = .call { callee := .builtin .append, args := #[s, x], argTypes := #[t, t] }) (B : Nat) (v : Value) (n : Nat) (xs : List Value) (hs : a.eval s = v) (hown : w.ownsRow B e size v n xs)
    (u : Value) (m : Nat) (news : List Value) (hx : a.eval x = u) (hp : Cs w u size m news) (hb : (n + m) * bytes ≤ room) (hb2 : n + m ≤ maxLen) (hB : B ≤ w.heap.size)
    (h : ∀ v' w', w'.ownsRow B e size v' (n + m) (xs ++ news) → Grew w w' v v' → K (a.put o.dst v') w') :
    if Region.wanted o (yielded ops a.tmps) = true then Oper.wp Tryd.prog o a w K Q else E := by
  have hw : Region.wanted o (yielded ops a.tmps) = true := by simp [Region.wanted, hgd]
  rw [if_pos hw]
  exact wp_append_row w s x t e z size bytes ht hinf hzs hsz ho B v n xs hs hown u m news hx hp hb hb2 hB h

/-- Effects that a slice tells. -/
def EfS (W : World) (p : Option Addr) (es : List Ef) : Prop := ∀ (i : Nat) (t : Ef), es[i]? = some t → ∃ b o, p = some ⟨b, o, none⟩ ∧ W.cell? ⟨b, o + i * 3, none⟩ = some (.int .u16 (t.1 : Int)) ∧ W.cell? ⟨b, o + i * 3 + 1, none⟩ = some (.int .i64 t.2.1) ∧ W.cell? ⟨b, o + i * 3 + 2, none⟩ = some (.int .i64 t.2.2)
theorem EfS.kept {W W' : World} {p : Option Addr} {es : List Ef} (h : EfS W p es) (k : ∀ a u, W.cell? a = some u → W'.cell? a = some u) : EfS W' p es := by
  intro i t ht
  obtain ⟨b, o, e1, e2, e3, e4⟩ := h i t ht
  exact ⟨b, o, e1, k _ _ e2, k _ _ e3, k _ _ e4⟩
theorem below_cell {W W' : World} (b : Below W.heap.size W W') : ∀ a u, W.cell? a = some u → W'.cell? a = some u := fun a u e => by rw [b.cell (World.block_lt_of_cell? W a e)]; exact e
theorem EfS.below {W W' : World} {p : Option Addr} {es : List Ef} (h : EfS W p es) (b : Below W.heap.size W W') : EfS W' p es := h.kept (below_cell b)
/-- Banks that a slice tells. -/
def BnS (W : World) (p : Option Addr) (bs : List Bk) : Prop := ∀ (i : Nat) (t : Bk), bs[i]? = some t → ∃ b o dv, p = some ⟨b, o, none⟩ ∧ W.cell? ⟨b, o + i * 2, none⟩ = some (.int .i64 t.1) ∧ W.cell? ⟨b, o + i * 2 + 1, none⟩ = some dv ∧ Sl W dv t.2 ∧ t.2.length ≤ room
theorem BnS.kept {W W' : World} {p : Option Addr} {bs : List Bk} (h : BnS W p bs) (k : ∀ a u, W.cell? a = some u → W'.cell? a = some u) : BnS W' p bs := by
  intro i t ht
  obtain ⟨b, o, dv, e1, e2, e3, e4, e5⟩ := h i t ht
  exact ⟨b, o, dv, e1, k _ _ e2, k _ _ e3, e4.kept fun a u e _ => k a u e, e5⟩
theorem BnS.below {W W' : World} {p : Option Addr} {bs : List Bk} (h : BnS W p bs) (b : Below W.heap.size W W') : BnS W' p bs := h.kept (below_cell b)
/-- Sections that a slice tells. -/
def SeS (W : World) (p : Option Addr) (ls : List Sec) : Prop := ∀ (i : Nat) (t : Sec), ls[i]? = some t → ∃ b o dv, p = some ⟨b, o, none⟩ ∧ W.cell? ⟨b, o + i * 3, none⟩ = some (.int .u8 (t.1.toNat : Int)) ∧ W.cell? ⟨b, o + i * 3 + 1, none⟩ = some (.int .u8 (t.2.1.toNat : Int)) ∧ W.cell? ⟨b, o + i * 3 + 2, none⟩ = some dv ∧ Sl W dv t.2.2 ∧ t.2.2.length ≤ room
theorem SeS.kept {W W' : World} {p : Option Addr} {bs : List Sec} (h : SeS W p bs) (k : ∀ a u, W.cell? a = some u → W'.cell? a = some u) : SeS W' p bs := by
  intro i t ht
  obtain ⟨b, o, dv, e1, e2, e3, e4, e5, e6⟩ := h i t ht
  exact ⟨b, o, dv, e1, k _ _ e2, k _ _ e3, k _ _ e4, e5.kept fun a u e _ => k a u e, e6⟩
theorem SeS.below {W W' : World} {p : Option Addr} {bs : List Sec} (h : SeS W p bs) (b : Below W.heap.size W W') : SeS W' p bs := h.kept (below_cell b)
/-- A cartridge's value. -/
def cv (kv : Value) (entry : Int) (ep : Option Addr) (en ec : Nat) (bp : Option Addr) (bn bc : Nat) : Value := .agg #[kv, .int .u16 entry, .slice ep en ec, .slice bp bn bc]
/-- A value that reads as this cartridge. -/
structure IsC (W : World) (v : Value) (c : Ct) (ep : Option Addr) (ec : Nat) (bp : Option Addr) (bc : Nat) (kv : Value) : Prop where
  val : v = cv kv c.entry ep c.effs.length ec bp c.banks.length bc
  code : Sl W kv c.code
  clen : c.code.length ≤ room
  effs : EfS W ep c.effs
  elen : c.effs.length * 24 ≤ room
  banks : BnS W bp c.banks
  blen : c.banks.length * 32 ≤ room
  fit : Fit c
  ints : ∀ x ∈ c.effs, (Lit.int .i64 x.2.1).wf = true ∧ (Lit.int .i64 x.2.2).wf = true
  nums : ∀ x ∈ c.banks, (Lit.int .i64 x.1).wf = true
theorem IsC.kept {W W' : World} {v : Value} {c : Ct} {ep : Option Addr} {ec : Nat} {bp : Option Addr} {bc : Nat} {kv : Value} (h : IsC W v c ep ec bp bc kv) (k : ∀ a u, W.cell? a = some u → W'.cell? a = some u) : IsC W' v c ep ec bp bc kv :=
  ⟨h.val, h.code.kept fun a u e _ => k a u e, h.clen, h.effs.kept k, h.elen, h.banks.kept k, h.blen, h.fit, h.ints, h.nums⟩
theorem IsC.below {W W' : World} {v : Value} {c : Ct} {ep : Option Addr} {ec : Nat} {bp : Option Addr} {bc : Nat} {kv : Value} (h : IsC W v c ep ec bp bc kv) (b : Below W.heap.size W W') : IsC W' v c ep ec bp bc kv := h.kept (below_cell b)
end Go.Proofs.YtmlpijjjkpnioaaDoor.C
