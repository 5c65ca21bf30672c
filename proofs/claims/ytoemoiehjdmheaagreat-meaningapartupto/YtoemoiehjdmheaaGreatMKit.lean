import Derived.Test.YtoemoiehjdmheaaGreatMZero
import Derived.Laws.Rows
import Derived.Laws.CopyRow
import Derived.Maps.RangeRun
import Derived.ProofKit
import Derived.Laws.MakeOwn
import Derived.Laws.OwnMore
import Derived.Deep.RegionLaw
import Derived.ArgAppend
import Derived.OwnWalk
namespace Go.Proofs.YtoemoiehjdmheaaGreat.M
open Go.RowKit
set_option linter.unusedVariables false
set_option linter.unusedSimpArgs false
open Go.Proofs
theorem info5 : (Tryz.prog.info? 5).map (fun i => (i.zero, i.size, i.bytes)) = some (some (.int .u8 0), 1, 1) := by kernel_rfl
def room : Nat := 140737488355328
def Bs (W : World) (p : Option Addr) (l : List UInt8) : Prop := l = [] \/ ∃ x, p = some x /\ ∀ j b, l[j]? = some b -> W.cell? (x.add j) = some (.int .u8 (b.toNat : Int))
def bv (l : List UInt8) : List Value := l.map fun b => Value.int .u8 (b.toNat : Int)
theorem bv_len (l : List UInt8) : (bv l).length = l.length := by simp [bv]
theorem bv_append (a b : List UInt8) : bv (a ++ b) = bv a ++ bv b := by simp [bv]
theorem bv_get (l : List UInt8) (j : Nat) (u : Value) : (bv l)[j]? = some u ↔ ∃ b, l[j]? = some b /\ u = .int .u8 (b.toNat : Int) := by
  simp only [bv, List.getElem?_map, Option.map_eq_some_iff]
  exact ⟨fun ⟨b, h, e⟩ => ⟨b, h, e.symm⟩, fun ⟨b, h, e⟩ => ⟨b, h, e.symm⟩⟩
theorem bv_one (l : List UInt8) : ∀ u ∈ bv l, u.oneCell' = true := by intro u hu; simp [bv] at hu; obtain ⟨x, _, rfl⟩ := hu; rfl
def Sl (W : World) (v : Value) (l : List UInt8) : Prop := (v = .slice none 0 0 /\ l = []) \/ ∃ x c, v = .slice (some x) l.length c /\ l.length <= c /\ ∀ j b, l[j]? = some b -> W.cell? (x.add j) = some (.int .u8 (b.toNat : Int))
theorem Sl.ex {W : World} {v : Value} {l : List UInt8} (h : Sl W v l) : ∃ p c, v = .slice p l.length c /\ Bs W p l := by
  rcases h with ⟨rfl, rfl⟩ | ⟨x, c, rfl, _, h⟩
  · exact ⟨none, 0, rfl, .inl rfl⟩
  · exact ⟨some x, c, rfl, .inr ⟨x, rfl, h⟩⟩
theorem Sl.kept {W W' : World} {v : Value} {l : List UInt8} (h : Sl W v l) (k : ∀ a u, W.cell? a = some u -> some a.block = v.ownBlock -> W'.cell? a = some u) : Sl W' v l := by
  rcases h with h | ⟨x, c, rfl, hc, h⟩
  · exact .inl h
  · exact .inr ⟨x, c, rfl, hc, fun j b hj => k _ _ (h j b hj) (by unfold Addr.add; split <;> rfl)⟩
theorem Sl.below {W W' : World} {v : Value} {l : List UInt8} (h : Sl W v l) (b : Below W.heap.size W W') : Sl W' v l :=
  h.kept fun a u e _ => by rw [b.cell (World.block_lt_of_cell? W a e)]; exact e
def Row (W : World) (B : Nat) (v : Value) (l : List UInt8) : Prop := W.ownsRow B 5 1 v l.length (bv l)
theorem row_nil (W : World) (B : Nat) : Row W B (.slice none 0 0) [] := World.ownsRow_nil W _ 5 1
theorem Row.sl {W : World} {B : Nat} {v : Value} {l : List UInt8} (h : Row W B v l) : Sl W v l := by
  have h' := h
  rcases h.2 with ⟨rfl, e⟩ | ⟨g, cap, cur, rfl, _, hg, hcap, _⟩
  · exact .inl ⟨rfl, List.eq_nil_of_length_eq_zero e⟩
  · refine .inr ⟨⟨g, 0, none⟩, cap, rfl, hcap, fun j b hj => ?_⟩
    exact World.ownsRow.cells h' (g := g) rfl j _ ((bv_get l j _).2 ⟨b, hj, rfl⟩)
theorem row_of_alloc (W : World) (B : Nat) (hB : B <= W.heap.size) (l : List UInt8) (hl : l.length <= maxLen) : Row (W.alloc (.cells (bv l).toArray 5)) B (.slice (some ⟨W.heap.size, 0, none⟩) l.length l.length) l := by
  refine ⟨by simp [bv], .inr ⟨W.heap.size, l.length, (bv l).toArray, rfl, hB, heap_alloc_new W _, Nat.le_refl _, hl, by simp [bv], ?_⟩⟩
  rw [List.take_of_length_le (by simp [bv])]
theorem Row.kept {W W' : World} {B : Nat} {v : Value} {l : List UInt8} (h : Row W B v l) (k : ∀ g, v.ownBlock = some g -> g < W.heap.size -> W'.heap[g]? = W.heap[g]?) : Row W' B v l := by
  refine ⟨h.1, ?_⟩
  rcases h.2 with h | ⟨g, cap, cur, rfl, h2, h3, h4⟩
  · exact .inl h
  · exact .inr ⟨g, cap, cur, rfl, h2, (k g rfl (Array.getElem?_eq_some_iff.1 h3).1).trans h3, h4⟩
theorem Row.below {W W' : World} {B : Nat} {v : Value} {l : List UInt8} (h : Row W B v l) (b : Below W.heap.size W W') : Row W' B v l := h.kept fun g _ hg => b.block g hg
theorem Row.lt {W : World} {B : Nat} {v : Value} {l : List UInt8} (h : Row W B v l) (g : Nat) (e : v.ownBlock = some g) : B <= g /\ g < W.heap.size := by
  rcases h.2 with ⟨rfl, _⟩ | ⟨g', cap, cur, rfl, h2, h3, _⟩
  · simp [Value.ownBlock] at e
  · simp [Value.ownBlock] at e; subst e; exact ⟨h2, (Array.getElem?_eq_some_iff.1 h3).1⟩
theorem grownBy_any {w w' : World} (g : w.grownBy w' none) (r : Option Nat) : w.grownBy w' r := ⟨g.os, g.tape, g.output, g.size, fun k hk _ => g.block k hk (by simp)⟩
theorem own_mono {w : World} {B B' : Nat} {e : TypeId} {size : Nat} {v : Value} {n : Nat} {xs : List Value} (h : w.ownsRow B e size v n xs) (hb : B' <= B) : w.ownsRow B' e size v n xs := by
  refine ⟨h.1, ?_⟩
  rcases h.2 with h | ⟨g, cap, cur, h1, h2, h3⟩
  · exact .inl h
  · exact .inr ⟨g, cap, cur, h1, Nat.le_trans hb h2, h3⟩
theorem own_pos {w : World} {B : Nat} {e : TypeId} {size : Nat} {v : Value} {n : Nat} {xs : List Value} (h : w.ownsRow B e size v n xs) (h0 : 0 < n) : ∃ g cap, v = .slice (some ⟨g, 0, none⟩) n cap := by
  rcases h.2 with ⟨_, h⟩ | ⟨g, cap, cur, h1, _⟩
  · omega
  · exact ⟨g, cap, h1⟩
theorem run_append_own2 {P : Program} (w : World) (t ty : TypeId) (base : Nat) (e : TypeId) (i : TypeInfo) (z : Value) (size bytes : Nat) (ht : P.underlying t = some (.slice e)) (hi : P.info? e = some i) (hz : i.zero = some z)
    (hsize : i.size = size) (hby : i.bytes = bytes) (hzs : z.cells.size = size) (hsz : 0 < size)
    (v : Value) (n : Nat) (xs : List Value) (hown : w.ownsRow base e size v n xs)
    (ad : Addr) (m c : Nat) (news : List Value) (hl : news.length = m * size) (hnews : ∀ j u, news[j]? = some u -> w.cell? (ad.add j) = some u) (h1 : ∀ u ∈ news, u.oneCell' = true)
    (h63 : n + m <= maxLen) (hbytes : (n + m) * bytes <= 140737488355328) (hbase : base <= w.heap.size) :
    ∃ v' w', (Builtin.append_ #[t, t] ty #[v, .slice (some ad) m c]).run P w = .ok v' w' /\ w'.ownsRow base e size v' (n + m) (xs ++ news) /\ w.grownBy w' v.ownBlock /\ (v'.ownBlock = v.ownBlock \/ ∀ g, v'.ownBlock = some g -> w.heap.size <= g) /\ (v'.ownBlock = v.ownBlock \/ w.grownBy w' none) := by
  have hown0 := hown
  rcases hown.2 with ⟨rfl, rfl⟩ | ⟨g, cap, cur, rfl, _, _, _⟩
  · obtain rfl : xs = [] := List.eq_nil_of_length_eq_zero (by simpa using hown.1)
    obtain ⟨v', w', hr, r1, r2, _⟩ := run_append_own (P := P) w w.heap.size t ty e i z size bytes ht hi hz hsize hby hzs hsz (.slice none 0 0) 0 [] (World.ownsRow_nil w _ e size) ad m c news hl hnews h1 h63 hbytes (Nat.le_refl _)
    exact ⟨v', w', hr, own_mono r1 hbase, r2, .inr fun g hg => (r1.lt g hg).1, .inr r2⟩
  · by_cases hroom : n + m <= cap
    · obtain ⟨w', hr, r1, r2⟩ := run_append_fits (P := P) w base t ty e i size ht hi hsize g n cap xs hown0 ad m c news hl hnews h1 hroom
      exact ⟨_, w', hr, r1, r2, .inl rfl, .inl rfl⟩
    · have holds : ∀ j u, xs[j]? = some u -> w.cell? ((⟨g, 0, none⟩ : Addr).add j) = some u := hown0.cells (g := g) rfl
      obtain ⟨v', w', hr, r1, r2⟩ := run_append_arg_grows (P := P) w t ty e i z size bytes ht hi hz hsize hby hzs hsz ⟨g, 0, none⟩ n cap xs hown0.1 holds ad m c news hl hnews (by omega) h63 hbytes
      exact ⟨v', w', hr, own_mono r1 hbase, grownBy_any r2 _, .inr fun g hg => (r1.lt g hg).1, .inr r2⟩
structure Grew (W W' : World) (v v' : Value) : Prop where
  os : W'.os = W.os
  tape : W'.tape = W.tape
  output : W'.output = W.output
  size : W.heap.size <= W'.heap.size
  block : ∀ k, k < W.heap.size -> some k ≠ v.ownBlock -> W'.heap[k]? = W.heap[k]?
  own : v'.ownBlock = v.ownBlock \/ ∀ g, v'.ownBlock = some g -> W.heap.size <= g
  stay : v'.ownBlock = v.ownBlock \/ ∀ k, k < W.heap.size -> W'.heap[k]? = W.heap[k]?
theorem Grew.refl (W : World) (v : Value) : Grew W W v v := ⟨rfl, rfl, rfl, Nat.le_refl _, fun _ _ _ => rfl, .inl rfl, .inl rfl⟩
theorem Grew.below {W W' : World} {v v' : Value} (h : Grew W W' v v') {B : Nat} (hB : ∀ g, v.ownBlock = some g -> B <= g) (hs : B <= W.heap.size) : Below B W W' :=
  ⟨h.os, h.tape, h.output, h.size, fun k hk => h.block k (by omega) (fun e => by have := hB k e.symm; omega)⟩
theorem wp_append_bytes (w : World) {o : Oper} {a : Act} {K : Act -> World -> Prop} {Q : Exit -> Act -> World -> Prop} (s x : Operand)
    (ho : o.op = .call { callee := .builtin .append, args := #[s, x], argTypes := #[25, 25] }) (B : Nat) (v : Value) (l : List UInt8) (hs : a.eval s = v) (hown : Row w B v l)
    (u : Value) (m : List UInt8) (hx : a.eval x = u) (hp : Sl w u m) (hb : l.length + m.length <= room) (hB : B <= w.heap.size)
    (h : ∀ v' w', Row w' B v' (l ++ m) -> Grew w w' v v' -> K (a.put o.dst v') w') : o.wp Tryz.prog a w K Q := by
  obtain ⟨i0, hi, hz0, hz1, hz2⟩ := info_parts info5
  unfold room at hb
  rcases hp with ⟨rfl, rfl⟩ | ⟨ad, c, rfl, _, hc⟩
  · have hr := run_append_owned_none (P := Tryz.prog) w B 25 o.type 5 i0 1 Tryz.underlying25 hi v l.length (bv l) hown
    unfold Oper.wp execOp
    simp only [ho, resolve, invoke, builtin, Sem.run_bind, Sem.run_pure, Result.andThen_ok, List.map_toArray, List.map_cons, List.map_nil, hs, hx, hr]
    exact h v w (by simpa using hown) (Grew.refl _ _)
  · obtain ⟨v', w', hr, h1, h2, h3, h4⟩ := run_append_own2 (P := Tryz.prog) w 25 o.type B 5 i0 (.int .u8 0) 1 1 Tryz.underlying25 hi hz0 hz1 hz2 rfl (by decide) v l.length (bv l) hown ad m.length c (bv m) (by simp [bv])
      (fun j u hj => by obtain ⟨b, hb, rfl⟩ := (bv_get m j u).1 hj; exact hc j b hb) (bv_one m) (by unfold maxLen; omega) (by omega) hB
    unfold Oper.wp execOp
    simp only [ho, resolve, invoke, builtin, Sem.run_bind, Sem.run_pure, Result.andThen_ok, List.map_toArray, List.map_cons, List.map_nil, hs, hx, hr]
    exact h v' w' (by unfold Row; rw [List.length_append, bv_append]; exact h1) ⟨h2.os, h2.tape, h2.output, h2.size, fun k hk e => h2.block k hk e, h3, h4.imp_right fun g k hk => g.block k hk (by simp)⟩
theorem wpList_append_bytes (w : World) {ops : Array Oper} {rest : List Oper} {o : Oper} {a : Act} {Q : Exit -> Act -> World -> Prop} (hgd : o.guard = none) (s x : Operand)
    (ho : o.op = .call { callee := .builtin .append, args := #[s, x], argTypes := #[25, 25] }) (B : Nat) (v : Value) (l : List UInt8) (hs : a.eval s = v) (hown : Row w B v l)
    (u : Value) (m : List UInt8) (hx : a.eval x = u) (hp : Sl w u m) (hb : l.length + m.length <= room) (hB : B <= w.heap.size)
    (h : ∀ v' w', Row w' B v' (l ++ m) -> Grew w w' v v' -> wpList Tryz.prog ops Q rest (a.put o.dst v') w') : wpList Tryz.prog ops Q (o :: rest) a w :=
  wpList_plain hgd fun _ hK => wp_append_bytes w s x ho B v l hs hown u m hx hp hb hB fun v' w' h2 h3 => hK _ _ (h v' w' h2 h3)
def Cs (w : World) (u : Value) (size m : Nat) (news : List Value) : Prop := (u = .slice none 0 0 /\ m = 0 /\ news = []) \/ ∃ ad c, u = .slice (some ad) m c /\ news.length = m * size /\ (∀ j v, news[j]? = some v -> w.cell? (ad.add j) = some v) /\ ∀ v ∈ news, v.oneCell' = true
theorem wp_append_row (w : World) {o : Oper} {a : Act} {K : Act -> World -> Prop} {Q : Exit -> Act -> World -> Prop} (s x : Operand) (t e : TypeId) (z : Value) (size bytes : Nat)
    (ht : Tryz.prog.underlying t = some (.slice e)) (hinf : (Tryz.prog.info? e).map (fun i => (i.zero, i.size, i.bytes)) = some (some z, size, bytes)) (hzs : z.cells.size = size) (hsz : 0 < size)
    (ho : o.op = .call { callee := .builtin .append, args := #[s, x], argTypes := #[t, t] }) (B : Nat) (v : Value) (n : Nat) (xs : List Value) (hs : a.eval s = v) (hown : w.ownsRow B e size v n xs)
    (u : Value) (m : Nat) (news : List Value) (hx : a.eval x = u) (hp : Cs w u size m news) (hb : (n + m) * bytes <= room) (hb2 : n + m <= maxLen) (hB : B <= w.heap.size)
    (h : ∀ v' w', w'.ownsRow B e size v' (n + m) (xs ++ news) -> Grew w w' v v' -> K (a.put o.dst v') w') : o.wp Tryz.prog a w K Q := by
  obtain ⟨i0, hi, hz0, hz1, hz2⟩ := info_parts hinf
  unfold room at hb
  rcases hp with ⟨rfl, rfl, rfl⟩ | ⟨ad, c, rfl, hl, hc, h1⟩
  · have hr := run_append_owned_none (P := Tryz.prog) w B t o.type e i0 size ht hi v n xs hown
    unfold Oper.wp execOp
    simp only [ho, resolve, invoke, builtin, Sem.run_bind, Sem.run_pure, Result.andThen_ok, List.map_toArray, List.map_cons, List.map_nil, hs, hx, hr]
    exact h v w (by simpa using hown) (Grew.refl _ _)
  · obtain ⟨v', w', hr, r1, r2, r3, r4⟩ := run_append_own2 (P := Tryz.prog) w t o.type B e i0 z size bytes ht hi hz0 hz1 hz2 hzs hsz v n xs hown ad m c news hl hc h1 hb2 hb hB
    unfold Oper.wp execOp
    simp only [ho, resolve, invoke, builtin, Sem.run_bind, Sem.run_pure, Result.andThen_ok, List.map_toArray, List.map_cons, List.map_nil, hs, hx, hr]
    exact h v' w' r1 ⟨r2.os, r2.tape, r2.output, r2.size, fun k hk e => r2.block k hk e, r3, r4.imp_right fun g k hk => g.block k hk (by simp)⟩
theorem wpList_append_row (w : World) {ops : Array Oper} {rest : List Oper} {o : Oper} {a : Act} {Q : Exit -> Act -> World -> Prop} (hgd : o.guard = none) (s x : Operand) (t e : TypeId) (z : Value) (size bytes : Nat)
    (ht : Tryz.prog.underlying t = some (.slice e)) (hinf : (Tryz.prog.info? e).map (fun i => (i.zero, i.size, i.bytes)) = some (some z, size, bytes)) (hzs : z.cells.size = size) (hsz : 0 < size)
    (ho : o.op = .call { callee := .builtin .append, args := #[s, x], argTypes := #[t, t] }) (B : Nat) (v : Value) (n : Nat) (xs : List Value) (hs : a.eval s = v) (hown : w.ownsRow B e size v n xs)
    (u : Value) (m : Nat) (news : List Value) (hx : a.eval x = u) (hp : Cs w u size m news) (hb : (n + m) * bytes <= room) (hb2 : n + m <= maxLen) (hB : B <= w.heap.size)
    (h : ∀ v' w', w'.ownsRow B e size v' (n + m) (xs ++ news) -> Grew w w' v v' -> wpList Tryz.prog ops Q rest (a.put o.dst v') w') : wpList Tryz.prog ops Q (o :: rest) a w :=
  wpList_plain hgd fun _ hK => wp_append_row w s x t e z size bytes ht hinf hzs hsz ho B v n xs hs hown u m news hx hp hb hb2 hB fun v' w' h2 h3 => hK _ _ (h v' w' h2 h3)
structure MS where
 ram : List UInt8
 scr : List UInt8
 ch : Int
 pad : Int
 pitch : Int
 vol : Int
 time : Int
 cyc : Int
 tones : List (Int × Int × Int)
 banks : Nat -> Option (List UInt8)
structure Wf (m : MS) : Prop where
 ram : m.ram.length = 16384
 scr : m.scr.length = 3072
 ch0 : 0 <= m.ch
 ch1 : m.ch < 16
 pad0 : 0 <= m.pad
 pad1 : m.pad < 256
 pitch0 : 0 <= m.pitch
 pitch1 : m.pitch < 65536
 vol0 : 0 <= m.vol
 vol1 : m.vol < 256
 time0 : 0 <= m.time
 time1 : m.time < 65536
 bk : ∀ n l, m.banks n = some l -> n < 16 /\ l.length = 16384
def tcell (t : Int × Int × Int) : List Value := [.int .i64 t.1, .int .u16 t.2.1, .int .u8 t.2.2]
def tc (l : List (Int × Int × Int)) : List Value := l.flatMap tcell
theorem tc_append (a b : List (Int × Int × Int)) : tc (a ++ b) = tc a ++ tc b := by simp [tc]
theorem tc_len (l : List (Int × Int × Int)) : (tc l).length = l.length * 3 := by
 induction l with
 | nil => rfl
 | cons a l ih => rw [show a :: l = [a] ++ l from rfl, tc_append, List.length_append, ih]; simp [tc, tcell]; omega
theorem tc_one (l : List (Int × Int × Int)) : ∀ u ∈ tc l, u.oneCell' = true := by
 intro u hu; simp [tc, tcell] at hu; obtain ⟨a, b, c, _, h⟩ := hu; rcases h with rfl | rfl | rfl <;> rfl
def regs (m : MS) (tv : Value) : List Value := [.int .u8 m.ch, .int .u8 m.pad, .int .u16 m.pitch, .int .u8 m.vol, .int .u16 m.time, .int .i64 m.cyc, tv]
def mcells (mb : Nat) (m : MS) (tv : Value) : List Value := Value.map (some mb) :: (bv m.ram ++ (bv m.scr ++ regs m tv))
theorem mcells_len (mb : Nat) (m : MS) (tv : Value) (h : Wf m) : (mcells mb m tv).length = 19464 := by simp [mcells, regs, bv_len, h.ram, h.scr]
theorem mcells_0 (mb : Nat) (m : MS) (tv : Value) : (mcells mb m tv)[0]? = some (.map (some mb)) := rfl
theorem mcells_ram (mb : Nat) (m : MS) (tv : Value) (h : Wf m) (i : Nat) (x : UInt8) (hx : m.ram[i]? = some x) : (mcells mb m tv)[1 + i]? = some (.int .u8 (x.toNat : Int)) := by
 have hi : i < m.ram.length := (List.getElem?_eq_some_iff.1 hx).1
 rw [mcells, Nat.add_comm, List.getElem?_cons_succ, List.getElem?_append_left (by rw [bv_len]; exact hi)]
 exact (bv_get _ _ _).2 ⟨x, hx, rfl⟩
theorem mcells_scr (mb : Nat) (m : MS) (tv : Value) (h : Wf m) (i : Nat) (x : UInt8) (hx : m.scr[i]? = some x) : (mcells mb m tv)[16385 + i]? = some (.int .u8 (x.toNat : Int)) := by
 have hi : i < m.scr.length := (List.getElem?_eq_some_iff.1 hx).1
 rw [mcells, show 16385 + i = (16384 + i) + 1 by omega, List.getElem?_cons_succ, List.getElem?_append_right (by rw [bv_len, h.ram]; omega), bv_len, h.ram, Nat.add_sub_cancel_left, List.getElem?_append_left (by rw [bv_len]; exact hi)]
 exact (bv_get _ _ _).2 ⟨x, hx, rfl⟩
theorem mcells_reg (mb : Nat) (m : MS) (tv : Value) (h : Wf m) (i : Nat) : (mcells mb m tv)[19457 + i]? = (regs m tv)[i]? := by
 rw [mcells, show 19457 + i = (19456 + i) + 1 by omega, List.getElem?_cons_succ, List.getElem?_append_right (by rw [bv_len, h.ram]; omega), bv_len, h.ram,
  List.getElem?_append_right (by rw [bv_len, h.scr]; omega), bv_len, h.scr, show 19456 + i - 16384 - 3072 = i by omega]
theorem bv_set (l : List UInt8) (i : Nat) (x : UInt8) : (bv l).set i (.int .u8 (x.toNat : Int)) = bv (l.set i x) := by simp [bv, List.map_set]
theorem mcells_set_ram (mb : Nat) (m : MS) (tv : Value) (h : Wf m) (i : Nat) (hi : i < 16384) (x : UInt8) : (mcells mb m tv).set (1 + i) (.int .u8 (x.toNat : Int)) = mcells mb { m with ram := m.ram.set i x } tv := by
 rw [mcells, Nat.add_comm, List.set_cons_succ, List.set_append_left _ _ (by rw [bv_len, h.ram]; exact hi), bv_set]; rfl
theorem mcells_set_scr (mb : Nat) (m : MS) (tv : Value) (h : Wf m) (i : Nat) (hi : i < 3072) (x : UInt8) : (mcells mb m tv).set (16385 + i) (.int .u8 (x.toNat : Int)) = mcells mb { m with scr := m.scr.set i x } tv := by
 rw [mcells, show 16385 + i = (16384 + i) + 1 by omega, List.set_cons_succ, List.set_append_right _ _ (by rw [bv_len, h.ram]; omega), bv_len, h.ram, Nat.add_sub_cancel_left,
  List.set_append_left _ _ (by rw [bv_len, h.scr]; exact hi), bv_set]; rfl
theorem mcells_set_reg (mb : Nat) (m : MS) (tv : Value) (h : Wf m) (i : Nat) (v : Value) : (mcells mb m tv).set (19457 + i) v = Value.map (some mb) :: (bv m.ram ++ (bv m.scr ++ (regs m tv).set i v)) := by
 rw [mcells, show 19457 + i = (19456 + i) + 1 by omega, List.set_cons_succ, List.set_append_right _ _ (by rw [bv_len, h.ram]; omega), bv_len, h.ram,
  List.set_append_right _ _ (by rw [bv_len, h.scr]; omega), bv_len, h.scr, show 19456 + i - 16384 - 3072 = i by omega]
theorem setCell_heap (W : World) (b i : Nat) (c : List Value) (t : TypeId) (v : Value) (h : W.heap[b]? = some (.cells c.toArray t (0, 0))) : (W.setCell ⟨b, i, none⟩ v).heap[b]? = some (.cells (c.set i v).toArray t (0, 0)) := by
 simp [World.setCell, Array.getElem?_modify, h]
theorem setCell_other (W : World) (b i k : Nat) (v : Value) (h : k ≠ b) : (W.setCell ⟨b, i, none⟩ v).heap[k]? = W.heap[k]? := Below.heap_setCell W _ v k h
theorem setCell_size (W : World) (a : Addr) (v : Value) : (W.setCell a v).heap.size = W.heap.size := by simp [World.setCell]
theorem cell_of (W : World) (b i : Nat) (c : List Value) (t : TypeId) (v : Value) (h : W.heap[b]? = some (.cells c.toArray t (0, 0))) (hi : c[i]? = some v) : W.cell? ⟨b, i, none⟩ = some v := by
 simp [World.cell?, h, hi]
theorem frozen_of (W : World) (b i : Nat) (c : List Value) (t : TypeId) (h : W.heap[b]? = some (.cells c.toArray t (0, 0))) : W.frozen? ⟨b, i, none⟩ = false := by
 simp [World.frozen?, h]
structure Tc (F : Nat -> Prop) (W W' : World) : Prop where
 os : W'.os = W.os
 tape : W'.tape = W.tape
 output : W'.output = W.output
 size : W.heap.size <= W'.heap.size
 block : ∀ k, k < W.heap.size -> ¬ F k -> W'.heap[k]? = W.heap[k]?
theorem Tc.refl (F : Nat -> Prop) (W : World) : Tc F W W := ⟨rfl, rfl, rfl, Nat.le_refl _, fun _ _ _ => rfl⟩
theorem Tc.trans {F G H : Nat -> Prop} {a b c : World} (h : Tc F a b) (k : Tc G b c) (hF : ∀ i, F i -> H i) (hG : ∀ i, i < a.heap.size -> G i -> H i) : Tc H a c :=
 ⟨k.os.trans h.os, k.tape.trans h.tape, k.output.trans h.output, Nat.le_trans h.size k.size, fun i hi hn => (k.block i (Nat.lt_of_lt_of_le hi h.size) fun g => hn (hG i hi g)).trans (h.block i hi fun f => hn (hF i f))⟩
theorem Tc.of_below {F : Nat -> Prop} {B : Nat} {a b : World} (h : Below B a b) (hF : ∀ i, B <= i -> i < a.heap.size -> F i) : Tc F a b :=
 ⟨h.os, h.tape, h.output, h.size, fun i hi hn => h.block i (by apply Decidable.byContradiction; intro c; exact hn (hF i (by omega) hi))⟩
theorem Tc.below {F : Nat -> Prop} {B : Nat} {a b : World} (h : Tc F a b) (hB : B <= a.heap.size) (hF : ∀ i, F i -> B <= i) : Below B a b :=
 ⟨h.os, h.tape, h.output, h.size, fun i hi => h.block i (by omega) fun f => by have := hF i f; omega⟩
theorem Tc.setCell {F : Nat -> Prop} {a b : World} (h : Tc F a b) (g i : Nat) (hg : F g) (v : Value) : Tc F a (b.setCell ⟨g, i, none⟩ v) :=
 ⟨h.os, h.tape, h.output, by rw [setCell_size]; exact h.size, fun k hk hn => (setCell_other _ _ _ _ _ (by rintro rfl; exact hn hg)).trans (h.block k hk hn)⟩
def gr (F : Nat -> Prop) (W W' : World) (k : Nat) : Prop := F k \/ (W.heap.size <= k /\ k < W'.heap.size)
def ents : Nat -> List (Nat × Nat) -> List MapEntry
 | _, [] => []
 | i, (n, g) :: r => { key := .int .i64 (n : Int), val := .pointer (some ⟨g, 0, none⟩), born := i } :: ents (i + 1) r
def Bk (W : World) (g : Nat) (l : List UInt8) : Prop := W.heap[g]? = some (.cells (bv l).toArray 119 (0, 0))
structure MemP (W : World) (F : Nat -> Prop) (b : Nat) (m : MS) (mb : Nat) (L : List (Nat × Nat)) (tv : Value) : Prop where
 wf : Wf m
 blk : W.heap[b]? = some (.cells (mcells mb m tv).toArray 122 (0, 0))
 map : W.heap[mb]? = some (.map (ents 0 L).toArray L.length)
 keys : (L.map Prod.fst).Nodup
 lt16 : ∀ p ∈ L, p.1 < 16
 blks : (L.map Prod.snd).Nodup
 bks : ∀ p ∈ L, ∃ l, m.banks p.1 = some l /\ Bk W p.2 l
 all : ∀ n l, m.banks n = some l -> ∃ g, (n, g) ∈ L
 tones : W.ownsRow 0 117 3 tv m.tones.length (tc m.tones)
 fb : F b
 fmb : F mb
 fbk : ∀ p ∈ L, F p.2
 ft : ∀ g, tv.ownBlock = some g -> F g
def HasM (W : World) (F : Nat -> Prop) (b : Nat) (m : MS) : Prop := ∃ mb L tv, MemP W F b m mb L tv
theorem lt_of {W : World} {i : Nat} {o : Obj} (e : W.heap[i]? = some o) : i < W.heap.size := (Array.getElem?_eq_some_iff.1 e).1
theorem MemP.mono {W : World} {F G : Nat -> Prop} {b : Nat} {m : MS} {mb : Nat} {L : List (Nat × Nat)} {tv : Value} (h : MemP W F b m mb L tv) (k : ∀ i, i < W.heap.size -> F i -> G i) : MemP W G b m mb L tv :=
 { h with
  fb := k _ (lt_of h.blk) h.fb
  fmb := k _ (lt_of h.map) h.fmb
  fbk := fun p hp => by obtain ⟨l, _, e⟩ := h.bks p hp; exact k _ (lt_of e) (h.fbk p hp)
  ft := fun g e => k _ (h.tones.lt g e).2 (h.ft g e) }
theorem own_kept {W W' : World} {B : Nat} {e : TypeId} {size : Nat} {v : Value} {n : Nat} {xs : List Value} (h : W.ownsRow B e size v n xs) (k : ∀ g, v.ownBlock = some g -> g < W.heap.size -> W'.heap[g]? = W.heap[g]?) : W'.ownsRow B e size v n xs := by
 refine ⟨h.1, ?_⟩
 rcases h.2 with h | ⟨g, cap, cur, rfl, h2, h3, h4⟩
 ·exact .inl h
 ·exact .inr ⟨g, cap, cur, rfl, h2, (k g rfl (Array.getElem?_eq_some_iff.1 h3).1).trans h3, h4⟩
theorem MemP.kept {W W' : World} {F : Nat -> Prop} {b : Nat} {m : MS} {mb : Nat} {L : List (Nat × Nat)} {tv : Value} (h : MemP W F b m mb L tv) (k : ∀ i, i < W.heap.size -> F i -> W'.heap[i]? = W.heap[i]?) : MemP W' F b m mb L tv :=
 { h with
  blk := (k _ (lt_of h.blk) h.fb).trans h.blk
  map := (k _ (lt_of h.map) h.fmb).trans h.map
  bks := fun p hp => by obtain ⟨l, e1, e2⟩ := h.bks p hp; exact ⟨l, e1, (k _ (lt_of e2) (h.fbk p hp)).trans e2⟩
  tones := own_kept h.tones fun g e hg => k g hg (h.ft g e) }
theorem HasM.mono {W : World} {F G : Nat -> Prop} {b : Nat} {m : MS} (h : HasM W F b m) (k : ∀ i, i < W.heap.size -> F i -> G i) : HasM W G b m := by
 obtain ⟨mb, L, tv, h⟩ := h; exact ⟨mb, L, tv, h.mono k⟩
theorem HasM.kept {W W' : World} {F : Nat -> Prop} {b : Nat} {m : MS} (h : HasM W F b m) (k : ∀ i, i < W.heap.size -> F i -> W'.heap[i]? = W.heap[i]?) : HasM W' F b m := by
 obtain ⟨mb, L, tv, h⟩ := h; exact ⟨mb, L, tv, h.kept k⟩
theorem find_none (n : Nat) : ∀ (L : List (Nat × Nat)) (i j : Nat), (∀ p ∈ L, p.1 ≠ n) -> Instr.findNow (.int .i64) (.int .i64 (n : Int)) (ents i L) j = some none
 | [], _, _, _ => rfl
 | (x, y) :: L, i, j, h => by
  have hx : x ≠ n := h (x, y) (by simp)
  have e : Instr.sameNow (.int .i64) (.int .i64 (n : Int)) (.int .i64 (x : Int)) = some false := by simp [Instr.sameNow]; omega
  simp only [ents, Instr.findNow, e]
  exact find_none n L _ _ fun p hp => h p (List.mem_cons_of_mem _ hp)
theorem find_some (n g : Nat) : ∀ (L : List (Nat × Nat)) (i j : Nat), (L.map Prod.fst).Nodup -> (n, g) ∈ L -> ∃ k, Instr.findNow (.int .i64) (.int .i64 (n : Int)) (ents i L) j = some (some (k, .pointer (some ⟨g, 0, none⟩)))
 | (x, y) :: L, i, j, hd, h => by
  by_cases hx : x = n
  ·subst hx
   have e : Instr.sameNow (.int .i64) (.int .i64 (x : Int)) (.int .i64 (x : Int)) = some true := by simp [Instr.sameNow]
   simp only [ents, Instr.findNow, e]
   rcases List.mem_cons.1 h with h | h
   ·cases h; exact ⟨j, rfl⟩
   ·simp at hd; exact absurd h (hd.1 _)
  ·have e : Instr.sameNow (.int .i64) (.int .i64 (n : Int)) (.int .i64 (x : Int)) = some false := by simp [Instr.sameNow]; omega
   simp only [ents, Instr.findNow, e]
   rcases List.mem_cons.1 h with h | h
   ·cases h; exact absurd rfl hx
   ·exact find_some n g L _ _ (by simp at hd ⊢; exact hd.2) h
theorem checkKey_int (W : World) (e : Bool) (z : Int) : (Instr.checkKey e 10000 3 (.int .i64 z)).run Tryz.prog W = .ok () W := by
 have h : ∀ d : Nat, (Instr.checkKey e (d + 1) 3 (.int .i64 z)).run Tryz.prog W = .ok () W := fun d => by simp [Instr.checkKey, run_underlying Tryz.underlying3]
 exact h 9999
theorem look_none (W : World) (mb n : Nat) (L : List (Nat × Nat)) (h : W.heap[mb]? = some (.map (ents 0 L).toArray L.length)) (hn : ∀ p ∈ L, p.1 ≠ n) :
  (Instr.lookup 118 (.map (some mb)) (.int .i64 (n : Int)) false).run Tryz.prog W = .ok (.pointer none) W := by
 simp [Instr.lookup, run_underlying Tryz.underlying118, getObj, Sem.run, h, checkKey_int, Instr.findKey, run_underlying Tryz.underlying3, find_none n L 0 0 hn, Tryz.zeroValue145]
theorem look_some (W : World) (mb n g : Nat) (L : List (Nat × Nat)) (h : W.heap[mb]? = some (.map (ents 0 L).toArray L.length)) (hd : (L.map Prod.fst).Nodup) (hn : (n, g) ∈ L) :
  (Instr.lookup 118 (.map (some mb)) (.int .i64 (n : Int)) false).run Tryz.prog W = .ok (.pointer (some ⟨g, 0, none⟩)) W := by
 obtain ⟨k, hk⟩ := find_some n g L 0 0 hd hn
 simp [Instr.lookup, run_underlying Tryz.underlying118, getObj, Sem.run, h, checkKey_int, Instr.findKey, run_underlying Tryz.underlying3, hk]
end Go.Proofs.YtoemoiehjdmheaaGreat.M
