import Derived.Test.YteldjmecomngeaaGreatSKit
import Derived.Test.YteldjmecomngeaaGreatMZero
import Derived.Laws.Rows
import Derived.Laws.CopyRow
import Derived.Maps.RangeRun
import Derived.ProofKit
import Derived.Laws.MakeOwn
import Derived.Laws.OwnMore
import Derived.Deep.RegionLaw
import Derived.ArgAppend
import Derived.OwnWalk
namespace Go.Proofs.YteldjmecomngeaaGreat.M
open Go.RowKit
set_option linter.unusedVariables false
set_option linter.defProp false
set_option linter.unusedSimpArgs false
open Go.Proofs
theorem info5 : (Tryz.prog.info? 5).map (fun i => (i.zero, i.size, i.bytes)) = some (some (.int .u8 0), 1, 1) := by kernel_rfl
def room : Nat := 140737488355328
def Bs (W : World) (p : Option Addr) (l : List UInt8) : Prop := l = [] \/ ∃ x, p = some x /\ ∀ j b, l[j]? = some b -> W.cell? (x.add j) = some (.int .u8 (b.toNat : Int))
theorem Bs.at {W : World} {p : Option Addr} {l : List UInt8} (h : Bs W p l) (j : Nat) (b : UInt8) (hj : l[j]? = some b) : ∃ x, p = some x /\ W.cell? (x.add j) = some (.int .u8 (b.toNat : Int)) := by
 rcases h with rfl | ⟨x, rfl, h⟩
 ·simp at hj
 ·exact ⟨x, rfl, h j b hj⟩
def bv (l : List UInt8) : List Value := l.map fun b => Value.int .u8 (b.toNat : Int)
theorem bv_len (l : List UInt8) : (bv l).length = l.length := by simp [bv]
theorem bv_append (a b : List UInt8) : bv (a ++ b) = bv a ++ bv b := by simp [bv]
theorem bv_get (l : List UInt8) (j : Nat) (u : Value) : (bv l)[j]? = some u ↔ ∃ b, l[j]? = some b /\ u = .int .u8 (b.toNat : Int) := by
 simp only [bv, List.getElem?_map, Option.map_eq_some_iff]
 exact ⟨fun ⟨b, h, e⟩ => ⟨b, h, e.symm⟩, fun ⟨b, h, e⟩ => ⟨b, h, e.symm⟩⟩
theorem bv_one (l : List UInt8) : ∀ u ∈ bv l, u.oneCell' = true := by intro u hu; simp [bv] at hu; obtain ⟨x, _, rfl⟩ := hu; rfl
def Sl (W : World) (v : Value) (l : List UInt8) : Prop := (v = .slice none 0 0 /\ l = []) \/ ∃ x c, v = .slice (some x) l.length c /\ l.length <= c /\ ∀ j b, l[j]? = some b -> W.cell? (x.add j) = some (.int .u8 (b.toNat : Int))
theorem Sl.ex {W : World} {v : Value} {l : List UInt8} (h : Sl W v l) : ∃ p c, v = .slice p l.length c /\ Bs W p l := by
 rcases h with ⟨rfl, rfl⟩ | ⟨x, c, rfl, _, h⟩
 ·exact ⟨none, 0, rfl, .inl rfl⟩
 ·exact ⟨some x, c, rfl, .inr ⟨x, rfl, h⟩⟩
theorem Sl.kept {W W' : World} {v : Value} {l : List UInt8} (h : Sl W v l) (k : ∀ a u, W.cell? a = some u -> some a.block = v.ownBlock -> W'.cell? a = some u) : Sl W' v l := by
 rcases h with h | ⟨x, c, rfl, hc, h⟩
 ·exact .inl h
 ·exact .inr ⟨x, c, rfl, hc, fun j b hj => k _ _ (h j b hj) (by unfold Addr.add; split <;> rfl)⟩
theorem Sl.below {W W' : World} {v : Value} {l : List UInt8} (h : Sl W v l) (b : Below W.heap.size W W') : Sl W' v l :=
 h.kept fun a u e _ => by rw [b.cell (World.block_lt_of_cell? W a e)]; exact e
def Row (W : World) (B : Nat) (v : Value) (l : List UInt8) : Prop := W.ownsRow B 5 1 v l.length (bv l)
theorem row_nil (W : World) (B : Nat) : Row W B (.slice none 0 0) [] := World.ownsRow_nil W _ 5 1
theorem Row.sl {W : World} {B : Nat} {v : Value} {l : List UInt8} (h : Row W B v l) : Sl W v l := by
 have h' := h
 rcases h.2 with ⟨rfl, e⟩ | ⟨g, cap, cur, rfl, _, hg, hcap, _⟩
 ·exact .inl ⟨rfl, List.eq_nil_of_length_eq_zero e⟩
 ·refine .inr ⟨⟨g, 0, none⟩, cap, rfl, hcap, fun j b hj => ?_⟩
  exact World.ownsRow.cells h' (g := g) rfl j _ ((bv_get l j _).2 ⟨b, hj, rfl⟩)
theorem row_of_alloc (W : World) (B : Nat) (hB : B <= W.heap.size) (l : List UInt8) (hl : l.length <= maxLen) : Row (W.alloc (.cells (bv l).toArray 5)) B (.slice (some ⟨W.heap.size, 0, none⟩) l.length l.length) l := by
 refine ⟨by simp [bv], .inr ⟨W.heap.size, l.length, (bv l).toArray, rfl, hB, heap_alloc_new W _, Nat.le_refl _, hl, by simp [bv], ?_⟩⟩
 rw [List.take_of_length_le (by simp [bv])]
theorem Row.kept {W W' : World} {B : Nat} {v : Value} {l : List UInt8} (h : Row W B v l) (k : ∀ g, v.ownBlock = some g -> g < W.heap.size -> W'.heap[g]? = W.heap[g]?) : Row W' B v l := by
 refine ⟨h.1, ?_⟩
 rcases h.2 with h | ⟨g, cap, cur, rfl, h2, h3, h4⟩
 ·exact .inl h
 ·exact .inr ⟨g, cap, cur, rfl, h2, (k g rfl (Array.getElem?_eq_some_iff.1 h3).1).trans h3, h4⟩
theorem Row.below {W W' : World} {B : Nat} {v : Value} {l : List UInt8} (h : Row W B v l) (b : Below W.heap.size W W') : Row W' B v l := h.kept fun g _ hg => b.block g hg
theorem Row.lt {W : World} {B : Nat} {v : Value} {l : List UInt8} (h : Row W B v l) (g : Nat) (e : v.ownBlock = some g) : B <= g /\ g < W.heap.size := by
 rcases h.2 with ⟨rfl, _⟩ | ⟨g', cap, cur, rfl, h2, h3, _⟩
 ·simp [Value.ownBlock] at e
 ·simp [Value.ownBlock] at e; subst e; exact ⟨h2, (Array.getElem?_eq_some_iff.1 h3).1⟩
def grownBy_any := @S.grownBy_any
def own_mono := @S.own_mono
def own_pos := @S.own_pos
def run_append_own2 := @S.run_append_own2
abbrev Grew := @S.Grew
theorem wp_append_bytes (w : World) {o : Oper} {a : Act} {K : Act -> World -> Prop} {Q : Exit -> Act -> World -> Prop} (s x : Operand)
  (ho : o.op = .call { callee := .builtin .append, args := #[s, x], argTypes := #[22, 22] }) (B : Nat) (v : Value) (l : List UInt8) (hs : a.eval s = v) (hown : Row w B v l)
  (u : Value) (m : List UInt8) (hx : a.eval x = u) (hp : Sl w u m) (hb : l.length + m.length <= room) (hB : B <= w.heap.size)
  (h : ∀ v' w', Row w' B v' (l ++ m) -> Grew w w' v v' -> K (a.put o.dst v') w') : o.wp Tryz.prog a w K Q := by
 obtain ⟨i0, hi, hz0, hz1, hz2⟩ := info_parts info5
 unfold room at hb
 rcases hp with ⟨rfl, rfl⟩ | ⟨ad, c, rfl, _, hc⟩
 ·have hr := run_append_owned_none (P := Tryz.prog) w B 22 o.type 5 i0 1 Tryz.underlying22 hi v l.length (bv l) hown
  unfold Oper.wp execOp; simp only [ho, resolve, invoke, builtin, Sem.run_bind, Sem.run_pure, Result.andThen_ok, List.map_toArray, List.map_cons, List.map_nil, hs, hx, hr]; exact h v w (by simpa using hown) (S.Grew.refl _ _)
 ·obtain ⟨v', w', hr, h1, h2, h3, h4⟩ := run_append_own2 (P := Tryz.prog) w 22 o.type B 5 i0 (.int .u8 0) 1 1 Tryz.underlying22 hi hz0 hz1 hz2 rfl (by decide) v l.length (bv l) hown ad m.length c (bv m) (by simp [bv])
   (fun j u hj => by obtain ⟨b, hb, rfl⟩ := (bv_get m j u).1 hj; exact hc j b hb) (bv_one m) (by unfold maxLen; omega) (by omega) hB
  unfold Oper.wp execOp; simp only [ho, resolve, invoke, builtin, Sem.run_bind, Sem.run_pure, Result.andThen_ok, List.map_toArray, List.map_cons, List.map_nil, hs, hx, hr]; exact h v' w' (by unfold Row; rw [List.length_append, bv_append]; exact h1) ⟨h2.os, h2.tape, h2.output, h2.size, fun k hk e => h2.block k hk e, h3, h4.imp_right fun g k hk => g.block k hk (by simp)⟩
theorem wpList_append_bytes (w : World) {ops : Array Oper} {rest : List Oper} {o : Oper} {a : Act} {Q : Exit -> Act -> World -> Prop} (hgd : o.guard = none) (s x : Operand)
  (ho : o.op = .call { callee := .builtin .append, args := #[s, x], argTypes := #[22, 22] }) (B : Nat) (v : Value) (l : List UInt8) (hs : a.eval s = v) (hown : Row w B v l)
  (u : Value) (m : List UInt8) (hx : a.eval x = u) (hp : Sl w u m) (hb : l.length + m.length <= room) (hB : B <= w.heap.size)
  (h : ∀ v' w', Row w' B v' (l ++ m) -> Grew w w' v v' -> wpList Tryz.prog ops Q rest (a.put o.dst v') w') : wpList Tryz.prog ops Q (o :: rest) a w :=
 wpList_plain hgd fun _ hK => wp_append_bytes w s x ho B v l hs hown u m hx hp hb hB fun v' w' h2 h3 => hK _ _ (h v' w' h2 h3)
abbrev Cs := @S.Cs
theorem wp_append_row (w : World) {o : Oper} {a : Act} {K : Act -> World -> Prop} {Q : Exit -> Act -> World -> Prop} (s x : Operand) (t e : TypeId) (z : Value) (size bytes : Nat)
  (ht : Tryz.prog.underlying t = some (.slice e)) (hinf : (Tryz.prog.info? e).map (fun i => (i.zero, i.size, i.bytes)) = some (some z, size, bytes)) (hzs : z.cells.size = size) (hsz : 0 < size)
  (ho : o.op = .call { callee := .builtin .append, args := #[s, x], argTypes := #[t, t] }) (B : Nat) (v : Value) (n : Nat) (xs : List Value) (hs : a.eval s = v) (hown : w.ownsRow B e size v n xs)
  (u : Value) (m : Nat) (news : List Value) (hx : a.eval x = u) (hp : Cs w u size m news) (hb : (n + m) * bytes <= room) (hb2 : n + m <= maxLen) (hB : B <= w.heap.size)
  (h : ∀ v' w', w'.ownsRow B e size v' (n + m) (xs ++ news) -> Grew w w' v v' -> K (a.put o.dst v') w') : o.wp Tryz.prog a w K Q :=
 S.wp_append_row w s x t e z size bytes ht hinf hzs hsz ho B v n xs hs hown u m news hx hp hb hb2 hB h
theorem wpList_append_row (w : World) {ops : Array Oper} {rest : List Oper} {o : Oper} {a : Act} {Q : Exit -> Act -> World -> Prop} (hgd : o.guard = none) (s x : Operand) (t e : TypeId) (z : Value) (size bytes : Nat)
  (ht : Tryz.prog.underlying t = some (.slice e)) (hinf : (Tryz.prog.info? e).map (fun i => (i.zero, i.size, i.bytes)) = some (some z, size, bytes)) (hzs : z.cells.size = size) (hsz : 0 < size)
  (ho : o.op = .call { callee := .builtin .append, args := #[s, x], argTypes := #[t, t] }) (B : Nat) (v : Value) (n : Nat) (xs : List Value) (hs : a.eval s = v) (hown : w.ownsRow B e size v n xs)
  (u : Value) (m : Nat) (news : List Value) (hx : a.eval x = u) (hp : Cs w u size m news) (hb : (n + m) * bytes <= room) (hb2 : n + m <= maxLen) (hB : B <= w.heap.size)
  (h : ∀ v' w', w'.ownsRow B e size v' (n + m) (xs ++ news) -> Grew w w' v v' -> wpList Tryz.prog ops Q rest (a.put o.dst v') w') : wpList Tryz.prog ops Q (o :: rest) a w :=
 wpList_plain hgd fun _ hK => wp_append_row w s x t e z size bytes ht hinf hzs hsz ho B v n xs hs hown u m news hx hp hb hb2 hB fun v' w' h2 h3 => hK _ _ (h v' w' h2 h3)
structure MS where
 ram : List UInt8
 scr : List UInt8
 ch : Int
 pad : Int
 pitch : Int
 vol : Int
 time : Int
 cyc : Int
 tones : List (Int × Int × Int)
 banks : Nat -> Option (List UInt8)
structure Wf (m : MS) : Prop where
 ram : m.ram.length = 16384
 scr : m.scr.length = 3072
 ch0 : 0 <= m.ch
 ch1 : m.ch < 16
 pad0 : 0 <= m.pad
 pad1 : m.pad < 256
 pitch0 : 0 <= m.pitch
 pitch1 : m.pitch < 65536
 vol0 : 0 <= m.vol
 vol1 : m.vol < 256
 time0 : 0 <= m.time
 time1 : m.time < 65536
 bk : ∀ n l, m.banks n = some l -> n < 16 /\ l.length = 16384
def tcell (t : Int × Int × Int) : List Value := [.int .i64 t.1, .int .u16 t.2.1, .int .u8 t.2.2]
def tc (l : List (Int × Int × Int)) : List Value := l.flatMap tcell
theorem tc_append (a b : List (Int × Int × Int)) : tc (a ++ b) = tc a ++ tc b := by simp [tc]
theorem tc_len (l : List (Int × Int × Int)) : (tc l).length = l.length * 3 := by
 induction l with
 | nil => rfl
 | cons a l ih => rw [show a :: l = [a] ++ l from rfl, tc_append, List.length_append, ih]; simp [tc, tcell]; omega
theorem tc_one (l : List (Int × Int × Int)) : ∀ u ∈ tc l, u.oneCell' = true := by
 intro u hu; simp [tc, tcell] at hu; obtain ⟨a, b, c, _, h⟩ := hu; rcases h with rfl | rfl | rfl <;> rfl
def regs (m : MS) (tv : Value) : List Value := [.int .u8 m.ch, .int .u8 m.pad, .int .u16 m.pitch, .int .u8 m.vol, .int .u16 m.time, .int .i64 m.cyc, tv]
def mcells (mb : Nat) (m : MS) (tv : Value) : List Value := Value.map (some mb) :: (bv m.ram ++ (bv m.scr ++ regs m tv))
theorem mcells_len (mb : Nat) (m : MS) (tv : Value) (h : Wf m) : (mcells mb m tv).length = 19464 := by simp [mcells, regs, bv_len, h.ram, h.scr]
theorem mcells_0 (mb : Nat) (m : MS) (tv : Value) : (mcells mb m tv)[0]? = some (.map (some mb)) := rfl
theorem mcells_ram (mb : Nat) (m : MS) (tv : Value) (h : Wf m) (i : Nat) (x : UInt8) (hx : m.ram[i]? = some x) : (mcells mb m tv)[1 + i]? = some (.int .u8 (x.toNat : Int)) := by
 have hi : i < m.ram.length := (List.getElem?_eq_some_iff.1 hx).1
 rw [mcells, Nat.add_comm, List.getElem?_cons_succ, List.getElem?_append_left (by rw [bv_len]; exact hi)]
 exact (bv_get _ _ _).2 ⟨x, hx, rfl⟩
theorem mcells_scr (mb : Nat) (m : MS) (tv : Value) (h : Wf m) (i : Nat) (x : UInt8) (hx : m.scr[i]? = some x) : (mcells mb m tv)[16385 + i]? = some (.int .u8 (x.toNat : Int)) := by
 have hi : i < m.scr.length := (List.getElem?_eq_some_iff.1 hx).1
 rw [mcells, show 16385 + i = (16384 + i) + 1 by omega, List.getElem?_cons_succ, List.getElem?_append_right (by rw [bv_len, h.ram]; omega), bv_len, h.ram, Nat.add_sub_cancel_left, List.getElem?_append_left (by rw [bv_len]; exact hi)]
 exact (bv_get _ _ _).2 ⟨x, hx, rfl⟩
theorem mcells_reg (mb : Nat) (m : MS) (tv : Value) (h : Wf m) (i : Nat) : (mcells mb m tv)[19457 + i]? = (regs m tv)[i]? := by
 rw [mcells, show 19457 + i = (19456 + i) + 1 by omega, List.getElem?_cons_succ, List.getElem?_append_right (by rw [bv_len, h.ram]; omega), bv_len, h.ram,
  List.getElem?_append_right (by rw [bv_len, h.scr]; omega), bv_len, h.scr, show 19456 + i - 16384 - 3072 = i by omega]
theorem mcells_set_0 (mb mb' : Nat) (m : MS) (tv : Value) : (mcells mb m tv).set 0 (.map (some mb')) = mcells mb' m tv := rfl
theorem bv_set (l : List UInt8) (i : Nat) (x : UInt8) : (bv l).set i (.int .u8 (x.toNat : Int)) = bv (l.set i x) := by simp [bv, List.map_set]
theorem mcells_set_ram (mb : Nat) (m : MS) (tv : Value) (h : Wf m) (i : Nat) (hi : i < 16384) (x : UInt8) : (mcells mb m tv).set (1 + i) (.int .u8 (x.toNat : Int)) = mcells mb { m with ram := m.ram.set i x } tv := by
 rw [mcells, Nat.add_comm, List.set_cons_succ, List.set_append_left _ _ (by rw [bv_len, h.ram]; exact hi), bv_set]; rfl
theorem mcells_set_scr (mb : Nat) (m : MS) (tv : Value) (h : Wf m) (i : Nat) (hi : i < 3072) (x : UInt8) : (mcells mb m tv).set (16385 + i) (.int .u8 (x.toNat : Int)) = mcells mb { m with scr := m.scr.set i x } tv := by
 rw [mcells, show 16385 + i = (16384 + i) + 1 by omega, List.set_cons_succ, List.set_append_right _ _ (by rw [bv_len, h.ram]; omega), bv_len, h.ram, Nat.add_sub_cancel_left,
  List.set_append_left _ _ (by rw [bv_len, h.scr]; exact hi), bv_set]; rfl
theorem mcells_set_reg (mb : Nat) (m : MS) (tv : Value) (h : Wf m) (i : Nat) (v : Value) : (mcells mb m tv).set (19457 + i) v = Value.map (some mb) :: (bv m.ram ++ (bv m.scr ++ (regs m tv).set i v)) := by
 rw [mcells, show 19457 + i = (19456 + i) + 1 by omega, List.set_cons_succ, List.set_append_right _ _ (by rw [bv_len, h.ram]; omega), bv_len, h.ram,
  List.set_append_right _ _ (by rw [bv_len, h.scr]; omega), bv_len, h.scr, show 19456 + i - 16384 - 3072 = i by omega]
def setCell_heap := @S.setCell_heap
def setCell_other := @S.setCell_other
def setCell_size := @S.setCell_size
def cell_of := @S.cell_of
def frozen_of := @S.frozen_of
structure Tc (F : Nat -> Prop) (W W' : World) : Prop where
 os : W'.os = W.os
 tape : W'.tape = W.tape
 output : W'.output = W.output
 size : W.heap.size <= W'.heap.size
 block : ∀ k, k < W.heap.size -> ¬ F k -> W'.heap[k]? = W.heap[k]?
theorem Tc.refl (F : Nat -> Prop) (W : World) : Tc F W W := ⟨rfl, rfl, rfl, Nat.le_refl _, fun _ _ _ => rfl⟩
theorem Tc.trans {F G H : Nat -> Prop} {a b c : World} (h : Tc F a b) (k : Tc G b c) (hF : ∀ i, F i -> H i) (hG : ∀ i, i < a.heap.size -> G i -> H i) : Tc H a c :=
 ⟨k.os.trans h.os, k.tape.trans h.tape, k.output.trans h.output, Nat.le_trans h.size k.size, fun i hi hn => (k.block i (Nat.lt_of_lt_of_le hi h.size) fun g => hn (hG i hi g)).trans (h.block i hi fun f => hn (hF i f))⟩
theorem Tc.of_below {F : Nat -> Prop} {B : Nat} {a b : World} (h : Below B a b) (hF : ∀ i, B <= i -> i < a.heap.size -> F i) : Tc F a b :=
 ⟨h.os, h.tape, h.output, h.size, fun i hi hn => h.block i (by apply Decidable.byContradiction; intro c; exact hn (hF i (by omega) hi))⟩
theorem Tc.below {F : Nat -> Prop} {B : Nat} {a b : World} (h : Tc F a b) (hB : B <= a.heap.size) (hF : ∀ i, F i -> B <= i) : Below B a b :=
 ⟨h.os, h.tape, h.output, h.size, fun i hi => h.block i (by omega) fun f => by have := hF i f; omega⟩
theorem Tc.setCell {F : Nat -> Prop} {a b : World} (h : Tc F a b) (g i : Nat) (hg : F g) (v : Value) : Tc F a (b.setCell ⟨g, i, none⟩ v) :=
 ⟨h.os, h.tape, h.output, by rw [setCell_size]; exact h.size, fun k hk hn => (setCell_other _ _ _ _ _ (by rintro rfl; exact hn hg)).trans (h.block k hk hn)⟩
def gr (F : Nat -> Prop) (W W' : World) (k : Nat) : Prop := F k \/ (W.heap.size <= k /\ k < W'.heap.size)
def ents : Nat -> List (Nat × Nat) -> List MapEntry
 | _, [] => []
 | i, (n, g) :: r => { key := .int .i64 (n : Int), val := .pointer (some ⟨g, 0, none⟩), born := i } :: ents (i + 1) r
def Bk (W : World) (g : Nat) (l : List UInt8) : Prop := W.heap[g]? = some (.cells (bv l).toArray 143 (0, 0))
structure MemP (W : World) (F : Nat -> Prop) (b : Nat) (m : MS) (mb : Nat) (L : List (Nat × Nat)) (tv : Value) : Prop where
 wf : Wf m
 blk : W.heap[b]? = some (.cells (mcells mb m tv).toArray 146 (0, 0))
 map : W.heap[mb]? = some (.map (ents 0 L).toArray L.length)
 keys : (L.map Prod.fst).Nodup
 lt16 : ∀ p ∈ L, p.1 < 16
 blks : (L.map Prod.snd).Nodup
 bks : ∀ p ∈ L, ∃ l, m.banks p.1 = some l /\ Bk W p.2 l
 all : ∀ n l, m.banks n = some l -> ∃ g, (n, g) ∈ L
 tones : W.ownsRow 0 66 3 tv m.tones.length (tc m.tones)
 fb : F b
 fmb : F mb
 fbk : ∀ p ∈ L, F p.2
 ft : ∀ g, tv.ownBlock = some g -> F g
def HasM (W : World) (F : Nat -> Prop) (b : Nat) (m : MS) : Prop := ∃ mb L tv, MemP W F b m mb L tv
def lt_of := @S.lt_of
theorem MemP.mono {W : World} {F G : Nat -> Prop} {b : Nat} {m : MS} {mb : Nat} {L : List (Nat × Nat)} {tv : Value} (h : MemP W F b m mb L tv) (k : ∀ i, i < W.heap.size -> F i -> G i) : MemP W G b m mb L tv :=
 { h with
  fb := k _ (lt_of h.blk) h.fb
  fmb := k _ (lt_of h.map) h.fmb
  fbk := fun p hp => by obtain ⟨l, _, e⟩ := h.bks p hp; exact k _ (lt_of e) (h.fbk p hp)
  ft := fun g e => k _ (h.tones.lt g e).2 (h.ft g e) }
def own_kept := @S.own_kept
theorem MemP.kept {W W' : World} {F : Nat -> Prop} {b : Nat} {m : MS} {mb : Nat} {L : List (Nat × Nat)} {tv : Value} (h : MemP W F b m mb L tv) (k : ∀ i, i < W.heap.size -> F i -> W'.heap[i]? = W.heap[i]?) : MemP W' F b m mb L tv :=
 { h with
  blk := (k _ (lt_of h.blk) h.fb).trans h.blk
  map := (k _ (lt_of h.map) h.fmb).trans h.map
  bks := fun p hp => by obtain ⟨l, e1, e2⟩ := h.bks p hp; exact ⟨l, e1, (k _ (lt_of e2) (h.fbk p hp)).trans e2⟩
  tones := own_kept h.tones fun g e hg => k g hg (h.ft g e) }
theorem HasM.mono {W : World} {F G : Nat -> Prop} {b : Nat} {m : MS} (h : HasM W F b m) (k : ∀ i, i < W.heap.size -> F i -> G i) : HasM W G b m := by
 obtain ⟨mb, L, tv, h⟩ := h; exact ⟨mb, L, tv, h.mono k⟩
theorem HasM.kept {W W' : World} {F : Nat -> Prop} {b : Nat} {m : MS} (h : HasM W F b m) (k : ∀ i, i < W.heap.size -> F i -> W'.heap[i]? = W.heap[i]?) : HasM W' F b m := by
 obtain ⟨mb, L, tv, h⟩ := h; exact ⟨mb, L, tv, h.kept k⟩
theorem find_none (n : Nat) : ∀ (L : List (Nat × Nat)) (i j : Nat), (∀ p ∈ L, p.1 ≠ n) -> Instr.findNow (.int .i64) (.int .i64 (n : Int)) (ents i L) j = some none
 | [], _, _, _ => rfl
 | (x, y) :: L, i, j, h => by
  have hx : x ≠ n := h (x, y) (by simp); have e : Instr.sameNow (.int .i64) (.int .i64 (n : Int)) (.int .i64 (x : Int)) = some false := by simp [Instr.sameNow]; omega
  simp only [ents, Instr.findNow, e]; exact find_none n L _ _ fun p hp => h p (List.mem_cons_of_mem _ hp)
theorem find_some (n g : Nat) : ∀ (L : List (Nat × Nat)) (i j : Nat), (L.map Prod.fst).Nodup -> (n, g) ∈ L -> ∃ k, Instr.findNow (.int .i64) (.int .i64 (n : Int)) (ents i L) j = some (some (k, .pointer (some ⟨g, 0, none⟩)))
 | (x, y) :: L, i, j, hd, h => by
  by_cases hx : x = n
  ·subst hx
   have e : Instr.sameNow (.int .i64) (.int .i64 (x : Int)) (.int .i64 (x : Int)) = some true := by simp [Instr.sameNow]
   simp only [ents, Instr.findNow, e]
   rcases List.mem_cons.1 h with h | h
   ·cases h; exact ⟨j, rfl⟩
   ·simp at hd; exact absurd h (hd.1 _)
  ·have e : Instr.sameNow (.int .i64) (.int .i64 (n : Int)) (.int .i64 (x : Int)) = some false := by simp [Instr.sameNow]; omega
   simp only [ents, Instr.findNow, e]
   rcases List.mem_cons.1 h with h | h
   ·cases h; exact absurd rfl hx
   ·exact find_some n g L _ _ (by simp at hd ⊢; exact hd.2) h
theorem checkKey_int (W : World) (e : Bool) (z : Int) : (Instr.checkKey e 10000 3 (.int .i64 z)).run Tryz.prog W = .ok () W := by
 have h : ∀ d : Nat, (Instr.checkKey e (d + 1) 3 (.int .i64 z)).run Tryz.prog W = .ok () W := fun d => by simp [Instr.checkKey, run_underlying Tryz.underlying3]
 exact h 9999
theorem look_none (W : World) (mb n : Nat) (L : List (Nat × Nat)) (h : W.heap[mb]? = some (.map (ents 0 L).toArray L.length)) (hn : ∀ p ∈ L, p.1 ≠ n) :
  (Instr.lookup 142 (.map (some mb)) (.int .i64 (n : Int)) false).run Tryz.prog W = .ok (.pointer none) W := by
 simp [Instr.lookup, run_underlying Tryz.underlying142, getObj, Sem.run, h, checkKey_int, Instr.findKey, run_underlying Tryz.underlying3, find_none n L 0 0 hn, Tryz.zeroValue176]
theorem look_some (W : World) (mb n g : Nat) (L : List (Nat × Nat)) (h : W.heap[mb]? = some (.map (ents 0 L).toArray L.length)) (hd : (L.map Prod.fst).Nodup) (hn : (n, g) ∈ L) :
  (Instr.lookup 142 (.map (some mb)) (.int .i64 (n : Int)) false).run Tryz.prog W = .ok (.pointer (some ⟨g, 0, none⟩)) W := by
 obtain ⟨k, hk⟩ := find_some n g L 0 0 hd hn
 simp [Instr.lookup, run_underlying Tryz.underlying142, getObj, Sem.run, h, checkKey_int, Instr.findKey, run_underlying Tryz.underlying3, hk]
set_option maxHeartbeats 1000000
set_option maxRecDepth 100000
theorem room_low (b : Nat) (z : Int) (w : World) (h : z < 16384) :
  Calls Tryz.prog 101 #[.pointer (some ⟨b, 0, none⟩), .int .u16 z] w fun e w' => e = .returned (.pointer none) /\ ∃ q, w' = w.drewN q := by
 go_enter Tryz.func101, Tryz.ntmps101
 go_wp2
 go_ret
 exact ⟨rfl, 0, rfl⟩
theorem room_high (b : Nat) (z : Int) (w : World) (h : 52224 <= z) :
  Calls Tryz.prog 101 #[.pointer (some ⟨b, 0, none⟩), .int .u16 z] w fun e w' => e = .returned (.pointer none) /\ ∃ q, w' = w.drewN q := by
 have i1 : decide (z < 16384) = false := by simp; omega
 have i2 : decide (z < 32768) = false := by simp; omega
 have i3 : decide (z < 49152) = false := by simp; omega
 have i4 : decide (z < 52224) = false := by simp; omega
 go_enter Tryz.func101, Tryz.ntmps101
 go_wp2
 go_ret
 exact ⟨rfl, 0, rfl⟩
theorem room_ram (b : Nat) (z : Int) (w : World) (h : 32768 <= z) (h2 : z < 49152) :
  Calls Tryz.prog 101 #[.pointer (some ⟨b, 0, none⟩), .int .u16 z] w fun e w' => e = .returned (.pointer (some ⟨b, 1 + (z - 32768).toNat, none⟩)) /\ ∃ q, w' = w.drewN q := by
 have i1 : decide (z < 16384) = false := by simp; omega
 have i2 : decide (z < 32768) = false := by simp; omega
 obtain ⟨k, rfl⟩ : ∃ k : Nat, z = k + 32768 := ⟨(z - 32768).toNat, by omega⟩
 have e1 : IntKind.u16.wrap ((k : Int) + 32768 - 32768) = (k : Int) := by simp [IntKind.wrap, IntKind.bits, IntKind.signed]; omega
 have hk : (k : Int) < 16384 := by omega
 have e2 : ((k : Int) + 32768 - 32768).toNat = k := by omega
 go_enter Tryz.func101, Tryz.ntmps101
 go_wp2
 go_ret
 exact ⟨by rw [e2]; rfl, 0, rfl⟩
theorem room_scr (b : Nat) (z : Int) (w : World) (h : 49152 <= z) (h2 : z < 52224) :
  Calls Tryz.prog 101 #[.pointer (some ⟨b, 0, none⟩), .int .u16 z] w fun e w' => e = .returned (.pointer (some ⟨b, 16385 + (z - 49152).toNat, none⟩)) /\ ∃ q, w' = w.drewN q := by
 have i1 : decide (z < 16384) = false := by simp; omega
 have i2 : decide (z < 32768) = false := by simp; omega
 have i3 : decide (z < 49152) = false := by simp; omega
 obtain ⟨k, rfl⟩ : ∃ k : Nat, z = k + 49152 := ⟨(z - 49152).toNat, by omega⟩
 have e1 : IntKind.u16.wrap ((k : Int) + 49152 - 49152) = (k : Int) := by simp [IntKind.wrap, IntKind.bits, IntKind.signed]; omega
 have hk : (k : Int) < 3072 := by omega
 have e2 : ((k : Int) + 49152 - 49152).toNat = k := by omega
 go_enter Tryz.func101, Tryz.ntmps101
 go_wp2
 go_ret
 exact ⟨by rw [e2]; rfl, 0, rfl⟩
theorem room_nobank (b mb n : Nat) (L : List (Nat × Nat)) (z : Int) (w : World) (h : 16384 <= z) (h2 : z < 32768) (hn : n < 16)
  (hb : w.cell? ⟨b, 0, none⟩ = some (.map (some mb))) (hc : w.cell? ⟨b, 19457, none⟩ = some (.int .u8 (n : Int))) (hm : w.heap[mb]? = some (.map (ents 0 L).toArray L.length)) (hg : ∀ p ∈ L, p.1 ≠ n) :
  Calls Tryz.prog 101 #[.pointer (some ⟨b, 0, none⟩), .int .u16 z] w fun e w' => e = .returned (.pointer none) /\ ∃ q, w' = w.drewN q := by
 have i1 : decide (z < 16384) = false := by simp; omega
 have hl := fun q => look_none (w.drewN q) mb n L hm hg
 go_enter Tryz.func101, Tryz.ntmps101
 go_wp2_with fail
 go_quiet (fail)
 go_wp2
 go_ret
 exact ⟨rfl, _, rfl⟩
theorem room_bank (b mb n g : Nat) (L : List (Nat × Nat)) (z : Int) (w : World) (h : 16384 <= z) (h2 : z < 32768) (hn : n < 16)
  (hb : w.cell? ⟨b, 0, none⟩ = some (.map (some mb))) (hc : w.cell? ⟨b, 19457, none⟩ = some (.int .u8 (n : Int))) (hm : w.heap[mb]? = some (.map (ents 0 L).toArray L.length)) (hd : (L.map Prod.fst).Nodup) (hg : (n, g) ∈ L) :
  Calls Tryz.prog 101 #[.pointer (some ⟨b, 0, none⟩), .int .u16 z] w fun e w' => e = .returned (.pointer (some ⟨g, (z - 16384).toNat, none⟩)) /\ ∃ q, w' = w.drewN q := by
 have i1 : decide (z < 16384) = false := by simp; omega
 have hl := fun q => look_some (w.drewN q) mb n g L hm hd hg
 obtain ⟨k, rfl⟩ : ∃ k : Nat, z = k + 16384 := ⟨(z - 16384).toNat, by omega⟩
 have e1 : IntKind.u16.wrap ((k : Int) + 16384 - 16384) = (k : Int) := by simp [IntKind.wrap, IntKind.bits, IntKind.signed]; omega
 have hk : (k : Int) < 16384 := by omega
 have e2 : ((k : Int) + 16384 - 16384).toNat = k := by omega
 go_enter Tryz.func101, Tryz.ntmps101
 go_wp2_with fail
 go_quiet (fail)
 go_wp2
 go_ret
 exact ⟨by rw [e2]; rfl, _, rfl⟩
def pt (m : MS) (z : Int) : Int := if z = 65280 then m.ch else if z = 65282 then m.pad else if z = 65284 then m.pitch % 256 else if z = 65285 then m.pitch / 256 else if z = 65286 then m.vol else if z = 65288 then m.time % 256 else if z = 65289 then m.time / 256 else 0
def lb (l : List UInt8) (i : Nat) : Int := ((l.getD i 0).toNat : Int)
def ld (m : MS) (z : Int) : Int :=
 if z < 16384 then 0 else if z < 32768 then (match m.banks m.ch.toNat with | none => 0 | some l => lb l (z - 16384).toNat)
 else if z < 49152 then lb m.ram (z - 32768).toNat else if z < 52224 then lb m.scr (z - 49152).toNat else pt m z
theorem u8_wrap (z : Int) : IntKind.u8.wrap z = z % 256 := by simp [IntKind.wrap, IntKind.bits, IntKind.signed]
theorem u16_wrap (z : Int) : IntKind.u16.wrap z = z % 65536 := by simp [IntKind.wrap, IntKind.bits, IntKind.signed]
set_option maxHeartbeats 1000000
set_option maxRecDepth 100000
theorem port_any (b : Nat) (z : Int) (w : World) {F : Nat -> Prop} {m : MS} (hm : HasM w F b m) :
  Calls Tryz.prog 103 #[.pointer (some ⟨b, 0, none⟩), .int .u16 z] w fun e w' => e = .returned (.int .u8 (pt m z)) /\ ∃ q, w' = w.drewN q := by
 obtain ⟨mb, L, tv, hm⟩ := hm
 have c := fun i v h => cell_of w b (19457 + i) _ 146 v hm.blk ((mcells_reg mb m tv hm.wf i).trans h)
 have c0 := c 0 _ rfl
 have c1 := c 1 _ rfl
 have c2 := c 2 _ rfl
 have c3 := c 3 _ rfl
 have c4 := c 4 _ rfl
 have w1 := hm.wf.pitch0
 have w2 := hm.wf.pitch1
 have w3 := hm.wf.time0
 have w4 := hm.wf.time1
 simp only [Nat.add_zero, Nat.reduceAdd] at c0 c1 c2 c3 c4
 clear c hm
 by_cases a0 : z = 65280
 ·subst a0
  go_enter Tryz.func103, Tryz.ntmps103; go_wp2; go_ret; exact ⟨by simp [pt], 0, rfl⟩
 by_cases a1 : z = 65282
 ·subst a1
  go_enter Tryz.func103, Tryz.ntmps103; go_wp2; go_ret; exact ⟨by simp [pt], 0, rfl⟩
 by_cases a2 : z = 65284
 ·subst a2
  have e1 := u8_wrap m.pitch
  go_enter Tryz.func103, Tryz.ntmps103; go_wp2; go_ret; exact ⟨by simp [pt], 0, rfl⟩
 by_cases a3 : z = 65285
 ·subst a3
  go_enter Tryz.func103, Tryz.ntmps103; go_wp2; go_ret; exact ⟨by simp [pt], 0, rfl⟩
 by_cases a4 : z = 65286
 ·subst a4
  go_enter Tryz.func103, Tryz.ntmps103; go_wp2; go_ret; exact ⟨by simp [pt], 0, rfl⟩
 by_cases a5 : z = 65288
 ·subst a5
  have e1 := u8_wrap m.time
  go_enter Tryz.func103, Tryz.ntmps103; go_wp2; go_ret; exact ⟨by simp [pt], 0, rfl⟩
 by_cases a6 : z = 65289
 ·subst a6
  go_enter Tryz.func103, Tryz.ntmps103; go_wp2; go_ret; exact ⟨by simp [pt], 0, rfl⟩
 have f0 : (z == 65280) = false := by simpa using a0
 have f1 : (z == 65282) = false := by simpa using a1
 have f2 : (z == 65284) = false := by simpa using a2
 have f3 : (z == 65285) = false := by simpa using a3
 have f4 : (z == 65286) = false := by simpa using a4
 have f5 : (z == 65288) = false := by simpa using a5
 have f6 : (z == 65289) = false := by simpa using a6
 go_enter Tryz.func103, Tryz.ntmps103
 go_wp2
 go_ret
 exact ⟨by simp [pt, a0, a1, a2, a3, a4, a5, a6], 0, rfl⟩
theorem HasM.drew {W : World} {F : Nat -> Prop} {b : Nat} {m : MS} (h : HasM W F b m) (q : Nat) : HasM (W.drewN q) F b m := h.kept fun _ _ _ => rfl
theorem drewN_drewN (W : World) (p q : Nat) : ∃ r, (W.drewN p).drewN q = W.drewN r := ⟨p + q, by simp [World.drewN, Nat.add_assoc]⟩
theorem lb_of (l : List UInt8) (i : Nat) (h : i < l.length) : l[i]? = some (l.getD i 0) := by rw [List.getD_eq_getElem?_getD, List.getElem?_eq_getElem h]; rfl
theorem load_room (b : Nat) (z x : Int) (a : Addr) (w : World)
  (hr : Calls Tryz.prog 101 #[.pointer (some ⟨b, 0, none⟩), .int .u16 z] w fun e w' => e = .returned (.pointer (some a)) /\ ∃ q, w' = w.drewN q) (hc : w.cell? a = some (.int .u8 x)) :
  Calls Tryz.prog 70 #[.pointer (some ⟨b, 0, none⟩), .int .u16 z] w fun e w' => e = .returned (.int .u8 x) /\ ∃ q, w' = w.drewN q := by
 go_enter Tryz.func70, Tryz.ntmps70
 go_wp2_with fail
 refine hr.mono ?_
 rintro e w1 ⟨rfl, q, rfl⟩
 have hc2 : (w.drewN q).cell? a = some (.int .u8 x) := hc
 go_wp2
 go_ret
 exact ⟨rfl, _, rfl⟩
theorem load_port (b : Nat) (z : Int) (w : World) {F : Nat -> Prop} {m : MS} (hm : HasM w F b m)
  (hr : Calls Tryz.prog 101 #[.pointer (some ⟨b, 0, none⟩), .int .u16 z] w fun e w' => e = .returned (.pointer none) /\ ∃ q, w' = w.drewN q) :
  Calls Tryz.prog 70 #[.pointer (some ⟨b, 0, none⟩), .int .u16 z] w fun e w' => e = .returned (.int .u8 (pt m z)) /\ ∃ q, w' = w.drewN q := by
 go_enter Tryz.func70, Tryz.ntmps70
 go_wp2_with fail
 refine hr.mono ?_
 rintro e w1 ⟨rfl, q, rfl⟩
 have hp := port_any b z (w.drewN q) (hm.drew q)
 go_wp2_with fail
 refine hp.mono ?_
 rintro e w1 ⟨rfl, q1, rfl⟩
 go_wp2
 go_ret
 exact ⟨rfl, _, rfl⟩
theorem pt_low (m : MS) (z : Int) (h : z < 65280) : pt m z = 0 := by simp [pt]; omega
theorem load_any (b : Nat) (z : Int) (h0 : 0 <= z) (h1 : z < 65536) (w : World) {F : Nat -> Prop} {m : MS} (hm : HasM w F b m) :
  Calls Tryz.prog 70 #[.pointer (some ⟨b, 0, none⟩), .int .u16 z] w fun e w' => e = .returned (.int .u8 (ld m z)) /\ ∃ q, w' = w.drewN q := by
 by_cases a1 : z < 16384
 ·have := load_port b z w hm (room_low b z w a1)
  rw [pt_low m z (by omega)] at this
  simpa only [ld, a1, if_true] using this
 by_cases a2 : z < 32768
 ·obtain ⟨mb, L, tv, h⟩ := id hm
  have cb := cell_of w b 0 _ 146 _ h.blk (mcells_0 mb m tv); have cc := cell_of w b (19457 + 0) _ 146 _ h.blk ((mcells_reg mb m tv h.wf 0).trans rfl); have e : m.ch = (m.ch.toNat : Int) := by have := h.wf.ch0; omega
  have hn : m.ch.toNat < 16 := by have := h.wf.ch1; have := h.wf.ch0; omega
  rw [e] at cc
  cases hb : m.banks m.ch.toNat with
  | none =>
   have := load_port b z w hm (room_nobank b mb m.ch.toNat L z w (by omega) a2 hn cb cc h.map (by rintro p hp e; obtain ⟨l, e2, _⟩ := h.bks p hp; rw [e, hb] at e2; cases e2)); rw [pt_low m z (by omega)] at this
   simpa only [ld, a1, a2, if_true, if_false, hb] using this
  | some l =>
   obtain ⟨g, hg⟩ := h.all _ _ hb; obtain ⟨l', e2, hk⟩ := h.bks _ hg; rw [hb] at e2; cases e2; have hl := (h.wf.bk _ _ hb).2; have := load_room b z _ _ w (room_bank b mb m.ch.toNat g L z w (by omega) a2 hn cb cc h.map h.keys hg) (cell_of w g _ _ 143 _ hk ((bv_get l _ _).2 ⟨_, lb_of l (z - 16384).toNat (by omega), rfl⟩))
   simpa only [ld, a1, a2, if_true, if_false, hb, lb] using this
 by_cases a3 : z < 49152
 ·obtain ⟨mb, L, tv, h⟩ := id hm
  have := load_room b z _ _ w (room_ram b z w (by omega) a3) (cell_of w b _ _ 146 _ h.blk (mcells_ram mb m tv h.wf _ _ (lb_of m.ram (z - 32768).toNat (by rw [h.wf.ram]; omega))))
  simpa only [ld, a1, a2, a3, if_true, if_false, lb] using this
 by_cases a4 : z < 52224
 ·obtain ⟨mb, L, tv, h⟩ := id hm
  have := load_room b z _ _ w (room_scr b z w (by omega) a4) (cell_of w b _ _ 146 _ h.blk (mcells_scr mb m tv h.wf _ _ (lb_of m.scr (z - 49152).toNat (by rw [h.wf.scr]; omega))))
  simpa only [ld, a1, a2, a3, a4, if_true, if_false, lb] using this
 have := load_port b z w hm (room_high b z w (by omega))
 simpa only [ld, a1, a2, a3, a4, if_false] using this
theorem pad_any (b : Nat) (w : World) {F : Nat -> Prop} {m : MS} (hm : HasM w F b m) :
  Calls Tryz.prog 154 #[.pointer (some ⟨b, 0, none⟩)] w fun e w' => e = .returned (.int .u8 m.pad) /\ ∃ q, w' = w.drewN q := by
 have hl := load_any b 65282 (by omega) (by omega) w hm
 go_enter Tryz.func154, Tryz.ntmps154
 go_wp2_with fail
 refine hl.mono ?_
 rintro e w1 ⟨rfl, q, rfl⟩
 go_wp2
 go_ret
 exact ⟨by simp [ld, pt], q, rfl⟩
theorem ld_bound (m : MS) (h : Wf m) (z : Int) : 0 <= ld m z /\ ld m z < 256 := by
 have lbb : ∀ l i, 0 <= lb l i /\ lb l i < 256 := fun l i => ⟨by unfold lb; omega, by unfold lb; have := (l.getD i 0).toNat_lt; omega⟩
 have := h.ch0; have := h.ch1; have := h.pad0; have := h.pad1; have := h.pitch0; have := h.pitch1; have := h.vol0; have := h.vol1; have := h.time0; have := h.time1
 unfold ld
 split
 ·omega
 split
 ·split
  ·omega
  ·exact lbb _ _
 split
 ·exact lbb _ _
 split
 ·exact lbb _ _
 unfold pt
 repeat' split
 all_goals omega
def cl (m : MS) (z : Int) : Int := ld m z + 256 * ld m ((z + 1) % 65536)
theorem cell_any (b : Nat) (z : Int) (h0 : 0 <= z) (h1 : z < 65536) (w : World) {F : Nat -> Prop} {m : MS} (hm : HasM w F b m) :
  Calls Tryz.prog 142 #[.pointer (some ⟨b, 0, none⟩), .int .u16 z] w fun e w' => e = .returned (.int .u16 (cl m z)) /\ ∃ q, w' = w.drewN q := by
 have hl := load_any b z h0 h1 w hm
 have hwf : Wf m := by obtain ⟨_, _, _, h⟩ := hm; exact h.wf
 have l1 := (ld_bound m hwf z)
 have l2 := (ld_bound m hwf ((z + 1) % 65536))
 have e1 := u16_wrap (z + 1)
 go_enter Tryz.func142, Tryz.ntmps142
 go_wp2_with fail
 refine hl.mono ?_
 rintro e w1 ⟨rfl, q, rfl⟩
 have hl2 := load_any b ((z + 1) % 65536) (by omega) (by omega) (w.drewN q) (hm.drew q)
 go_wp2_with fail
 refine hl2.mono ?_
 rintro e w1 ⟨rfl, q1, rfl⟩
 have e3 : ∀ y, IntKind.u16.wrap (ld m z + y) = (ld m z + y) % 65536 := fun y => u16_wrap _
 go_wp2
 go_ret
 refine ⟨congrArg Ending.returned (congrArg (Value.int .u16) ?_), _, rfl⟩
 unfold cl
 omega
theorem ofInt16 (a : Nat) (h : a < 65536) : (BitVec.ofInt 16 (a : Int)).toNat = a := by
 rw [BitVec.ofInt_natCast, BitVec.toNat_ofNat]; exact Nat.mod_eq_of_lt (by omega)
theorem or16 (a b : Nat) (ha : a < 65536) (hb : b < 65536) : bits .or .u16 (a : Int) (b : Int) = ((a ||| b : Nat) : Int) := by
 have hx : a ||| b < 2 ^ 16 := Nat.or_lt_two_pow (by omega) (by omega)
 show IntKind.u16.wrap ((BitVec.ofInt 16 (a : Int) ||| BitVec.ofInt 16 (b : Int)).toNat : Int) = _
 rw [BitVec.toNat_or, ofInt16 a ha, ofInt16 b hb, u16_wrap]
 omega
theorem and16 (a b : Nat) (ha : a < 65536) (hb : b < 65536) : bits .and .u16 (a : Int) (b : Int) = ((a &&& b : Nat) : Int) := by
 have hx : a &&& b < 2 ^ 16 := Nat.and_lt_two_pow _ (by omega)
 show IntKind.u16.wrap ((BitVec.ofInt 16 (a : Int) &&& BitVec.ofInt 16 (b : Int)).toNat : Int) = _
 rw [BitVec.toNat_and, ofInt16 a ha, ofInt16 b hb, u16_wrap]
 omega
theorem and_high (p : Nat) (h : p < 65536) : p &&& 65280 = (p / 256) <<< 8 := by
 apply Nat.eq_of_testBit_eq
 intro i
 rw [show (65280 : Nat) = (2 ^ 8 - 1) <<< 8 from rfl, Nat.testBit_and, Nat.testBit_shiftLeft, Nat.testBit_shiftLeft, Nat.testBit_two_pow_sub_one, show p / 256 = p >>> 8 by rw [Nat.shiftRight_eq_div_pow], Nat.testBit_shiftRight]
 by_cases h1 : 8 <= i
 ·by_cases h2 : i - 8 < 8
  ·simp [h1, h2, show 8 + (i - 8) = i by omega]
  ·have hp : p.testBit i = false := Nat.testBit_lt_two_pow (Nat.lt_of_lt_of_le h (Nat.pow_le_pow_right (n := 2) (by decide) (show 16 <= i by omega)))
   simp [h1, h2, show 8 + (i - 8) = i by omega, hp]
 ·simp [h1]
theorem and_low (p : Nat) : p &&& 255 = p % 256 := Nat.and_two_pow_sub_one_eq_mod p 8
theorem set_lo (p x : Int) (h0 : 0 <= p) (h1 : p < 65536) (x0 : 0 <= x) (x1 : x < 256) : bits .or .u16 (bits .and .u16 p 65280) x = p / 256 * 256 + x := by
 obtain ⟨a, rfl⟩ := Int.eq_ofNat_of_zero_le h0
 obtain ⟨c, rfl⟩ := Int.eq_ofNat_of_zero_le x0
 have e := and16 a 65280 (by omega) (by omega)
 rw [show ((65280 : Nat) : Int) = 65280 from rfl] at e
 have hs : (a / 256) <<< 8 = a / 256 * 256 := Nat.shiftLeft_eq _ _
 rw [e, and_high a (by omega), or16 _ c (by rw [hs]; omega) (by omega), <- Nat.shiftLeft_add_eq_or_of_lt (by omega), hs]
 omega
theorem set_hi (p x : Int) (h0 : 0 <= p) (h1 : p < 65536) (x0 : 0 <= x) (x1 : x < 256) : bits .or .u16 (bits .and .u16 p 255) (x * 256) = p % 256 + 256 * x := by
 obtain ⟨a, rfl⟩ := Int.eq_ofNat_of_zero_le h0
 obtain ⟨c, rfl⟩ := Int.eq_ofNat_of_zero_le x0
 have e := and16 a 255 (by omega) (by omega)
 rw [show ((255 : Nat) : Int) = 255 from rfl] at e
 have hs : c <<< 8 = c * 256 := Nat.shiftLeft_eq _ _
 have e2 : (c : Int) * (256 : Int) = ((c <<< 8 : Nat) : Int) := by rw [hs]; exact (Int.natCast_mul c 256).symm
 rw [e, and_low, e2, or16 _ _ (by omega) (by rw [hs]; omega), Nat.or_comm, <- Nat.shiftLeft_add_eq_or_of_lt (by omega), hs]
 omega
def bt (x : UInt8) : Int := (x.toNat : Int)
theorem bt_bound (x : UInt8) : 0 <= bt x /\ bt x < 256 := ⟨by unfold bt; omega, by unfold bt; have := x.toNat_lt; omega⟩
def upd (f : Nat -> Option (List UInt8)) (n : Nat) (l : List UInt8) (k : Nat) : Option (List UInt8) := if k = n then some l else f k
def stp (m : MS) (z : Int) (x : UInt8) : MS :=
 if z = 65280 then { m with ch := bt x % 16 } else if z = 65284 then { m with pitch := m.pitch / 256 * 256 + bt x }
 else if z = 65285 then { m with pitch := m.pitch % 256 + 256 * bt x } else if z = 65286 then { m with vol := bt x, tones := m.tones ++ [(m.cyc, m.pitch, bt x)] } else m
def st (m : MS) (z : Int) (x : UInt8) : MS :=
 if z < 16384 then m else if z < 32768 then (match m.banks m.ch.toNat with | none => m | some l => { m with banks := upd m.banks m.ch.toNat (l.set (z - 16384).toNat x) })
 else if z < 49152 then { m with ram := m.ram.set (z - 32768).toNat x } else if z < 52224 then { m with scr := m.scr.set (z - 49152).toNat x } else stp m z x
theorem MemP.ne_map {W : World} {F : Nat -> Prop} {b : Nat} {m : MS} {mb : Nat} {L : List (Nat × Nat)} {tv : Value} (h : MemP W F b m mb L tv) : mb ≠ b := by
 rintro rfl; have := h.blk; rw [h.map] at this; cases this
theorem MemP.ne_bk {W : World} {F : Nat -> Prop} {b : Nat} {m : MS} {mb : Nat} {L : List (Nat × Nat)} {tv : Value} (h : MemP W F b m mb L tv) (p : Nat × Nat) (hp : p ∈ L) : p.2 ≠ b := by
 intro e; obtain ⟨l, _, k⟩ := h.bks p hp; have := h.blk; rw [<- e, k] at this; simp at this
theorem own_block {W : World} {B : Nat} {e : TypeId} {size : Nat} {v : Value} {n : Nat} {xs : List Value} (h : W.ownsRow B e size v n xs) (g : Nat) (hg : v.ownBlock = some g) : ∃ cur, W.heap[g]? = some (.cells cur e (0, 0)) := by
 rcases h.2 with ⟨rfl, _⟩ | ⟨g', cap, cur, rfl, _, h3, _⟩
 ·simp [Value.ownBlock] at hg
 ·simp [Value.ownBlock] at hg; subst hg; exact ⟨cur, h3⟩
theorem MemP.ne_t {W : World} {F : Nat -> Prop} {b : Nat} {m : MS} {mb : Nat} {L : List (Nat × Nat)} {tv : Value} (h : MemP W F b m mb L tv) (g : Nat) (hg : tv.ownBlock = some g) : g ≠ b := by
 rintro rfl; obtain ⟨cur, e⟩ := own_block h.tones g hg; have := h.blk; rw [e] at this; simp at this
theorem MemP.ne_t_bk {W : World} {F : Nat -> Prop} {b : Nat} {m : MS} {mb : Nat} {L : List (Nat × Nat)} {tv : Value} (h : MemP W F b m mb L tv) (g : Nat) (hg : tv.ownBlock = some g) (p : Nat × Nat) (hp : p ∈ L) : p.2 ≠ g := by
 rintro rfl; obtain ⟨cur, e⟩ := own_block h.tones _ hg; obtain ⟨l, _, k⟩ := h.bks p hp; unfold Bk at k; rw [e] at k; simp at k
theorem MemP.ne_t_map {W : World} {F : Nat -> Prop} {b : Nat} {m : MS} {mb : Nat} {L : List (Nat × Nat)} {tv : Value} (h : MemP W F b m mb L tv) (g : Nat) (hg : tv.ownBlock = some g) : mb ≠ g := by
 rintro rfl; obtain ⟨cur, e⟩ := own_block h.tones _ hg; have := h.map; rw [e] at this; cases this
theorem MemP.ne_bk_map {W : World} {F : Nat -> Prop} {b : Nat} {m : MS} {mb : Nat} {L : List (Nat × Nat)} {tv : Value} (h : MemP W F b m mb L tv) (p : Nat × Nat) (hp : p ∈ L) : mb ≠ p.2 := by
 intro e; obtain ⟨l, _, k⟩ := h.bks p hp; have := h.map; rw [e, k] at this; cases this
theorem MemP.set {W : World} {F : Nat -> Prop} {b : Nat} {m : MS} {mb : Nat} {L : List (Nat × Nat)} {tv : Value} (h : MemP W F b m mb L tv) (i : Nat) (v : Value) (m' : MS) (wf : Wf m')
  (hr : (mcells mb m tv).set i v = mcells mb m' tv) (e3 : m'.banks = m.banks) (e4 : m'.tones = m.tones) : MemP (W.setCell ⟨b, i, none⟩ v) F b m' mb L tv :=
 {wf := wf
  blk := by rw [<- hr]; exact setCell_heap W b i _ 146 v h.blk
  map := (setCell_other _ _ _ _ _ h.ne_map).trans h.map
  keys := h.keys
  lt16 := h.lt16
  blks := h.blks
  bks := fun p hp => by obtain ⟨l, e1, e2⟩ := h.bks p hp; exact ⟨l, by rw [e3]; exact e1, (setCell_other _ _ _ _ _ (h.ne_bk p hp)).trans e2⟩
  all := fun n l hn => h.all n l (by rw [<- e3]; exact hn)
  tones := by rw [e4]; exact own_kept h.tones fun g e _ => setCell_other _ _ _ _ _ (h.ne_t g e)
  fb := h.fb
  fmb := h.fmb
  fbk := h.fbk
  ft := h.ft }
theorem MemP.reg {W : World} {F : Nat -> Prop} {b : Nat} {m : MS} {mb : Nat} {L : List (Nat × Nat)} {tv : Value} (h : MemP W F b m mb L tv) (i : Nat) (v : Value) (m' : MS) (wf : Wf m')
  (hr : (regs m tv).set i v = regs m' tv) (e1 : m'.ram = m.ram) (e2 : m'.scr = m.scr) (e3 : m'.banks = m.banks) (e4 : m'.tones = m.tones) : MemP (W.setCell ⟨b, 19457 + i, none⟩ v) F b m' mb L tv :=
 h.set (19457 + i) v m' wf (by rw [mcells_set_reg mb m tv h.wf, hr, <- e1, <- e2]; rfl) e3 e4
theorem inj_on (f : Nat × Nat -> Nat) : ∀ (M : List (Nat × Nat)), (M.map f).Nodup -> ∀ x ∈ M, ∀ y ∈ M, f x = f y -> x = y
 | [], _, x, hx, _, _, _ => by cases hx
 | q :: M, hd, x, hx, y, hy, e => by
  simp only [List.map_cons, List.nodup_cons, List.mem_map, not_exists, not_and] at hd
  rcases List.mem_cons.1 hx with hx' | hx' <;> rcases List.mem_cons.1 hy with hy' | hy'
  ·rw [hx', hy']
  ·subst hx'; exact absurd e.symm (hd.1 y hy')
  ·subst hy'; exact absurd e (hd.1 x hx')
  ·exact inj_on f M hd.2 x hx' y hy' e
theorem Wf.bank {m : MS} (h : Wf m) (n i : Nat) (l : List UInt8) (x : UInt8) (hn : m.banks n = some l) : Wf { m with banks := upd m.banks n (l.set i x) } := by
 refine ⟨h.ram, h.scr, h.ch0, h.ch1, h.pad0, h.pad1, h.pitch0, h.pitch1, h.vol0, h.vol1, h.time0, h.time1, ?_⟩
 intro k l' e
 simp only [upd] at e
 split at e
 ·next c => subst c; cases e; exact ⟨(h.bk _ _ hn).1, by simp [(h.bk _ _ hn).2]⟩
 ·exact h.bk k l' e
theorem MemP.bank {W : World} {F : Nat -> Prop} {b : Nat} {m : MS} {mb : Nat} {L : List (Nat × Nat)} {tv : Value} (h : MemP W F b m mb L tv) (n g : Nat) (l : List UInt8) (i : Nat) (x : UInt8) (hg : (n, g) ∈ L) (hn : m.banks n = some l) :
  MemP (W.setCell ⟨g, i, none⟩ (.int .u8 (bt x))) F b { m with banks := upd m.banks n (l.set i x) } mb L tv := by
 have hk : Bk W g l := by obtain ⟨l', e1, e2⟩ := h.bks _ hg; rw [hn] at e1; cases e1; exact e2
 refine ⟨h.wf.bank n i l x hn, (setCell_other _ _ _ _ _ (h.ne_bk _ hg).symm).trans h.blk, (setCell_other _ _ _ _ _ (h.ne_bk_map _ hg)).trans h.map, h.keys, h.lt16, h.blks, ?_, ?_,
  own_kept h.tones fun k e _ => setCell_other _ _ _ _ _ (h.ne_t_bk k e _ hg).symm, h.fb, h.fmb, h.fbk, h.ft⟩
 ·intro p hp
  obtain ⟨l', e1, e2⟩ := h.bks p hp
  by_cases e : p.1 = n
  ·have hpg : p = (n, g) := inj_on Prod.fst L h.keys _ hp _ hg e
   subst hpg; exact ⟨l.set i x, by simp [upd], by unfold Bk; rw [<- bv_set]; exact setCell_heap W _ _ _ 143 _ hk⟩
  ·have hne : p.2 ≠ g := by
    intro c; have := inj_on Prod.snd L h.blks p hp (n, g) hg c; subst this; exact e rfl
   exact ⟨l', by simp only [upd, e, if_false]; exact e1, (setCell_other _ _ _ _ _ hne).trans e2⟩
 ·intro k l' e
  simp only [upd] at e
  split at e
  ·next c => subst c; exact ⟨g, hg⟩
  ·exact h.all k l' e
theorem step_append_row {ops : Array Oper} {o : Oper} {a : Act} {w : World} {K : Act -> World -> Prop} {Q : Exit -> Act -> World -> Prop} {E : Prop} (hgd : o.guard = none) (s x : Operand) (t e : TypeId) (z : Value) (size bytes : Nat)
  (ht : Tryz.prog.underlying t = some (.slice e)) (hinf : (Tryz.prog.info? e).map (fun i => (i.zero, i.size, i.bytes)) = some (some z, size, bytes)) (hzs : z.cells.size = size) (hsz : 0 < size)
  (ho : o.op = .call { callee := .builtin .append, args := #[s, x], argTypes := #[t, t] }) (B : Nat) (v : Value) (n : Nat) (xs : List Value) (hs : a.eval s = v) (hown : w.ownsRow B e size v n xs)
  (u : Value) (m : Nat) (news : List Value) (hx : a.eval x = u) (hp : Cs w u size m news) (hb : (n + m) * bytes <= room) (hb2 : n + m <= maxLen) (hB : B <= w.heap.size)
  (h : ∀ v' w', w'.ownsRow B e size v' (n + m) (xs ++ news) -> Grew w w' v v' -> K (a.put o.dst v') w') :
  if Region.wanted o (yielded ops a.tmps) = true then Oper.wp Tryz.prog o a w K Q else E := by
 have hw : Region.wanted o (yielded ops a.tmps) = true := by simp [Region.wanted, hgd]
 rw [if_pos hw]
 exact wp_append_row w s x t e z size bytes ht hinf hzs hsz ho B v n xs hs hown u m news hx hp hb hb2 hB h
theorem info90 : (Tryz.prog.info? 66).map (fun i => (i.zero, i.size, i.bytes)) = some (some (.agg #[.int .i64 0, .int .u16 0, .int .u8 0]), 3, 16) := by kernel_rfl
def Done (w w' : World) (F : Nat -> Prop) (b : Nat) (m' : MS) : Prop := HasM w' (gr F w w') b m' /\ Tc F w w'
theorem Done.same {w : World} {F : Nat -> Prop} {b : Nat} {m : MS} (h : HasM w F b m) (q : Nat) : Done w (w.drewN q) F b m :=
 ⟨(h.drew q).mono fun i _ f => .inl f, ⟨rfl, rfl, rfl, Nat.le_refl _, fun _ _ _ => rfl⟩⟩
theorem MemP.drew {W : World} {F : Nat -> Prop} {b : Nat} {m : MS} {mb : Nat} {L : List (Nat × Nat)} {tv : Value} (h : MemP W F b m mb L tv) (q : Nat) : MemP (W.drewN q) F b m mb L tv := h.kept fun _ _ _ => rfl
theorem Done.set {w : World} {F : Nat -> Prop} {b : Nat} {m' : MS} {mb : Nat} {L : List (Nat × Nat)} {tv : Value} (q g i : Nat) (v : Value) (hg : F g) (h : MemP ((w.drewN q).setCell ⟨g, i, none⟩ v) F b m' mb L tv) : Done w ((w.drewN q).setCell ⟨g, i, none⟩ v) F b m' :=
 ⟨⟨mb, L, tv, h.mono fun i _ f => .inl f⟩, ⟨rfl, rfl, rfl, by rw [setCell_size]; exact Nat.le_refl _, fun k hk hn => setCell_other _ _ _ _ _ (by rintro rfl; exact hn hg)⟩⟩
set_option maxHeartbeats 1000000
set_option maxRecDepth 100000
theorem setPort_none (b : Nat) (z : Int) (x : UInt8) (w : World) (a0 : z ≠ 65280) (a1 : z ≠ 65284) (a2 : z ≠ 65285) (a3 : z ≠ 65286) :
  Calls Tryz.prog 102 #[.pointer (some ⟨b, 0, none⟩), .int .u16 z, .int .u8 (bt x)] w fun e w' => e = .returned (.tuple #[]) /\ w' = w := by
 have f0 : (z == 65280) = false := by simpa using a0
 have f1 : (z == 65284) = false := by simpa using a1
 have f2 : (z == 65285) = false := by simpa using a2
 have f3 : (z == 65286) = false := by simpa using a3
 go_enter Tryz.func102, Tryz.ntmps102
 go_wp2
 go_end0
 exact ⟨rfl, rfl⟩
theorem Wf.regs {m m' : MS} (h : Wf m) (e1 : m'.ram = m.ram) (e2 : m'.scr = m.scr) (e3 : m'.banks = m.banks) (a0 : 0 <= m'.ch) (a1 : m'.ch < 16) (b0 : 0 <= m'.pad) (b1 : m'.pad < 256) (c0 : 0 <= m'.pitch) (c1 : m'.pitch < 65536) (d0 : 0 <= m'.vol) (d1 : m'.vol < 256) (f0 : 0 <= m'.time) (f1 : m'.time < 65536) : Wf m' :=
 ⟨by rw [e1]; exact h.ram, by rw [e2]; exact h.scr, a0, a1, b0, b1, c0, c1, d0, d1, f0, f1, by rw [e3]; exact h.bk⟩
theorem setPort_ch (b : Nat) (x : UInt8) (w : World) {F : Nat -> Prop} {m : MS} (hm : HasM w F b m) :
  Calls Tryz.prog 102 #[.pointer (some ⟨b, 0, none⟩), .int .u16 65280, .int .u8 (bt x)] w fun e w' => e = .returned (.tuple #[]) /\ Done w w' F b (stp m 65280 x) := by
 obtain ⟨mb, L, tv, hm⟩ := hm
 have c2 := cell_of w b (19457 + 0) _ 146 _ hm.blk ((mcells_reg mb m tv hm.wf 0).trans rfl)
 have z2 := frozen_of w b (19457 + 0) _ 146 hm.blk
 simp only [Nat.add_zero] at c2 z2
 have hb := bt_bound x
 go_enter Tryz.func102, Tryz.ntmps102
 go_wp2
 go_end0
 refine ⟨rfl, ?_⟩
 have hw := hm.wf
 have e : stp m 65280 x = { m with ch := bt x % 16 } := by simp [stp]
 rw [e]
 refine Done.set 0 b (19457 + 0) (.int .u8 (bt x % 16)) hm.fb ((hm.drew 0).reg 0 _ _ (hw.regs rfl rfl rfl ?_ ?_ hw.pad0 hw.pad1 hw.pitch0 hw.pitch1 hw.vol0 hw.vol1 hw.time0 hw.time1) rfl rfl rfl rfl rfl) <;> simp only <;> omega
theorem setPort_lo (b : Nat) (x : UInt8) (w : World) {F : Nat -> Prop} {m : MS} (hm : HasM w F b m) :
  Calls Tryz.prog 102 #[.pointer (some ⟨b, 0, none⟩), .int .u16 65284, .int .u8 (bt x)] w fun e w' => e = .returned (.tuple #[]) /\ Done w w' F b (stp m 65284 x) := by
 obtain ⟨mb, L, tv, hm⟩ := hm
 have c2 := cell_of w b (19457 + 2) _ 146 _ hm.blk ((mcells_reg mb m tv hm.wf 2).trans rfl)
 have z2 := frozen_of w b (19457 + 2) _ 146 hm.blk
 simp only [Nat.reduceAdd] at c2 z2
 have hb := bt_bound x
 have hp0 := hm.wf.pitch0
 have hp1 := hm.wf.pitch1
 have e1 : IntKind.u16.wrap (bt x) = bt x := by rw [u16_wrap]; omega
 have e2 := set_lo m.pitch (bt x) hp0 hp1 hb.1 hb.2
 go_enter Tryz.func102, Tryz.ntmps102
 go_wp2
 go_end0
 refine ⟨rfl, ?_⟩
 have hw := hm.wf
 have e : stp m 65284 x = { m with pitch := m.pitch / 256 * 256 + bt x } := by simp [stp]
 rw [e]
 refine Done.set 0 b (19457 + 2) (.int .u16 (m.pitch / 256 * 256 + bt x)) hm.fb ((hm.drew 0).reg 2 _ _ (hw.regs rfl rfl rfl hw.ch0 hw.ch1 hw.pad0 hw.pad1 ?_ ?_ hw.vol0 hw.vol1 hw.time0 hw.time1) rfl rfl rfl rfl rfl) <;> simp only <;> omega
theorem setPort_hi (b : Nat) (x : UInt8) (w : World) {F : Nat -> Prop} {m : MS} (hm : HasM w F b m) :
  Calls Tryz.prog 102 #[.pointer (some ⟨b, 0, none⟩), .int .u16 65285, .int .u8 (bt x)] w fun e w' => e = .returned (.tuple #[]) /\ Done w w' F b (stp m 65285 x) := by
 obtain ⟨mb, L, tv, hm⟩ := hm
 have c2 := cell_of w b (19457 + 2) _ 146 _ hm.blk ((mcells_reg mb m tv hm.wf 2).trans rfl)
 have z2 := frozen_of w b (19457 + 2) _ 146 hm.blk
 simp only [Nat.reduceAdd] at c2 z2
 have hb := bt_bound x
 have hp0 := hm.wf.pitch0
 have hp1 := hm.wf.pitch1
 have e1 : IntKind.u16.wrap (bt x) = bt x := by rw [u16_wrap]; omega
 have e2 := set_hi m.pitch (bt x) hp0 hp1 hb.1 hb.2
 go_enter Tryz.func102, Tryz.ntmps102
 go_wp2
 go_end0
 refine ⟨rfl, ?_⟩
 have hw := hm.wf
 have e : stp m 65285 x = { m with pitch := m.pitch % 256 + 256 * bt x } := by simp [stp]
 rw [e]
 refine Done.set 0 b (19457 + 2) (.int .u16 (m.pitch % 256 + 256 * bt x)) hm.fb ((hm.drew 0).reg 2 _ _ (hw.regs rfl rfl rfl hw.ch0 hw.ch1 hw.pad0 hw.pad1 ?_ ?_ hw.vol0 hw.vol1 hw.time0 hw.time1) rfl rfl rfl rfl rfl) <;> simp only <;> omega
theorem MemP.tone {W W1 W2 : World} {F : Nat -> Prop} {b : Nat} {m : MS} {mb : Nat} {L : List (Nat × Nat)} {tv tv' : Value} (h : MemP W F b m mb L tv) (hb : Below W.heap.size W W1) (hg : Grew W1 W2 tv tv') (t : Int × Int × Int)
  (ho : W2.ownsRow 0 66 3 tv' (m.tones.length + 1) (tc m.tones ++ tcell t)) :
  MemP (W2.setCell ⟨b, 19463, none⟩ tv') (gr F W W2) b { m with tones := m.tones ++ [t] } mb L tv' /\ Tc F W (W2.setCell ⟨b, 19463, none⟩ tv') := by
 have k2 : ∀ k, k < W.heap.size -> some k ≠ tv.ownBlock -> W2.heap[k]? = W.heap[k]? := fun k hk hn => (hg.block k (Nat.lt_of_lt_of_le hk hb.size) hn).trans (hb.block k hk)
 have nt : ∀ k, k < W.heap.size -> (∀ g, tv.ownBlock = some g -> k ≠ g) -> some k ≠ tv.ownBlock := fun k _ hn e => hn k e.symm rfl
 have hwf : Wf { m with tones := m.tones ++ [t] } := ⟨h.wf.ram, h.wf.scr, h.wf.ch0, h.wf.ch1, h.wf.pad0, h.wf.pad1, h.wf.pitch0, h.wf.pitch1, h.wf.vol0, h.wf.vol1, h.wf.time0, h.wf.time1, h.wf.bk⟩
 have blk2 : W2.heap[b]? = some (.cells (mcells mb m tv).toArray 146 (0, 0)) := (k2 b (lt_of h.blk) (nt b (lt_of h.blk) fun g e c => h.ne_t g e c.symm)).trans h.blk
 have hne : ∀ g, tv'.ownBlock = some g -> g ≠ b := by
  intro g e c; subst c; obtain ⟨cur, e2⟩ := own_block ho g e; rw [blk2] at e2; simp at e2
 refine ⟨⟨hwf, ?_, ?_, h.keys, h.lt16, h.blks, ?_, h.all, ?_, .inl h.fb, .inl h.fmb, fun p hp => .inl (h.fbk p hp), ?_⟩, ?_⟩
 ·rw [setCell_heap W2 b 19463 _ 146 tv' blk2]
  have := mcells_set_reg mb m tv h.wf 6 tv'; rw [show (19463 : Nat) = 19457 + 6 from rfl, this]
  rfl
 ·exact (setCell_other _ _ _ _ _ h.ne_map).trans ((k2 mb (lt_of h.map) (nt mb (lt_of h.map) fun g e c => h.ne_t_map g e c)).trans h.map)
 ·intro p hp
  obtain ⟨l, e1, e2⟩ := h.bks p hp; exact ⟨l, e1, (setCell_other _ _ _ _ _ (h.ne_bk p hp)).trans ((k2 p.2 (lt_of e2) (nt p.2 (lt_of e2) fun g e c => h.ne_t_bk g e p hp c)).trans e2)⟩
 ·refine own_kept ?_ fun g e _ => setCell_other _ _ _ _ _ (hne g e)
  rw [tc_append]
  simpa [tc] using ho
 ·intro g e
  rcases hg.own with c | c
  ·exact .inl (h.ft g (c ▸ e))
  ·refine .inr ⟨Nat.le_trans hb.size (c g e), ?_⟩
   exact (ho.lt g e).2
 ·refine ⟨hg.os.trans hb.os, hg.tape.trans hb.tape, hg.output.trans hb.output, by rw [setCell_size]; exact Nat.le_trans hb.size hg.size, fun k hk hn => ?_⟩
  refine (setCell_other _ _ _ _ _ (by rintro rfl; exact hn h.fb)).trans (k2 k hk ?_); intro e; exact hn (h.ft k e.symm)
set_option maxHeartbeats 1000000
set_option maxRecDepth 100000
theorem setPort_play (b : Nat) (x : UInt8) (w : World) {F : Nat -> Prop} {m : MS} (hm : HasM w F b m) (ht : m.tones.length <= 1000000) :
  Calls Tryz.prog 102 #[.pointer (some ⟨b, 0, none⟩), .int .u16 65286, .int .u8 (bt x)] w fun e w' => e = .returned (.tuple #[]) /\ Done w w' F b (stp m 65286 x) := by
 obtain ⟨mb, L, tv, hm⟩ := hm
 have c2 := cell_of w b (19457 + 3) _ 146 _ hm.blk ((mcells_reg mb m tv hm.wf 3).trans rfl)
 have z2 := frozen_of w b (19457 + 3) _ 146 hm.blk
 simp only [Nat.reduceAdd] at c2 z2
 have hb := bt_bound x
 have hw := hm.wf
 have h1 : MemP (w.setCell ⟨b, 19457 + 3, none⟩ (.int .u8 (bt x))) F b { m with vol := bt x } mb L tv := hm.reg 3 _ _ (hw.regs rfl rfl rfl hw.ch0 hw.ch1 hw.pad0 hw.pad1 hw.pitch0 hw.pitch1 hb.1 hb.2 hw.time0 hw.time1) rfl rfl rfl rfl rfl
 obtain ⟨w1, hw1⟩ : ∃ w1, w1 = w.setCell ⟨b, 19460, none⟩ (.int .u8 (bt x)) := ⟨_, rfl⟩
 have t1 : Tc F w w1 := by rw [hw1]; exact (Tc.refl F w).setCell b _ hm.fb _
 simp only [Nat.reduceAdd, <- hw1] at h1
 have d2 := cell_of w1 b (19457 + 2) _ 146 _ h1.blk ((mcells_reg mb _ tv h1.wf 2).trans rfl)
 have d5 := cell_of w1 b (19457 + 5) _ 146 _ h1.blk ((mcells_reg mb _ tv h1.wf 5).trans rfl)
 have d6 := cell_of w1 b (19457 + 6) _ 146 _ h1.blk ((mcells_reg mb _ tv h1.wf 6).trans rfl)
 have z6 := frozen_of w1 b (19457 + 6) _ 146 h1.blk
 simp only [Nat.reduceAdd] at d2 d5 d6 z6
 go_enter Tryz.func102, Tryz.ntmps102
 go_wp2_with fail
 rw [<- hw1]
 clear c2 z2
 obtain ⟨W1, hW1⟩ : ∃ W1, W1 = w1.drew.alloc (.cells #[.int .i64 m.cyc, .int .u16 m.pitch, .int .u8 (bt x)] 66) := ⟨_, rfl⟩
 have hbl : Below w1.heap.size w1 W1 := by rw [hW1]; exact ((Below.refl w1.heap.size w1).drew).alloc (Nat.le_refl _) _
 have hown : (w1.drew.alloc (.cells #[.int .i64 m.cyc, .int .u16 m.pitch, .int .u8 (bt x)] 66)).ownsRow 0 66 3 tv m.tones.length (tc m.tones) := by
  rw [<- hW1]; exact own_kept h1.tones fun g _ hg => hbl.block g hg
 have hcs : Cs (w1.drew.alloc (.cells #[.int .i64 m.cyc, .int .u16 m.pitch, .int .u8 (bt x)] 66)) (.slice (some ⟨w1.heap.size, 0, none⟩) 1 1) 3 1 (tcell (m.cyc, m.pitch, bt x)) := by
  refine .inr ⟨⟨w1.heap.size, 0, none⟩, 1, rfl, rfl, ?_, tc_one [(m.cyc, m.pitch, bt x)]⟩; intro j v hj; have hn : (w1.drew.alloc (.cells #[.int .i64 m.cyc, .int .u16 m.pitch, .int .u8 (bt x)] 66)).heap[w1.heap.size]? = some (.cells (tcell (m.cyc, m.pitch, bt x)).toArray 66 (0, 0)) := heap_alloc_new w1.drew _; have e : (⟨w1.heap.size, 0, none⟩ : Addr).add j = ⟨w1.heap.size, j, none⟩ := by unfold Addr.add; split <;> simp_all
  rw [e]; exact cell_of _ _ _ _ 66 v hn hj
 have b1 : (m.tones.length + 1) * 16 <= room := by unfold room; omega
 have b2 : m.tones.length + 1 <= maxLen := by unfold maxLen; omega
 have hne : ∀ g, tv.ownBlock = some g -> g ≠ b := fun g e => h1.ne_t g e
 have hend : ∀ v' w2, w2.ownsRow 0 66 3 v' (m.tones.length + 1) (tc m.tones ++ tcell (m.cyc, m.pitch, bt x)) -> Grew (w1.drew.alloc (.cells #[.int .i64 m.cyc, .int .u16 m.pitch, .int .u8 (bt x)] 66)) w2 tv v' ->
   w2.cell? ⟨b, 19463, none⟩ = some tv /\ w2.frozen? ⟨b, 19463, none⟩ = false /\ Done w (w2.setCell ⟨b, 19463, none⟩ v') F b (stp m 65286 x) := by
  intro v' w2 ho hg; rw [<- hW1] at hg; have hk : w2.heap[b]? = w1.heap[b]? := (hg.block b (Nat.lt_of_lt_of_le (lt_of h1.blk) hbl.size) (fun e => hne b e.symm rfl)).trans (hbl.block b (lt_of h1.blk)); refine ⟨(World.cell?_of_block (w := w1) hk).trans d6, (World.frozen?_of_block (w := w1) hk).trans z6, ?_⟩; obtain ⟨hM, hT⟩ := h1.tone hbl hg (m.cyc, m.pitch, bt x) ho; have e : stp m 65286 x = { m with vol := bt x, tones := m.tones ++ [(m.cyc, m.pitch, bt x)] } := by simp [stp]
  rw [e]; refine ⟨⟨_, _, _, hM.mono ?_⟩, t1.trans hT (fun _ f => f) (fun _ _ f => f)⟩; intro i hi g
  rcases g with g | ⟨g1, g2⟩
  ·exact .inl g
  ·refine .inr ⟨Nat.le_trans t1.size g1, hi⟩
 have d6a : (w1.alloc (.cells #[.int .i64 m.cyc, .int .u16 m.pitch, .int .u8 (bt x)] 66)).cell? ⟨b, 19463, none⟩ = some tv := (World.cell?_of_block (w := w1) (Below.heap_alloc w1 _ b (lt_of h1.blk))).trans d6
 clear hW1 hw1 hbl hne h1 t1 hw hm
 go_region_law
  (refine step_append_row rfl (.tmp 51) (.tmp 62) 37 66 (.agg #[.int .i64 0, .int .u16 0, .int .u8 0]) 3 16 Tryz.underlying37 info90 rfl (by decide) rfl 0 tv m.tones.length (tc m.tones) (by simp [Act.eval]) hown (.slice (some ⟨w1.heap.size, 0, none⟩) 1 1) 1 (tcell (m.cyc, m.pitch, bt x)) (by simp [Act.eval]) hcs b1 b2 (Nat.zero_le _) ?_; intro v' w2 ho hg; obtain ⟨g9, cap9, rfl⟩ := own_pos ho (Nat.succ_pos m.tones.length); obtain ⟨f6, g6, hD⟩ := hend (.slice (some ⟨g9, 0, none⟩) (m.tones.length + 1) cap9) w2 ho hg; clear hend)
 all_goals
  go_wp2
  go_end0
  exact ⟨rfl, hD⟩
def b8 (z : Int) : UInt8 := UInt8.ofNat (z % 256).toNat
theorem bt_b8 (z : Int) : bt (b8 z) = z % 256 := by
 unfold bt b8
 rw [UInt8.toNat_ofNat']
 have : (z % 256).toNat % 2 ^ 8 = (z % 256).toNat := Nat.mod_eq_of_lt (by omega)
 rw [this]; omega
theorem Done.next {w w1 w2 : World} {F : Nat -> Prop} {b : Nat} {m1 m2 : MS} (h1 : Done w w1 F b m1) (h2 : Done w1 w2 (gr F w w1) b m2) : Done w w2 F b m2 := by
 refine ⟨h2.1.mono ?_, h1.2.trans h2.2 (fun _ f => f) ?_⟩
 ·rintro i hi ((f | ⟨a, c⟩) | ⟨a, c⟩)
  ·exact .inl f
  ·exact .inr ⟨a, hi⟩
  ·exact .inr ⟨Nat.le_trans h1.2.size a, c⟩
 ·rintro i hi (f | ⟨a, c⟩)
  ·exact f
  ·omega
theorem HasM.wf {W : World} {F : Nat -> Prop} {b : Nat} {m : MS} (h : HasM W F b m) : Wf m := by obtain ⟨_, _, _, h⟩ := h; exact h.wf
theorem Done.has {w w' : World} {F : Nat -> Prop} {b : Nat} {m : MS} (h : Done w w' F b m) : HasM w' (gr F w w') b m := h.1
set_option maxHeartbeats 1000000
set_option maxRecDepth 100000
def R (e : Ending) (w w' : World) (F : Nat -> Prop) (b : Nat) (m' : MS) : Prop := e = .returned (.tuple #[]) /\ Done w w' F b m'
theorem store_room (b : Nat) (z : Int) (x : UInt8) (g i : Nat) (u : Value) (w : World)
  (hr : Calls Tryz.prog 101 #[.pointer (some ⟨b, 0, none⟩), .int .u16 z] w fun e w' => e = .returned (.pointer (some ⟨g, i, none⟩)) /\ ∃ q, w' = w.drewN q) (hc : w.cell? ⟨g, i, none⟩ = some u) (hf : w.frozen? ⟨g, i, none⟩ = false) :
  Calls Tryz.prog 69 #[.pointer (some ⟨b, 0, none⟩), .int .u16 z, .int .u8 (bt x)] w fun e w' => e = .returned (.tuple #[]) /\ ∃ q, w' = (w.drewN q).setCell ⟨g, i, none⟩ (.int .u8 (bt x)) := by
 go_enter Tryz.func69, Tryz.ntmps69
 go_wp2_with fail
 refine hr.mono ?_
 rintro e w1 ⟨rfl, q, rfl⟩
 have hc2 : (w.drewN q).cell? ⟨g, i, none⟩ = some u := hc
 have hf2 : (w.drewN q).frozen? ⟨g, i, none⟩ = false := hf
 go_wp2
 (try simp only [Exit.inBlock, Exit.then])
 refine bodyPost_ret (results_none rfl _ _ _) rfl ?_
 exact ⟨rfl, q, rfl⟩
theorem store_port (b : Nat) (z : Int) (x : UInt8) (w : World) (Post : World -> Prop)
  (hr : Calls Tryz.prog 101 #[.pointer (some ⟨b, 0, none⟩), .int .u16 z] w fun e w' => e = .returned (.pointer none) /\ ∃ q, w' = w.drewN q)
  (hp : ∀ q, Calls Tryz.prog 102 #[.pointer (some ⟨b, 0, none⟩), .int .u16 z, .int .u8 (bt x)] (w.drewN q) fun e w' => e = .returned (.tuple #[]) /\ Post w') :
  Calls Tryz.prog 69 #[.pointer (some ⟨b, 0, none⟩), .int .u16 z, .int .u8 (bt x)] w fun e w' => e = .returned (.tuple #[]) /\ Post w' := by
 go_enter Tryz.func69, Tryz.ntmps69
 go_wp2_with fail
 refine hr.mono ?_
 rintro e w1 ⟨rfl, q, rfl⟩
 have hp2 := hp q
 go_wp2_with fail
 refine hp2.mono ?_
 rintro e w1 ⟨rfl, hP⟩
 go_wp2
 go_end0
 exact ⟨rfl, hP⟩
theorem Done.drewn {w w' : World} {F : Nat -> Prop} {b : Nat} {m : MS} (q : Nat) (h : Done (w.drewN q) w' F b m) : Done w w' F b m := ⟨h.1, h.2.os, h.2.tape, h.2.output, h.2.size, h.2.block⟩
theorem stp_low (m : MS) (z : Int) (x : UInt8) (h : z < 65280) : stp m z x = m := by
 unfold stp; simp [show z ≠ 65280 by omega, show z ≠ 65284 by omega, show z ≠ 65285 by omega, show z ≠ 65286 by omega]
theorem setPort_any (b : Nat) (z : Int) (x : UInt8) (w : World) {F : Nat -> Prop} {m : MS} (hm : HasM w F b m) (ht : m.tones.length <= 1000000) :
  Calls Tryz.prog 102 #[.pointer (some ⟨b, 0, none⟩), .int .u16 z, .int .u8 (bt x)] w fun e w' => e = .returned (.tuple #[]) /\ Done w w' F b (stp m z x) := by
 by_cases a0 : z = 65280
 ·subst a0; exact setPort_ch b x w hm
 by_cases a1 : z = 65284
 ·subst a1; exact setPort_lo b x w hm
 by_cases a2 : z = 65285
 ·subst a2; exact setPort_hi b x w hm
 by_cases a3 : z = 65286
 ·subst a3; exact setPort_play b x w hm ht
 refine (setPort_none b z x w a0 a1 a2 a3).mono ?_
 rintro e w' ⟨rfl, rfl⟩
 have e : stp m z x = m := by unfold stp; simp [a0, a1, a2, a3]
 rw [e]
 exact ⟨rfl, Done.same hm 0⟩
theorem store_any (b : Nat) (z : Int) (h0 : 0 <= z) (h1 : z < 65536) (x : UInt8) (w : World) {F : Nat -> Prop} {m : MS} (hm : HasM w F b m) (ht : m.tones.length <= 1000000) :
  Calls Tryz.prog 69 #[.pointer (some ⟨b, 0, none⟩), .int .u16 z, .int .u8 (bt x)] w fun e w' => e = .returned (.tuple #[]) /\ Done w w' F b (st m z x) := by
 have hport : ∀ q, Calls Tryz.prog 102 #[.pointer (some ⟨b, 0, none⟩), .int .u16 z, .int .u8 (bt x)] (w.drewN q) fun e w' => e = .returned (.tuple #[]) /\ Done w w' F b (stp m z x) :=
  fun q => (setPort_any b z x (w.drewN q) (hm.drew q) ht).mono fun e w' h => ⟨h.1, h.2.drewn q⟩
 by_cases a1 : z < 16384
 ·have := store_port b z x w _ (room_low b z w a1) hport
  rw [stp_low m z x (by omega)] at this
  simpa only [st, a1, if_true] using this
 by_cases a2 : z < 32768
 ·obtain ⟨mb, L, tv, h⟩ := id hm
  have cb := cell_of w b 0 _ 146 _ h.blk (mcells_0 mb m tv); have cc := cell_of w b (19457 + 0) _ 146 _ h.blk ((mcells_reg mb m tv h.wf 0).trans rfl); have e : m.ch = (m.ch.toNat : Int) := by have := h.wf.ch0; omega
  have hn : m.ch.toNat < 16 := by have := h.wf.ch1; have := h.wf.ch0; omega
  rw [e] at cc
  cases hb : m.banks m.ch.toNat with
  | none =>
   have := store_port b z x w _ (room_nobank b mb m.ch.toNat L z w (by omega) a2 hn cb cc h.map (by rintro p hp e; obtain ⟨l, e2, _⟩ := h.bks p hp; rw [e, hb] at e2; cases e2)) hport; rw [stp_low m z x (by omega)] at this
   simpa only [st, a1, a2, if_true, if_false, hb] using this
  | some l =>
   obtain ⟨g, hg⟩ := h.all _ _ hb; obtain ⟨l', e2, hk⟩ := h.bks _ hg; rw [hb] at e2; cases e2; have hl := (h.wf.bk _ _ hb).2; refine (store_room b z x g _ _ w (room_bank b mb m.ch.toNat g L z w (by omega) a2 hn cb cc h.map h.keys hg) (cell_of w g _ _ 143 _ hk ((bv_get l _ _).2 ⟨_, lb_of l (z - 16384).toNat (by omega), rfl⟩)) (frozen_of w g _ _ 143 hk)).mono ?_; rintro e w' ⟨rfl, q, rfl⟩; have e9 : st m z x = { m with banks := upd m.banks m.ch.toNat (l.set (z - 16384).toNat x) } := by simp only [st, a1, a2, if_true, if_false, hb]
   rw [e9]; exact ⟨rfl, Done.set q g _ _ (h.fbk _ hg) ((h.drew q).bank m.ch.toNat g l _ x hg hb)⟩
 by_cases a3 : z < 49152
 ·obtain ⟨mb, L, tv, h⟩ := id hm
  refine (store_room b z x b _ _ w (room_ram b z w (by omega) a3) (cell_of w b _ _ 146 _ h.blk (mcells_ram mb m tv h.wf _ _ (lb_of m.ram (z - 32768).toNat (by rw [h.wf.ram]; omega)))) (frozen_of w b _ _ 146 h.blk)).mono ?_; rintro e w' ⟨rfl, q, rfl⟩; have e9 : st m z x = { m with ram := m.ram.set (z - 32768).toNat x } := by simp only [st, a1, a2, a3, if_true, if_false]
  rw [e9]; have hw := h.wf; exact ⟨rfl, Done.set q b _ _ h.fb ((h.drew q).set _ _ _ ⟨by simp [hw.ram], hw.scr, hw.ch0, hw.ch1, hw.pad0, hw.pad1, hw.pitch0, hw.pitch1, hw.vol0, hw.vol1, hw.time0, hw.time1, hw.bk⟩ (mcells_set_ram mb m tv hw _ (by omega) x) rfl rfl)⟩
 by_cases a4 : z < 52224
 ·obtain ⟨mb, L, tv, h⟩ := id hm
  refine (store_room b z x b _ _ w (room_scr b z w (by omega) a4) (cell_of w b _ _ 146 _ h.blk (mcells_scr mb m tv h.wf _ _ (lb_of m.scr (z - 49152).toNat (by rw [h.wf.scr]; omega)))) (frozen_of w b _ _ 146 h.blk)).mono ?_; rintro e w' ⟨rfl, q, rfl⟩; have e9 : st m z x = { m with scr := m.scr.set (z - 49152).toNat x } := by simp only [st, a1, a2, a3, a4, if_true, if_false]
  rw [e9]; have hw := h.wf; exact ⟨rfl, Done.set q b _ _ h.fb ((h.drew q).set _ _ _ ⟨hw.ram, by simp [hw.scr], hw.ch0, hw.ch1, hw.pad0, hw.pad1, hw.pitch0, hw.pitch1, hw.vol0, hw.vol1, hw.time0, hw.time1, hw.bk⟩ (mcells_set_scr mb m tv hw _ (by omega) x) rfl rfl)⟩
 have := store_port b z x w _ (room_high b z w (by omega)) hport
 simpa only [st, a1, a2, a3, a4, if_false] using this
theorem st_tones (m : MS) (z : Int) (x : UInt8) : (st m z x).tones.length <= m.tones.length + 1 := by
 unfold st
 split
 ·omega
 split
 ·split <;> simp
 split
 ·simp
 split
 ·simp
 unfold stp
 repeat' split
 all_goals simp
def sc (m : MS) (z X : Int) : MS := st (st m z (b8 X)) ((z + 1) % 65536) (b8 (X / 256))
theorem setCell_any (b : Nat) (z : Int) (h0 : 0 <= z) (h1 : z < 65536) (X : Int) (x0 : 0 <= X) (x1 : X < 65536) (w : World) {F : Nat -> Prop} {m : MS} (hm : HasM w F b m) (ht : m.tones.length <= 999999) :
  Calls Tryz.prog 144 #[.pointer (some ⟨b, 0, none⟩), .int .u16 z, .int .u16 X] w fun e w' => e = .returned (.tuple #[]) /\ Done w w' F b (sc m z X) := by
 have hs := store_any b z h0 h1 (b8 X) w hm (by omega)
 have e1 : IntKind.u8.wrap X = bt (b8 X) := by rw [u8_wrap, bt_b8]
 have e2 := u16_wrap (z + 1)
 unfold sc
 obtain ⟨y, hy⟩ : ∃ y, y = b8 (X / 256) := ⟨_, rfl⟩
 rw [<- hy]
 have e3 : IntKind.u8.wrap (X / 256) = bt y := by rw [u8_wrap, hy, bt_b8]
 have e4 : X / 256 = bt y := by rw [hy, bt_b8]; omega
 clear hy
 go_enter Tryz.func144, Tryz.ntmps144
 go_wp2_with fail
 refine hs.mono ?_
 rintro e w1 ⟨rfl, hD⟩
 have ht2 := st_tones m z (b8 X)
 have hs2 := store_any b ((z + 1) % 65536) (by omega) (by omega) y w1 hD.has (by omega)
 go_wp2_with fail
 refine hs2.mono ?_
 rintro e w2 ⟨rfl, hD2⟩
 go_wp2
 go_end0
 exact ⟨rfl, hD.next hD2⟩
theorem choose_any (b : Nat) (X : Int) (w : World) {F : Nat -> Prop} {m : MS} (hm : HasM w F b m) (ht : m.tones.length <= 1000000) :
  Calls Tryz.prog 158 #[.pointer (some ⟨b, 0, none⟩), .int .u16 X] w fun e w' => e = .returned (.tuple #[]) /\ Done w w' F b (st m 65280 (b8 X)) := by
 have hs := store_any b 65280 (by omega) (by omega) (b8 X) w hm ht
 have e1 : IntKind.u8.wrap X = bt (b8 X) := by rw [u8_wrap, bt_b8]
 go_enter Tryz.func158, Tryz.ntmps158
 go_wp2_with fail
 refine hs.mono ?_
 rintro e w1 ⟨rfl, hD⟩
 go_wp2
 go_end0
 exact ⟨rfl, hD⟩
theorem play_any (b : Nat) (X : Int) (x0 : 0 <= X) (x1 : X < 65536) (v : UInt8) (w : World) {F : Nat -> Prop} {m : MS} (hm : HasM w F b m) (ht : m.tones.length <= 999990) :
  Calls Tryz.prog 156 #[.pointer (some ⟨b, 0, none⟩), .int .u16 X, .int .u8 (bt v)] w fun e w' => e = .returned (.tuple #[]) /\ Done w w' F b (st (sc m 65284 X) 65286 v) := by
 have hs := setCell_any b 65284 (by omega) (by omega) X x0 x1 w hm (by omega)
 have t1 := st_tones m 65284 (b8 X)
 have t2 := st_tones (st m 65284 (b8 X)) ((65284 + 1) % 65536) (b8 (X / 256))
 go_enter Tryz.func156, Tryz.ntmps156
 go_wp2_with fail
 refine hs.mono ?_
 rintro e w1 ⟨rfl, hD⟩
 have hs2 := store_any b 65286 (by omega) (by omega) v w1 hD.has (by unfold sc; omega)
 go_wp2_with fail
 refine hs2.mono ?_
 rintro e w2 ⟨rfl, hD2⟩
 go_wp2
 go_end0
 exact ⟨rfl, hD.next hD2⟩
def plt (m : MS) (X Y C : Int) : MS := if X < 64 /\ Y < 48 then st m (49152 + 64 * Y + X) (b8 C) else m
theorem plot_any (b : Nat) (X Y C : Int) (x0 : 0 <= X) (x1 : X < 65536) (y0 : 0 <= Y) (y1 : Y < 65536) (w : World) {F : Nat -> Prop} {m : MS} (hm : HasM w F b m) (ht : m.tones.length <= 1000000) :
  Calls Tryz.prog 152 #[.pointer (some ⟨b, 0, none⟩), .int .u16 X, .int .u16 Y, .int .u16 C] w fun e w' => e = .returned (.tuple #[]) /\ Done w w' F b (plt m X Y C) := by
 by_cases a1 : X < 64
 ·by_cases a2 : Y < 48
  ·have hs := store_any b (49152 + 64 * Y + X) (by omega) (by omega) (b8 C) w hm ht
   have e1 : IntKind.u8.wrap C = bt (b8 C) := by rw [u8_wrap, bt_b8]
   have ep : plt m X Y C = st m (49152 + 64 * Y + X) (b8 C) := by simp [plt, a1, a2]
   rw [ep]
   go_enter Tryz.func152, Tryz.ntmps152; go_wp2_with fail
   refine hs.mono ?_; rintro e w1 ⟨rfl, hD⟩; go_wp2
   go_end0
   exact ⟨rfl, hD⟩
  ·have ep : plt m X Y C = m := by simp [plt, a2]
   rw [ep]; have a3 : decide (Y < 48) = false := by simpa using a2
   go_enter Tryz.func152, Tryz.ntmps152; go_wp2
   go_end0
   exact ⟨rfl, Done.same hm 0⟩
 ·have ep : plt m X Y C = m := by simp [plt, a1]
  rw [ep]; have a3 : decide (X < 64) = false := by simpa using a1
  go_enter Tryz.func152, Tryz.ntmps152; go_wp2
  go_end0
  exact ⟨rfl, Done.same hm 0⟩
theorem MemP.clear {W : World} {F : Nat -> Prop} {b : Nat} {m : MS} {mb : Nat} {L : List (Nat × Nat)} {tv : Value} (h : MemP W F b m mb L tv) : MemP (W.setCell ⟨b, 19463, none⟩ (.slice none 0 0)) F b { m with tones := [] } mb L (.slice none 0 0) := by
 have hw := h.wf
 refine ⟨⟨hw.ram, hw.scr, hw.ch0, hw.ch1, hw.pad0, hw.pad1, hw.pitch0, hw.pitch1, hw.vol0, hw.vol1, hw.time0, hw.time1, hw.bk⟩, ?_, (setCell_other _ _ _ _ _ h.ne_map).trans h.map, h.keys, h.lt16, h.blks, ?_, h.all, World.ownsRow_nil _ _ _ _, h.fb, h.fmb, h.fbk, ?_⟩
 ·rw [setCell_heap W b 19463 _ 146 _ h.blk, show (19463 : Nat) = 19457 + 6 from rfl, mcells_set_reg mb m tv h.wf 6]; rfl
 ·intro p hp
  obtain ⟨l, e1, e2⟩ := h.bks p hp; exact ⟨l, e1, (setCell_other _ _ _ _ _ (h.ne_bk p hp)).trans e2⟩
 ·intro g e; simp [Value.ownBlock] at e
def bg (m : MS) (p : Int) : MS := { m with pad := p, time := (m.time + 1) % 65536, tones := [], cyc := 0 }
theorem begin_any (b : Nat) (x : UInt8) (w : World) {F : Nat -> Prop} {m : MS} (hm : HasM w F b m) :
  Calls Tryz.prog 20 #[.pointer (some ⟨b, 0, none⟩), .int .u8 (bt x)] w fun e w' => e = .returned (.tuple #[]) /\ Done w w' F b (bg m (bt x)) := by
 obtain ⟨mb, L, tv, hm⟩ := hm
 have hw := hm.wf
 have hb := bt_bound x
 have hf := hm.fb
 have k1 := hm.reg 1 (.int .u8 (bt x)) { m with pad := bt x } (hw.regs rfl rfl rfl hw.ch0 hw.ch1 hb.1 hb.2 hw.pitch0 hw.pitch1 hw.vol0 hw.vol1 hw.time0 hw.time1) rfl rfl rfl rfl rfl
 have c1 := cell_of w b (19457 + 1) _ 146 _ hm.blk ((mcells_reg mb m tv hw 1).trans rfl)
 have z1 := frozen_of w b (19457 + 1) _ 146 hm.blk
 simp only [Nat.reduceAdd] at k1 c1 z1
 have t0 := Tc.refl F w
 have t1 := t0.setCell b 19458 hf (.int .u8 (bt x))
 generalize hw1 : w.setCell ⟨b, 19458, none⟩ (.int .u8 (bt x)) = w1 at k1 t1
 have c2 := cell_of w1 b (19457 + 4) _ 146 _ k1.blk ((mcells_reg mb _ tv k1.wf 4).trans rfl)
 have z2 := frozen_of w1 b (19457 + 4) _ 146 k1.blk
 have e1 := u16_wrap (m.time + 1)
 have k2 := k1.reg 4 (.int .u16 ((m.time + 1) % 65536)) { m with pad := bt x, time := (m.time + 1) % 65536 } (hw.regs rfl rfl rfl hw.ch0 hw.ch1 hb.1 hb.2 hw.pitch0 hw.pitch1 hw.vol0 hw.vol1 (by simp only; omega) (by simp only; omega)) rfl rfl rfl rfl rfl
 simp only [Nat.reduceAdd] at k2 c2 z2
 have t2 := t1.setCell b 19461 hf (.int .u16 ((m.time + 1) % 65536))
 generalize hw2 : w1.setCell ⟨b, 19461, none⟩ (.int .u16 ((m.time + 1) % 65536)) = w2 at k2 t2
 have c3 := cell_of w2 b (19457 + 6) _ 146 _ k2.blk ((mcells_reg mb _ tv k2.wf 6).trans rfl)
 have z3 := frozen_of w2 b (19457 + 6) _ 146 k2.blk
 have k3 := k2.clear
 simp only [Nat.reduceAdd] at c3 z3
 have t3 := t2.setCell b 19463 hf (.slice none 0 0)
 generalize hw3 : w2.setCell ⟨b, 19463, none⟩ (.slice none 0 0) = w3 at k3 t3
 have c4 := cell_of w3 b (19457 + 5) _ 146 _ k3.blk ((mcells_reg mb _ _ k3.wf 5).trans rfl)
 have z4 := frozen_of w3 b (19457 + 5) _ 146 k3.blk
 have k4 := k3.reg 5 (.int .i64 0) (bg m (bt x)) (hw.regs rfl rfl rfl hw.ch0 hw.ch1 hb.1 hb.2 hw.pitch0 hw.pitch1 hw.vol0 hw.vol1 (by simp only [bg]; omega) (by simp only [bg]; omega)) rfl rfl rfl rfl rfl
 have t4 := t3.setCell b 19462 hf (.int .i64 0)
 simp only [Nat.reduceAdd] at c4 z4 k4
 have hfin : Done w (w3.setCell ⟨b, 19462, none⟩ (.int .i64 0)) F b (bg m (bt x)) := ⟨⟨_, _, _, k4.mono fun _ _ f => .inl f⟩, t4⟩
 clear k1 k2 k3 k4 t0 t1 t2 t3 t4 hm hw
 go_enter Tryz.func20, Tryz.ntmps20
 go_wp2
 go_end0
 exact ⟨rfl, hfin⟩
theorem at_any (b : Nat) (n : Int) (w : World) {F : Nat -> Prop} {m : MS} (hm : HasM w F b m) :
  Calls Tryz.prog 21 #[.pointer (some ⟨b, 0, none⟩), .int .i64 n] w fun e w' => e = .returned (.tuple #[]) /\ Done w w' F b { m with cyc := n } := by
 obtain ⟨mb, L, tv, hm⟩ := hm
 have hw := hm.wf
 have k1 := hm.reg 5 (.int .i64 n) { m with cyc := n } (hw.regs rfl rfl rfl hw.ch0 hw.ch1 hw.pad0 hw.pad1 hw.pitch0 hw.pitch1 hw.vol0 hw.vol1 hw.time0 hw.time1) rfl rfl rfl rfl rfl
 have c1 := cell_of w b (19457 + 5) _ 146 _ hm.blk ((mcells_reg mb m tv hw 5).trans rfl)
 have z1 := frozen_of w b (19457 + 5) _ 146 hm.blk
 simp only [Nat.reduceAdd] at k1 c1 z1
 have t1 := (Tc.refl F w).setCell b 19462 hm.fb (.int .i64 n)
 have hfin : Done w (w.setCell ⟨b, 19462, none⟩ (.int .i64 n)) F b { m with cyc := n } := ⟨⟨_, _, _, k1.mono fun _ _ f => .inl f⟩, t1⟩
 clear k1 t1 hm hw
 go_enter Tryz.func21, Tryz.ntmps21
 go_wp2
 go_end0
 exact ⟨rfl, hfin⟩
def m0 : MS := { ram := List.replicate 16384 0, scr := List.replicate 3072 0, ch := 0, pad := 0, pitch := 0, vol := 0, time := 0, cyc := 0, tones := [], banks := fun _ => none }
theorem m0_wf : Wf m0 := ⟨by simp only [m0, List.length_replicate], by simp only [m0, List.length_replicate], by decide, by decide, by decide, by decide, by decide, by decide, by decide, by decide, by decide, by decide, by intro n l h; cases h⟩
theorem nbq {i k : Nat} (h : i ≠ k) : Nat.beq i k = false := by rw [Bool.eq_false_iff]; intro c; exact h (Nat.eq_of_beq_eq_true c)
theorem fm_regs : ∀ j, j < 7 -> some (fm (19457 + j)) = (regs m0 (.slice none 0 0))[j]?
 | 0, _ => by kernel_rfl
 | 1, _ => by kernel_rfl
 | 2, _ => by kernel_rfl
 | 3, _ => by kernel_rfl
 | 4, _ => by kernel_rfl
 | 5, _ => by kernel_rfl
 | 6, _ => by kernel_rfl
 | n + 7, h => by omega
theorem zero_cells (mb : Nat) : zero86.set 0 (.map (some mb)) = mcells mb m0 (.slice none 0 0) := by
 apply List.ext_getElem?
 intro i
 by_cases h0 : i = 0
 ·subst h0
  rw [List.getElem?_set_self (by rw [zero86_len]; omega)]; exact (mcells_0 mb m0 _).symm
 rw [List.getElem?_set_ne (by omega)]
 by_cases h1 : i < 19464
 ·rw [zero86_get i h1]
  by_cases h2 : i < 16385
  ·have e := mcells_ram mb m0 (.slice none 0 0) m0_wf (i - 1) 0 (by simp only [m0]; rw [List.getElem?_replicate, if_pos (by omega)])
   rw [show 1 + (i - 1) = i by omega] at e; rw [e]; have b1 : Nat.beq i 0 = false := nbq (by omega); have b2 : Nat.ble 19463 i = false := by rw [Bool.eq_false_iff]; intro c; have := Nat.le_of_ble_eq_true c; omega
   have b3 : Nat.beq i 19462 = false := nbq (by omega); have b4 : Nat.beq i 19461 = false := nbq (by omega); have b5 : Nat.beq i 19459 = false := nbq (by omega); simp only [fm, b1, b2, b3, b4, b5, cond_false]
   rfl
  by_cases h3 : i < 19457
  ·have e := mcells_scr mb m0 (.slice none 0 0) m0_wf (i - 16385) 0 (by simp only [m0]; rw [List.getElem?_replicate, if_pos (by omega)])
   rw [show 16385 + (i - 16385) = i by omega] at e; rw [e]; have b1 : Nat.beq i 0 = false := nbq (by omega); have b2 : Nat.ble 19463 i = false := by rw [Bool.eq_false_iff]; intro c; have := Nat.le_of_ble_eq_true c; omega
   have b3 : Nat.beq i 19462 = false := nbq (by omega); have b4 : Nat.beq i 19461 = false := nbq (by omega); have b5 : Nat.beq i 19459 = false := nbq (by omega); simp only [fm, b1, b2, b3, b4, b5, cond_false]
   rfl
  ·have e := mcells_reg mb m0 (.slice none 0 0) m0_wf (i - 19457)
   rw [show 19457 + (i - 19457) = i by omega] at e; rw [e, <- fm_regs _ (by omega), show 19457 + (i - 19457) = i by omega]
 ·rw [List.getElem?_eq_none (by rw [zero86_len]; omega), List.getElem?_eq_none (by rw [mcells_len mb m0 _ m0_wf]; omega)]
theorem build86 (W : World) (mb : Nat) : (Instr.build 146 #[(0, .map (some mb))]).run Tryz.prog W = .ok (.agg (mcells mb m0 (.slice none 0 0)).toArray) W := by
 have hl : zero86.length = 19464 := zero86_len
 have e : Instr.fill ([(0, 1), (1, 16384), (16385, 3072), (19457, 1), (19458, 1), (19459, 1), (19460, 1), (19461, 1), (19462, 1), (19463, 1)][·]?) zero86.toArray [(0, .map (some mb))] = some (mcells mb m0 (.slice none 0 0)).toArray := by
  rw [<- zero_cells]
  simp [Instr.fill, Value.cells, hl]
 simp [Instr.build, zc86 W, Value.cells, run_underlying Tryz.underlying146, Tryz.sizeOf142, Tryz.sizeOf143, Tryz.sizeOf144, Tryz.sizeOf5, Tryz.sizeOf23, Tryz.sizeOf3, Tryz.sizeOf37, e]
def BnS (W : World) (p : Option Addr) (bs : List (Int × List UInt8)) : Prop := ∀ (i : Nat) (t : Int × List UInt8), bs[i]? = some t -> ∃ b o dv, p = some ⟨b, o, none⟩ /\ W.cell? ⟨b, o + i * 2, none⟩ = some (.int .i64 t.1) /\ W.cell? ⟨b, o + i * 2 + 1, none⟩ = some dv /\ Sl W dv t.2 /\ t.2.length <= room
theorem BnS.kept {W W' : World} {p : Option Addr} {bs : List (Int × List UInt8)} (h : BnS W p bs) (k : ∀ a u, W.cell? a = some u -> W'.cell? a = some u) : BnS W' p bs := by
 intro i t ht
 obtain ⟨b, o, dv, e1, e2, e3, e4, e5⟩ := h i t ht
 exact ⟨b, o, dv, e1, k _ _ e2, k _ _ e3, e4.kept fun a u e _ => k a u e, e5⟩
theorem BnS.below {W W' : World} {p : Option Addr} {bs : List (Int × List UInt8)} (h : BnS W p bs) (b : Below W.heap.size W W') : BnS W' p bs :=
 h.kept fun a u e => by rw [b.cell (World.block_lt_of_cell? W a e)]; exact e
def mayB : Int -> List (Int × List UInt8) -> Bool
 | _, [] => true
 | last, t :: r => if t.1 <= last \/ 16 <= t.1 \/ 16384 < t.2.length then false else mayB t.1 r
theorem mayB_take : ∀ (bs : List (Int × List UInt8)) (k : Nat) (last : Int), (∀ j t, j < k -> bs[j]? = some t -> (match j with | 0 => last | j + 1 => ((bs.getD j (0, [])).1)) < t.1 /\ t.1 < 16 /\ t.2.length <= 16384) -> k <= bs.length -> mayB last bs = mayB (match k with | 0 => last | k + 1 => (bs.getD k (0, [])).1) (bs.drop k)
 | [], k, last, h, hk => by simp at hk; subst hk; rfl
 | t :: r, 0, last, h, hk => rfl
 | t :: r, k + 1, last, h, hk => by
  have h0 := h 0 t (by omega) rfl; simp only at h0; have e : mayB last (t :: r) = mayB t.1 r := by simp [mayB]; omega
  rw [e, List.drop_succ_cons]
  have := mayB_take r k t.1 (fun j u hj hu => by
   have := h (j + 1) u (by omega) hu
   cases j with
   | zero => simpa using this
   | succ j => simpa using this) (by simpa using hk)
  rw [this]
  cases k with
  | zero => rfl
  | succ k => rfl
def ahead (bs : List (Int × List UInt8)) : Nat -> Int
 | 0 => -1
 | k + 1 => (bs.getD k (0, [])).1
def Good (bs : List (Int × List UInt8)) (k : Nat) : Prop := ∀ j t, j < k -> bs[j]? = some t -> ahead bs j < t.1 /\ t.1 < 16 /\ t.2.length <= 16384
theorem mayB_at (bs : List (Int × List UInt8)) (k : Nat) (h : Good bs k) (hk : k <= bs.length) : mayB (-1) bs = mayB (ahead bs k) (bs.drop k) := by
 have := mayB_take bs k (-1) (fun j t hj ht => by have := h j t hj ht; cases j <;> exact this) hk
 rw [this]; cases k <;> rfl
set_option maxHeartbeats 1000000
set_option maxRecDepth 100000
theorem mayBe_any (p : Option Addr) (c : Nat) (bs : List (Int × List UInt8)) (hl : bs.length <= room) (w : World) (h : BnS w p bs) :
  Calls Tryz.prog 85 #[.slice p bs.length c] w fun e w' => e = .returned (.bool (mayB (-1) bs)) /\ Below w.heap.size w w' := by
 unfold room at hl
 go_enter Tryz.func85, Tryz.ntmps85
 go_wp2
 go_loopw [3, 8] (fun a i wr => ∃ k : Nat, k <= bs.length /\ a = .int .i64 (ahead bs k) /\ i = .int .i64 (k : Int) /\ Good bs k /\ Below w.heap.size w wr) (fun _ i _ => bs.length - (intOf i).toNat)
 case atStart => exact ⟨0, by omega, rfl, rfl, fun j t hj => by omega, Below.refl _ _⟩
 case round =>
  obtain ⟨k, hk, rfl, rfl, hG, hB⟩ := hrel
  by_cases hlt : k < bs.length
  ·have i1 : (k : Int) < bs.length := by omega
   obtain ⟨b, o, dv, rfl, e1, e2, e3, e4⟩ := h.below hB k bs[k] (List.getElem?_eq_getElem hlt); obtain ⟨dp, dc, rfl, _⟩ := e3.ex; unfold room at e4; have hd : bs.drop k = bs[k] :: bs.drop (k + 1) := by rw [List.drop_eq_getElem_cons hlt]
   have hM := mayB_at bs k hG hk; rw [hd] at hM; have hA : ahead bs (k + 1) = (bs[k]).1 := by simp [ahead, List.getD, List.getElem?_eq_getElem hlt]
   have hG2 : ¬ ((bs[k]).1 <= ahead bs k) -> ¬ (16 <= (bs[k]).1) -> ¬ (16384 < (bs[k]).2.length) -> Good bs (k + 1) := by
    intro c1 c2 c3 j t hj ht
    by_cases e : j = k
    ·subst e; rw [List.getElem?_eq_getElem hlt] at ht; cases ht; exact ⟨by omega, by omega, by omega⟩
    ·exact hG j t (by omega) ht
   have hM2 : (bs[k]).1 <= ahead bs k \/ 16 <= (bs[k]).1 \/ 16384 < (bs[k]).2.length -> mayB (-1) bs = false := fun c => by rw [hM, mayB, if_pos c]
   have hB2 : Below w.heap.size w (wr.alloc (Obj.cells #[.int .i64 (bs[k]).1, .slice dp (bs[k]).2.length dc] 81)) := hB.alloc hB.size _; clear hM hd e3 hG hB; generalize hn : (bs[k]).1 = n at *
   generalize hL : (bs[k]).2.length = L at *
   have HA : Hid _ := hA; have HG : Hid _ := hG2; have HB : Hid _ := hB2; have HM : Hid _ := hM2; clear hG2 hB2 hM2 hA
   by_cases c1 : n <= ahead bs k
   ·have f1 := HM.out (.inl c1)
    have d1 : decide (n <= ahead bs k) = true := by simpa using c1
    go_wp2; go_ret; exact ⟨rfl, HB.out⟩
   have d1 : decide (n <= ahead bs k) = false := by simpa using c1
   by_cases c2 : 16 <= n
   ·have f1 := HM.out (.inr (.inl c2))
    have d2 : decide (16 <= n) = true := by simp; omega
    go_wp2; go_ret; exact ⟨rfl, HB.out⟩
   have d2 : decide (16 <= n) = false := by simp; omega
   by_cases c3 : 16384 < L
   ·have f1 := HM.out (.inr (.inr c3))
    have d3 : decide ((16384 : Int) < L) = true := by simp; omega
    go_wp2; go_ret; exact ⟨rfl, HB.out⟩
   have d3 : decide ((16384 : Int) < L) = false := by simp; omega
   go_wp2; go_roundw
   case rel =>
    first
     | exact ⟨k + 1, by omega, by rw [HA.out], by go_num, HG.out c1 c2 c3, HB.out⟩
     | ((repeat apply Exists.intro); refine ⟨⟨k + 1, by omega, by rw [HA.out], ?_, HG.out c1 c2 c3, HB.out⟩, rfl⟩; go_num)
   case measure => simp [intOf]; omega
  ·obtain rfl : k = bs.length := by omega
   have hM := mayB_at bs bs.length hG (Nat.le_refl _); rw [List.drop_length] at hM; go_wp2; go_ret; exact ⟨by rw [hM]; rfl, hB⟩
theorem mayBanks_any (p : Option Addr) (c : Nat) (bs : List (Int × List UInt8)) (hl : bs.length <= room) (w : World) (h : BnS w p bs) :
  Calls Tryz.prog 96 #[.slice p bs.length c] w fun e w' => e = .returned (.bool (mayB (-1) bs)) /\ Below w.heap.size w w' := by
 unfold room at hl
 go_enter Tryz.func96, Tryz.ntmps96
 go_wp2
 go_loopw [3, 8] (fun a i wr => ∃ k : Nat, k <= bs.length /\ a = .int .i64 (ahead bs k) /\ i = .int .i64 (k : Int) /\ Good bs k /\ Below w.heap.size w wr) (fun _ i _ => bs.length - (intOf i).toNat)
 case atStart => exact ⟨0, by omega, rfl, rfl, fun j t hj => by omega, Below.refl _ _⟩
 case round =>
  obtain ⟨k, hk, rfl, rfl, hG, hB⟩ := hrel
  by_cases hlt : k < bs.length
  ·have i1 : (k : Int) < bs.length := by omega
   obtain ⟨b, o, dv, rfl, e1, e2, e3, e4⟩ := h.below hB k bs[k] (List.getElem?_eq_getElem hlt); obtain ⟨dp, dc, rfl, _⟩ := e3.ex; unfold room at e4; have hd : bs.drop k = bs[k] :: bs.drop (k + 1) := by rw [List.drop_eq_getElem_cons hlt]
   have hM := mayB_at bs k hG hk; rw [hd] at hM; have hA : ahead bs (k + 1) = (bs[k]).1 := by simp [ahead, List.getD, List.getElem?_eq_getElem hlt]
   have hG2 : ¬ ((bs[k]).1 <= ahead bs k) -> ¬ (16 <= (bs[k]).1) -> ¬ (16384 < (bs[k]).2.length) -> Good bs (k + 1) := by
    intro c1 c2 c3 j t hj ht
    by_cases e : j = k
    ·subst e; rw [List.getElem?_eq_getElem hlt] at ht; cases ht; exact ⟨by omega, by omega, by omega⟩
    ·exact hG j t (by omega) ht
   have hM2 : (bs[k]).1 <= ahead bs k \/ 16 <= (bs[k]).1 \/ 16384 < (bs[k]).2.length -> mayB (-1) bs = false := fun c => by rw [hM, mayB, if_pos c]
   have hB2 : Below w.heap.size w (wr.alloc (Obj.cells #[.int .i64 (bs[k]).1, .slice dp (bs[k]).2.length dc] 81)) := hB.alloc hB.size _; clear hM hd e3 hG hB; generalize hn : (bs[k]).1 = n at *
   generalize hL : (bs[k]).2.length = L at *
   have HA : Hid _ := hA; have HG : Hid _ := hG2; have HB : Hid _ := hB2; have HM : Hid _ := hM2; clear hG2 hB2 hM2 hA
   by_cases c1 : n <= ahead bs k
   ·have f1 := HM.out (.inl c1)
    have d1 : decide (n <= ahead bs k) = true := by simpa using c1
    go_wp2; go_ret; exact ⟨rfl, HB.out⟩
   have d1 : decide (n <= ahead bs k) = false := by simpa using c1
   by_cases c2 : 16 <= n
   ·have f1 := HM.out (.inr (.inl c2))
    have d2 : decide (15 < n) = true := by simp; omega
    go_wp2; go_ret; exact ⟨rfl, HB.out⟩
   have d2 : decide (15 < n) = false := by simp; omega
   by_cases c3 : 16384 < L
   ·have f1 := HM.out (.inr (.inr c3))
    have d3 : decide ((16384 : Int) < L) = true := by simp; omega
    go_wp2; go_ret; exact ⟨rfl, HB.out⟩
   have d3 : decide ((16384 : Int) < L) = false := by simp; omega
   go_wp2; go_roundw
   case rel =>
    first
     | exact ⟨k + 1, by omega, by rw [HA.out], by go_num, HG.out c1 c2 c3, HB.out⟩
     | ((repeat apply Exists.intro); refine ⟨⟨k + 1, by omega, by rw [HA.out], ?_, HG.out c1 c2 c3, HB.out⟩, rfl⟩; go_num)
   case measure => simp [intOf]; omega
  ·obtain rfl : k = bs.length := by omega
   have hM := mayB_at bs bs.length hG (Nat.le_refl _); rw [List.drop_length] at hM; go_wp2; go_ret; exact ⟨by rw [hM]; rfl, hB⟩
open Go.ChangeMaps (setBlock)
set_option linter.unusedVariables false
set_option linter.defProp false
set_option linter.unusedSimpArgs false
def pad (l : List UInt8) : List UInt8 := l ++ List.replicate (16384 - l.length) 0
theorem pad_len (l : List UInt8) (h : l.length <= 16384) : (pad l).length = 16384 := by rw [pad, List.length_append, List.length_replicate]; omega
theorem zero83_bv : zero83 = bv (List.replicate 16384 0) := by
 apply List.ext_getElem?
 intro i
 by_cases h : i < 16384
 ·rw [zero83_get i h, (bv_get _ _ _).2 ⟨0, by rw [List.getElem?_replicate, if_pos h], rfl⟩]; rfl
 ·rw [List.getElem?_eq_none (by rw [zero83_len]; omega), List.getElem?_eq_none (by rw [bv_len, List.length_replicate]; omega)]
theorem ents_append : ∀ (L : List (Nat × Nat)) (i n g : Nat), ents i (L ++ [(n, g)]) = ents i L ++ [{ key := .int .i64 (n : Int), val := .pointer (some ⟨g, 0, none⟩), born := i + L.length }]
 | [], i, n, g => rfl
 | (x, y) :: L, i, n, g => by
  simp only [ents, List.cons_append, ents_append L (i + 1) n g, List.length_cons]; rw [show i + 1 + L.length = i + (L.length + 1) by omega]
theorem run_put (W : World) (mb n g : Nat) (L : List (Nat × Nat)) (h : W.heap[mb]? = some (.map (ents 0 L).toArray L.length)) (hn : ∀ p ∈ L, p.1 ≠ n) :
  (Instr.mapUpdate 142 (.map (some mb)) (.int .i64 (n : Int)) (.pointer (some ⟨g, 0, none⟩))).run Tryz.prog W = .ok () (setBlock W mb (.map (ents 0 (L ++ [(n, g)])).toArray (L ++ [(n, g)]).length)) := by
 simp [Instr.mapUpdate, run_underlying Tryz.underlying142, getObj, setObj, Sem.run, h, checkKey_int, Instr.findKey, run_underlying Tryz.underlying3, find_none n L 0 0 hn, ents_append, setBlock]
theorem setBlock_same (W : World) (b : Nat) (o o' : Obj) (h : W.heap[b]? = some o') : (setBlock W b o).heap[b]? = some o := by
 have := lt_of h
 simp [setBlock, this]
theorem setBlock_other (W : World) (b k : Nat) (o : Obj) (h : k ≠ b) : (setBlock W b o).heap[k]? = W.heap[k]? := by
 simp only [setBlock, Array.getElem?_setIfInBounds]
 rw [if_neg (by omega)]
theorem setBlock_size (W : World) (b : Nat) (o : Obj) : (setBlock W b o).heap.size = W.heap.size := by simp [setBlock]
theorem Below.setBlock {B : Nat} {a w : World} (h : Below B a w) (g : Nat) (hg : B <= g) (o : Obj) : Below B a (setBlock w g o) :=
 ⟨h.os, h.tape, h.output, by rw [setBlock_size]; exact h.size, fun k hk => (setBlock_other w g k o (by omega)).trans (h.block k hk)⟩
theorem MemP.add {W W1 : World} {F : Nat -> Prop} {b : Nat} {m : MS} {mb : Nat} {L : List (Nat × Nat)} {tv : Value} (h : MemP W F b m mb L tv) (n g : Nat) (l : List UInt8) (hb : ∀ k, k < W.heap.size -> W1.heap[k]? = W.heap[k]?)
  (hn : n < 16) (hm : m.banks n = none) (hl : l.length = 16384) (hg : W.heap.size <= g) (hF : F g) (hk : Bk W1 g l) :
  MemP (setBlock W1 mb (.map (ents 0 (L ++ [(n, g)])).toArray (L ++ [(n, g)]).length)) F b { m with banks := upd m.banks n l } mb (L ++ [(n, g)]) tv := by
 have hmb : W1.heap[mb]? = some (.map (ents 0 L).toArray L.length) := (hb mb (lt_of h.map)).trans h.map
 have hno : ∀ p ∈ L, p.1 ≠ n := by rintro p hp rfl; obtain ⟨l', e, _⟩ := h.bks p hp; rw [hm] at e; cases e
 have hlt : ∀ p ∈ L, p.2 < W.heap.size := fun p hp => by obtain ⟨l', _, e⟩ := h.bks p hp; exact lt_of e
 have hgm : g ≠ mb := by have := lt_of h.map; omega
 refine ⟨⟨h.wf.ram, h.wf.scr, h.wf.ch0, h.wf.ch1, h.wf.pad0, h.wf.pad1, h.wf.pitch0, h.wf.pitch1, h.wf.vol0, h.wf.vol1, h.wf.time0, h.wf.time1, ?_⟩, ?_, setBlock_same _ _ _ _ hmb, ?_, ?_, ?_, ?_, ?_, ?_, h.fb, h.fmb, ?_, h.ft⟩
 ·intro k l' e
  simp only [upd] at e
  split at e
  ·cases e; next c => subst c; exact ⟨hn, hl⟩
  ·exact h.wf.bk k l' e
 ·exact (setBlock_other _ _ _ _ h.ne_map.symm).trans ((hb b (lt_of h.blk)).trans h.blk)
 ·rw [List.map_append, List.nodup_append]
  refine ⟨h.keys, by simp, ?_⟩; intro a ha c hc e
  simp at hc ha
  obtain ⟨x, hx⟩ := ha; exact hno _ hx (by simp; omega)
 ·intro p hp
  rcases List.mem_append.1 hp with hp | hp
  ·exact h.lt16 p hp
  ·simp at hp; subst hp; exact hn
 ·rw [List.map_append, List.nodup_append]
  refine ⟨h.blks, by simp, ?_⟩; intro a ha c hc e
  simp at hc ha
  obtain ⟨x, hx⟩ := ha; have := hlt _ hx
  simp at this
  omega
 ·intro p hp
  rcases List.mem_append.1 hp with hp | hp
  ·obtain ⟨l', e1, e2⟩ := h.bks p hp
   refine ⟨l', by simp only [upd, if_neg (hno p hp)]; exact e1, ?_⟩; refine (setBlock_other _ _ _ _ (h.ne_bk_map p hp).symm).trans ((hb _ (lt_of e2)).trans e2)
  ·simp at hp; subst hp
   exact ⟨l, by simp [upd], (setBlock_other _ _ _ _ hgm).trans hk⟩
 ·intro k l' e
  simp only [upd] at e
  split at e
  ·next c => subst c; exact ⟨g, by simp⟩
  ·obtain ⟨y, hy⟩ := h.all k l' e; exact ⟨y, by simp [hy]⟩
 ·exact own_kept h.tones fun k e hk2 => (setBlock_other _ _ _ _ (h.ne_t_map k e).symm).trans (hb k hk2)
 ·intro p hp
  rcases List.mem_append.1 hp with hp | hp
  ·exact h.fbk p hp
  ·simp at hp; subst hp; exact hF
def nbk (bs : List (Int × List UInt8)) (k : Nat) : Option (List UInt8) := (bs.find? (fun t => t.1 == (k : Int))).map (fun t => pad t.2)
theorem Good.mono {bs : List (Int × List UInt8)} {k j : Nat} (h : Good bs k) (hj : j <= k) : Good bs j := fun i t hi ht => h i t (by omega) ht
theorem good_le (bs : List (Int × List UInt8)) : ∀ k, k <= bs.length -> Good bs k -> ∀ j t, j < k -> bs[j]? = some t -> t.1 <= ahead bs k /\ -1 < t.1
 | 0, _, _, j, t, hj, _ => by omega
 | k + 1, hl, h, j, t, hj, ht => by
  have hk : k < bs.length := by omega
  have h2 := h k bs[k] (by omega) (List.getElem?_eq_getElem hk); have h3 : ahead bs (k + 1) = (bs[k]).1 := by simp [ahead, List.getD, List.getElem?_eq_getElem hk]
  by_cases e : j = k
  ·subst e
   rw [List.getElem?_eq_getElem hk] at ht
   cases ht
   refine ⟨by omega, ?_⟩
   cases j with
   | zero => have := h2.1; simpa [ahead] using this
   | succ i =>
    have h5 := good_le bs (i + 1) (by omega) (h.mono (by omega)) i bs[i] (by omega) (List.getElem?_eq_getElem (by omega))
    omega
  ·have h1 := good_le bs k (by omega) (h.mono (by omega)) j t (by omega) ht
   omega
theorem good_of (bs : List (Int × List UInt8)) (h : mayB (-1) bs = true) : ∀ k, k <= bs.length -> Good bs k
 | 0, _ => fun j t hj => by omega
 | k + 1, hk => by
  have hG := good_of bs h k (by omega); have hM := mayB_at bs k hG (by omega); rw [h, List.drop_eq_getElem_cons (show k < bs.length by omega), mayB] at hM
  split at hM
  ·cases hM
  ·next c =>
   intro j t hj ht
   by_cases e : j = k
   ·subst e; rw [List.getElem?_eq_getElem (by omega)] at ht; cases ht; omega
   ·exact hG j t (by omega) ht
theorem nbk_step (bs : List (Int × List UInt8)) (k : Nat) (hk : k < bs.length) (hG : Good bs (k + 1)) :
  nbk (bs.take (k + 1)) = upd (nbk (bs.take k)) (bs[k]).1.toNat (pad (bs[k]).2) /\ nbk (bs.take k) (bs[k]).1.toNat = none /\ 0 <= (bs[k]).1 /\ (bs[k]).1 < 16 /\ (bs[k]).2.length <= 16384 := by
 have h2 := hG k bs[k] (by omega) (List.getElem?_eq_getElem hk)
 have h3 := good_le bs (k + 1) (by omega) hG k bs[k] (by omega) (List.getElem?_eq_getElem hk)
 have hno : ∀ t ∈ bs.take k, t.1 < (bs[k]).1 := by
  intro t ht; obtain ⟨j, hj, e⟩ := List.mem_iff_getElem.1 ht; rw [List.length_take] at hj; rw [List.getElem_take] at e; have := good_le bs k (by omega) (hG.mono (by omega)) j t (by omega) (by rw [List.getElem?_eq_getElem (by omega), e])
  omega
 refine ⟨?_, ?_, by omega, h2.2.1, h2.2.2⟩
 ·funext x
  rw [List.take_succ_eq_append_getElem hk]; unfold nbk upd; rw [List.find?_append]
  by_cases e : x = (bs[k]).1.toNat
  ·rw [if_pos e]
   have e2 : (bs.take k).find? (fun t => t.1 == (x : Int)) = none := by
    rw [List.find?_eq_none]; intro t ht c; simp at c; have := hno t ht; omega
   rw [e2]; have e3 : ((bs[k]).1 == (x : Int)) = true := by simp; omega
   simp [e3]
  ·rw [if_neg e]
   have e3 : ((bs[k]).1 == (x : Int)) = false := by simp; omega
   simp [e3]
 ·unfold nbk
  have e2 : (bs.take k).find? (fun t => t.1 == (((bs[k]).1.toNat : Nat) : Int)) = none := by
   rw [List.find?_eq_none]; intro t ht c; simp at c; have := hno t ht; omega
  rw [e2]; rfl
def setRow_eq := @S.setRow_eq
theorem run_copy_bank (W : World) (g : Nat) (dv : Value) (l : List UInt8) (ty : TypeId) (hg : W.heap[g]? = some (.cells zero83.toArray 143 (0, 0))) (hs : Sl W dv l) (hl : l.length <= 16384) (B : Nat) (W0 : World) (hB : Below B W0 W) (hBg : B <= g) :
  ∃ W', (Builtin.copy_ #[22, 22] ty #[.slice (some ⟨g, 0, none⟩) 16384 16384, dv]).run Tryz.prog W = .ok (.int .i64 (l.length : Int)) W' /\ Bk W' g (pad l) /\ Below B W0 W' /\ (∀ k, k ≠ g -> W'.heap[k]? = W.heap[k]?) /\ W'.heap.size = W.heap.size := by
 have hi5 : (Tryz.prog.info? 5).map (·.size) = some 1 := by kernel_rfl
 rcases hs with ⟨rfl, rfl⟩ | ⟨x, c, rfl, hc, hcell⟩
 ·refine ⟨W, run_copy_nil (P := Tryz.prog) W 22 22 ty 5 _ _ _ Tryz.underlying22 (by rw [hi5]; rfl), ?_, hB, fun _ _ => rfl, rfl⟩
  unfold Bk pad; rw [hg, zero83_bv]; simp only [List.nil_append, List.length_nil]
 ·have hr := run_copy_row (P := Tryz.prog) W 22 22 ty 5 g 0 16384 16384 x l.length c zero83.toArray 143 (bv l) Tryz.underlying22 hi5 hg (by rw [bv_len]; exact (Nat.min_eq_left hl).symm)
   (fun j v hj => by obtain ⟨b, hb, rfl⟩ := (bv_get l j v).1 hj; exact hcell j b hb) (by rw [bv_len, List.size_toArray, zero83_len]; omega) (bv_one l)
  rw [bv_len] at hr; refine ⟨_, hr, ?_, ?_, fun k hk => ?_, ?_⟩
  ·unfold Bk
   rw [setRow_eq W g zero83 143 _ hg]
   have e : List.take 0 zero83 ++ bv l ++ List.drop (0 + (bv l).length) zero83 = bv (pad l) := by
    rw [zero83_bv]; simp only [List.take_zero, List.nil_append, bv_len, Nat.zero_add, pad, bv_append]; have e2 : ∀ n : Nat, List.drop l.length (bv (List.replicate n 0)) = bv (List.replicate (n - l.length) 0) := fun n => by simp only [bv, List.map_replicate, List.drop_replicate]
    rw [e2]
   rw [bv_len] at e; exact congrArg (fun q : List Value => some (Obj.cells q.toArray 143 (0, 0))) e
  ·exact ⟨hB.os, hB.tape, hB.output, by rw [size_setRow]; exact hB.size, fun k hk => (setRow_other W g k _ (by omega)).trans (hB.block k hk)⟩
  ·exact setRow_other W g k _ hk
  ·exact size_setRow _ _ _
set_option maxHeartbeats 1000000
set_option maxRecDepth 100000
theorem wpList_build86 {ops : Array Oper} {rest : List Oper} {o : Oper} {a : Act} {w : World} {Q : Exit -> Act -> World -> Prop} (hg : o.guard = none) (x : Operand) (ho : o.op = .build 146 #[(0, x)]) (mb : Nat) (hm : a.eval x = .map (some mb))
  (h : wpList Tryz.prog ops Q rest (a.put o.dst (.agg (mcells mb m0 (.slice none 0 0)).toArray)) w) : wpList Tryz.prog ops Q (o :: rest) a w :=
 wpList_plain hg fun _ hK => by
  unfold Oper.wp execOp; have e := build86 w mb; simp only [ho, List.map_toArray, List.map_cons, List.map_nil, hm, Sem.run_bind, e, Result.andThen_ok]; exact hK _ _ h
theorem new_no (p : Option Addr) (c : Nat) (bs : List (Int × List UInt8)) (hl : bs.length <= room) (w : World) (h : BnS w p bs) (hm : mayB (-1) bs = false) :
  Calls Tryz.prog 40 #[.slice p bs.length c] w fun e w' => e = .returned (.tuple #[.pointer none, .int .i64 2]) /\ Below w.heap.size w w' := by
 have hmb := mayBe_any p c bs hl w h
 rw [hm] at hmb
 go_enter Tryz.func40, Tryz.ntmps40
 go_wp2_with fail
 refine hmb.mono ?_
 rintro e w1 ⟨rfl, hB⟩
 go_wp2
 go_ret2
 exact ⟨rfl, hB⟩
theorem new_yes (p : Option Addr) (c : Nat) (bs : List (Int × List UInt8)) (hl : bs.length <= room) (w : World) (h : BnS w p bs) (hm : mayB (-1) bs = true) :
  Calls Tryz.prog 40 #[.slice p bs.length c] w fun e w' => ∃ b, e = .returned (.tuple #[.pointer (some ⟨b, 0, none⟩), .int .i64 0]) /\ HasM w' (fun k => w.heap.size <= k) b { m0 with banks := nbk bs } /\ Below w.heap.size w w' := by
 have hmb := mayBe_any p c bs hl w h
 have hGd := good_of bs hm bs.length (Nat.le_refl _)
 rw [hm] at hmb
 unfold room at hl
 have z83 := zc83 w
 go_enter Tryz.func40, Tryz.ntmps40
 go_wp2_with fail
 refine hmb.mono ?_
 rintro e w1 ⟨rfl, hB⟩
 clear hmb hm
 have hmm := @run_makeMap Tryz.prog
 obtain ⟨mb, hmbq⟩ : ∃ mb, mb = w1.heap.size := ⟨_, rfl⟩
 have hwm : w.heap.size <= mb := by rw [hmbq]; exact hB.size
 have hM0 : MemP ((w1.alloc (.map #[] 0)).alloc (.cells (mcells mb m0 (.slice none 0 0)).toArray 146)) (fun k => w.heap.size <= k) (mb + 1) { m0 with banks := nbk (bs.take 0) } mb [] (.slice none 0 0) := by
  have hs1 : (w1.alloc (.map #[] 0)).heap.size = mb + 1 := by simp [hmbq]
  refine ⟨⟨m0_wf.ram, m0_wf.scr, m0_wf.ch0, m0_wf.ch1, m0_wf.pad0, m0_wf.pad1, m0_wf.pitch0, m0_wf.pitch1, m0_wf.vol0, m0_wf.vol1, m0_wf.time0, m0_wf.time1, by intro n l e; simp [nbk] at e⟩, ?_, ?_, by simp, by simp, by simp, by simp, by intro n l e; simp [nbk] at e, World.ownsRow_nil _ _ _ _, Nat.le_succ_of_le hwm, hwm, by simp, by simp [Value.ownBlock]⟩
  ·rw [<- hs1]; exact heap_alloc_new _ _
  ·rw [Below.heap_alloc _ _ mb (by omega), hmbq]; exact heap_alloc_new w1 _
 have hB0 : Below w.heap.size w ((w1.alloc (.map #[] 0)).alloc (.cells (mcells mb m0 (.slice none 0 0)).toArray 146)) := (hB.alloc hB.size _).alloc (by have := hB.size; simp; omega) _
 have HM0 : Hid _ := hM0
 have HB0 : Hid _ := hB0
 clear hM0 hB0
 go_wp2_with (first | (refine wpList_build86 rfl (.tmp 11) rfl w1.heap.size (by simp [Act.eval]) ?_))
 rw [<- hmbq] at *
 go_loopw [16] (fun i wr => ∃ (k : Nat) (L : List (Nat × Nat)), k <= bs.length /\ i = .int .i64 (k : Int) /\ MemP wr (fun k => w.heap.size <= k) (mb + 1) { m0 with banks := nbk (bs.take k) } mb L (.slice none 0 0) /\ Below w.heap.size w wr) (fun i _ => bs.length - (intOf i).toNat)
 case atStart => exact ⟨0, [], by omega, rfl, HM0.out, HB0.out⟩
 case round =>
  clear HM0 HB0; obtain ⟨k, L, hk, rfl, hM, hB⟩ := hrel
  by_cases hlt : k < bs.length
  ·have i1 : (k : Int) < bs.length := by omega
   obtain ⟨b, o, dv, rfl, e1, e2, e3, e4⟩ := h.below hB k bs[k] (List.getElem?_eq_getElem hlt); obtain ⟨q1, q2, q3, q4, q5⟩ := nbk_step bs k hlt (hGd.mono (by omega)); obtain ⟨n, hn⟩ : ∃ n : Nat, (bs[k]).1 = (n : Int) := ⟨(bs[k]).1.toNat, by omega⟩
   rw [hn] at e1 q1 q2 q4; simp only [Int.toNat_natCast] at q1 q2; generalize (bs[k]).2 = l at *
   obtain ⟨W1, hW1⟩ : ∃ W1, W1 = wr.alloc (.cells #[.int .i64 (n : Int), dv] 81) := ⟨_, rfl⟩
   obtain ⟨g, hgq⟩ : ∃ g, g = W1.heap.size := ⟨_, rfl⟩
   obtain ⟨W2, hW2⟩ : ∃ W2, W2 = (W1.alloc (.cells zero83.toArray 143)).drew := ⟨_, rfl⟩
   have hws : w.heap.size <= wr.heap.size := hB.size; have hs1 : W1.heap.size = wr.heap.size + 1 := by rw [hW1]; simp
   have hB1 : Below w.heap.size w W1 := by rw [hW1]; exact hB.alloc hB.size _
   have hB2 : Below w.heap.size w W2 := by rw [hW2]; exact (hB1.alloc hB1.size _).drew
   have hg2 : W2.heap[g]? = some (.cells zero83.toArray 143 (0, 0)) := by rw [hW2, hgq]; exact heap_alloc_new W1 _
   have hb12 : Below wr.heap.size wr W2 := by rw [hW2, hW1]; exact (((Below.refl _ wr).alloc (Nat.le_refl _) _).alloc (by simp) _).drew
   have hv2 : W2.heap[wr.heap.size]? = some (.cells [.int .i64 (n : Int), dv].toArray 81 (0, 0)) := by
    rw [hW2, hW1]; exact (Below.heap_alloc _ _ _ (by simp)).trans (heap_alloc_new wr _)
   obtain ⟨W3, hcp, hk3, hB3, hst3, hsz3⟩ := run_copy_bank W2 g dv l 3 hg2 (e3.below hb12) q5 w.heap.size w hB2 (by omega); have hv3 : W3.heap[wr.heap.size]? = some (.cells [.int .i64 (n : Int), dv].toArray 81 (0, 0)) := (hst3 _ (by omega)).trans hv2; have hold : ∀ j, j < wr.heap.size -> W3.heap[j]? = wr.heap[j]? := fun j hj => (hst3 j (by omega)).trans (hb12.block j hj)
   have c0 := cell_of W3 (mb + 1) 0 _ 146 _ ((hold _ (lt_of hM.blk)).trans hM.blk) (mcells_0 mb _ _); have cv0 := cell_of W3 wr.heap.size 0 _ 81 _ hv3 rfl; have hput := run_put W3.drew mb n g L ((hold _ (lt_of hM.map)).trans hM.map) (by rintro p hp rfl; obtain ⟨l', e, _⟩ := hM.bks p hp; have e2 : nbk (bs.take k) p.1 = some l' := e; rw [q2] at e2; cases e2); have hM4 := hM.add n g (pad l) (W1 := W3.drew) hold (by omega) q2 (pad_len l q5) (by omega) (show w.heap.size <= g by omega) hk3; have hB4 : Below w.heap.size w (setBlock W3.drew mb (.map (ents 0 (L ++ [(n, g)])).toArray (L ++ [(n, g)]).length)) := Below.setBlock hB3.drew mb hwm _; generalize setBlock W3.drew mb (.map (ents 0 (L ++ [(n, g)])).toArray (L ++ [(n, g)]).length) = W4 at *
   have hM5 : MemP W4 (fun k => w.heap.size <= k) (mb + 1) { m0 with banks := nbk (bs.take (k + 1)) } mb (L ++ [(n, g)]) (.slice none 0 0) := by rw [q1]; exact hM4
   have HM : Hid _ := hM5; have HB : Hid _ := hB4; obtain ⟨dp, dc, rfl, _⟩ := e3.ex; subst hW2 hW1; rw [hs1] at hgq; subst hgq; clear hM hM4 hM5 hB4 hB3 hB2 hB1 hb12 hk3 hst3 hsz3 hv3 hv2 hold q1 q2 hg2 e3 hB hs1; go_wp2_with fail
   go_region
   go_wp2_with fail
   go_region
   go_wp2; go_roundw
   case rel =>
    first
     | exact ⟨k + 1, _, by omega, by go_num, HM.out, HB.out⟩
     | ((repeat apply Exists.intro); refine ⟨⟨k + 1, _, by omega, ?_, HM.out, HB.out⟩, rfl⟩; go_num)
   case measure => simp [intOf]; omega
  ·obtain rfl : k = bs.length := by omega
   rw [List.take_length] at hM; go_wp2
   go_ret2
   exact ⟨_, rfl, ⟨_, _, _, hM⟩, hB⟩
theorem HasM.below {W W' : World} {F : Nat -> Prop} {b : Nat} {m : MS} (h : HasM W F b m) (k : Below W.heap.size W W') : HasM W' F b m := h.kept fun i hi _ => k.block i hi
def eql_nil := @S.eql_nil
set_option maxHeartbeats 1000000
set_option maxRecDepth 100000
theorem clone_any (v : Value) (l : List UInt8) (hl : l.length <= room) (w : World) (h : Sl w v l) :
  Calls Tryz.prog 41 #[v] w fun e w' => ∃ u, e = .returned u /\ Row w' w.heap.size u l /\ Below w.heap.size w w' := by
 have h0 := h
 rcases h with ⟨rfl, rfl⟩ | ⟨x, c, rfl, _, hc⟩
 ·have hn := fun (W : World) => eql_nil 22 5 Tryz.underlying22 W none 0 0
  go_enter Tryz.func41, Tryz.ntmps41; go_wp2; go_ret; exact ⟨_, rfl, row_nil _ _, Below.refl _ _⟩
 ·have hr0 : Row (w.alloc (.cells #[] 5)) w.heap.size (.slice (some ⟨w.heap.size, 0, none⟩) 0 0) [] := row_of_alloc w w.heap.size (Nat.le_refl _) [] (by simp)
  have hb0 : Below w.heap.size w (w.alloc (.cells #[] 5)) := (Below.refl _ _).alloc (Nat.le_refl _) _; have hs0 := h0.below hb0; have hn := fun (W : World) => eql_nil 22 5 Tryz.underlying22 W (some x) l.length c
  go_enter Tryz.func41, Tryz.ntmps41; go_wp2_with (first | (at_builtin; refine wpList_append_bytes _ rfl _ _ rfl w.heap.size _ [] rfl hr0 _ l rfl hs0 (by simpa using hl) hb0.size ?_))
  intro v' w' hr hg; go_wp2; go_ret; exact ⟨_, rfl, hr, hg.belowAll (fun g e => (hr0.lt g e).1) hb0 (Nat.le_refl _)⟩
def TRow (W : World) (B : Nat) (v : Value) (l : List (Int × Int × Int)) : Prop := W.ownsRow B 66 3 v l.length (tc l)
theorem TRow.cs {W : World} {B : Nat} {v : Value} {l : List (Int × Int × Int)} (h : TRow W B v l) : Cs W v 3 l.length (tc l) := by
 have h' := h
 rcases h.2 with ⟨rfl, e⟩ | ⟨g, cap, cur, rfl, _⟩
 ·exact .inl ⟨rfl, e, by rw [List.eq_nil_of_length_eq_zero e]; rfl⟩
 ·refine .inr ⟨_, cap, rfl, tc_len l, World.ownsRow.cells h' rfl, tc_one l⟩
theorem cloneT_any (v : Value) (l : List (Int × Int × Int)) (hl : l.length <= 1000000) (w : World) (h : TRow w 0 v l) :
  Calls Tryz.prog 53 #[v] w fun e w' => ∃ u, e = .returned u /\ TRow w' w.heap.size u l /\ Below w.heap.size w w' := by
 have h0 := h
 rcases h.2 with ⟨rfl, e⟩ | ⟨g, cap, cur, rfl, _⟩
 ·have hn := fun (W : World) => eql_nil 37 66 Tryz.underlying37 W none 0 0
  obtain rfl := List.eq_nil_of_length_eq_zero e
  go_enter Tryz.func53, Tryz.ntmps53; go_wp2; go_ret; exact ⟨_, rfl, World.ownsRow_nil _ _ _ _, Below.refl _ _⟩
 ·have hr0 : (w.alloc (.cells #[] 66)).ownsRow w.heap.size 66 3 (.slice (some ⟨w.heap.size, 0, none⟩) 0 0) 0 [] :=
   ⟨rfl, .inr ⟨w.heap.size, 0, #[], rfl, Nat.le_refl _, heap_alloc_new w _, Nat.le_refl _, by decide, by simp, by simp⟩⟩
  have hb0 : Below w.heap.size w (w.alloc (.cells #[] 66)) := (Below.refl _ _).alloc (Nat.le_refl _) _; have hs0 := h0.cs.below hb0; have hn := fun (W : World) => eql_nil 37 66 Tryz.underlying37 W (some ⟨g, 0, none⟩) l.length cap
  go_enter Tryz.func53, Tryz.ntmps53; go_wp2_with (first | (at_builtin; refine wpList_append_row _ rfl _ _ 37 66 _ 3 16 Tryz.underlying37 info90 rfl (by decide) rfl w.heap.size _ 0 [] rfl hr0 _ l.length (tc l) rfl hs0 (by unfold room; omega) (by unfold maxLen; omega) hb0.size ?_))
  intro v' w' hr hg; go_wp2; go_ret; refine ⟨_, rfl, ?_, hg.belowAll (fun g e => (hr0.lt g e).1) hb0 (Nat.le_refl _)⟩
  simpa [TRow] using hr
theorem tones_any (b : Nat) (w : World) {F : Nat -> Prop} {m : MS} (hm : HasM w F b m) (ht : m.tones.length <= 1000000) :
  Calls Tryz.prog 24 #[.pointer (some ⟨b, 0, none⟩)] w fun e w' => ∃ u, e = .returned u /\ TRow w' w.heap.size u m.tones /\ Below w.heap.size w w' := by
 obtain ⟨mb, L, tv, hm⟩ := hm
 have c6 := cell_of w b (19457 + 6) _ 146 _ hm.blk ((mcells_reg mb m tv hm.wf 6).trans rfl)
 simp only [Nat.reduceAdd] at c6
 have hc := cloneT_any tv m.tones ht w hm.tones
 go_enter Tryz.func24, Tryz.ntmps24
 go_wp2_with fail
 refine hc.mono ?_
 rintro e w1 ⟨u, rfl, h1, h2⟩
 go_wp2
 go_ret
 exact ⟨_, rfl, h1, h2⟩
theorem screen_any (b : Nat) (w : World) {F : Nat -> Prop} {m : MS} (hm : HasM w F b m) :
  Calls Tryz.prog 23 #[.pointer (some ⟨b, 0, none⟩)] w fun e w' => ∃ u, e = .returned u /\ Row w' w.heap.size u m.scr /\ Below w.heap.size w w' := by
 obtain ⟨mb, L, tv, hm⟩ := hm
 have hs : Sl w (.slice (some ⟨b, 16385, none⟩) 3072 3072) m.scr := by
  refine .inr ⟨⟨b, 16385, none⟩, 3072, by rw [hm.wf.scr], by rw [hm.wf.scr]; omega, fun j x hj => ?_⟩; have e : (⟨b, 16385, none⟩ : Addr).add j = ⟨b, 16385 + j, none⟩ := Addr.add_lit _ _ _; rw [e]; exact cell_of w b _ _ 146 _ hm.blk (mcells_scr mb m tv hm.wf j x hj)
 have hc := clone_any _ m.scr (by rw [hm.wf.scr]; unfold room; omega) w hs
 go_enter Tryz.func23, Tryz.ntmps23
 go_wp2_with fail
 refine hc.mono ?_
 rintro e w1 ⟨u, rfl, h1, h2⟩
 go_wp2
 go_ret
 exact ⟨_, rfl, h1, h2⟩
theorem Sl.conv {W : World} {v : Value} {l : List UInt8} (h : Sl W v l) : (convert 22 9 v).run Tryz.prog W = .ok (.string ⟨l.toArray⟩) W := by
 rcases h with ⟨rfl, rfl⟩ | ⟨x, c, rfl, _, h⟩
 ·rw [run_convert_bytes_string W 22 9 5 none 0 0 Tryz.underlying22 Tryz.underlying5 Tryz.underlying9]; rfl
 ·exact run_convert_bytes_back (P := Tryz.prog) W 22 9 5 x c l Tryz.underlying22 Tryz.underlying5 Tryz.underlying9 (fun j hj => h j _ (by simp))
set_option maxHeartbeats 2000000
set_option maxRecDepth 100000
theorem info37 : (Tryz.prog.info? 81).map (fun i => (i.zero, i.size, i.bytes)) = some (some (.agg #[.int .i64 0, .slice none 0 0]), 2, 32) := by kernel_rfl
def bc (t : Int × List UInt8) (g : Nat × Nat) : List Value := [.int .i64 t.1, .slice (some ⟨g.1, 0, none⟩) t.2.length g.2]
def bcs : List (Int × List UInt8) -> List (Nat × Nat) -> List Value
 | t :: bs, g :: gs => bc t g ++ bcs bs gs
 | _, _ => []
theorem bcs_snoc : ∀ (bs : List (Int × List UInt8)) (gs : List (Nat × Nat)) (t : Int × List UInt8) (g : Nat × Nat), gs.length = bs.length -> bcs (bs ++ [t]) (gs ++ [g]) = bcs bs gs ++ bc t g
 | [], [], t, g, _ => by simp [bcs]
 | u :: bs, x :: gs, t, g, h => by simp [bcs, bcs_snoc bs gs t g (by simpa using h)]
theorem bcs_get : ∀ (bs : List (Int × List UInt8)) (gs : List (Nat × Nat)) (i : Nat) (t : Int × List UInt8) (g : Nat × Nat), bs[i]? = some t -> gs[i]? = some g -> (bcs bs gs)[i * 2]? = some (.int .i64 t.1) /\ (bcs bs gs)[i * 2 + 1]? = some (.slice (some ⟨g.1, 0, none⟩) t.2.length g.2)
 | u :: bs, x :: gs, 0, t, g, h1, h2 => by simp at h1 h2; subst h1 h2; exact ⟨rfl, rfl⟩
 | u :: bs, x :: gs, i + 1, t, g, h1, h2 => by
  have := bcs_get bs gs i t g (by simpa using h1) (by simpa using h2); simp only [bcs, bc]; rw [show (i + 1) * 2 = i * 2 + 1 + 1 by omega]; exact this
set_option maxHeartbeats 2000000
set_option maxRecDepth 100000
end Go.Proofs.YteldjmecomngeaaGreat.M
