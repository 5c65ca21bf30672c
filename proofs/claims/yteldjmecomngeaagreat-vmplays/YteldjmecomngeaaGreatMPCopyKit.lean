import Derived.Test.YteldjmecomngeaaGreatMKit
import Derived.Laws.IdiomRangeMap
import Derived.Maps.RangeRun
namespace Go.Proofs.YteldjmecomngeaaGreat.M
open Go.RowKit
open Go.Proofs
open Go.ChangeMaps (setBlock)
set_option linter.unusedVariables false
set_option linter.unusedSimpArgs false
theorem ents_mem : ∀ (L : List (Nat × Nat)) (i : Nat) (e : MapEntry), e ∈ ents i L ↔ ∃ j p, L[j]? = some p /\ e = { key := .int .i64 (p.1 : Int), val := .pointer (some ⟨p.2, 0, none⟩), born := i + j }
 | [], i, e => by simp [ents]
 | (x, y) :: L, i, e => by
  have ih := ents_mem L (i + 1) e; simp only [ents, List.mem_cons, ih]
  constructor
  ·rintro (h | ⟨j, p, h1, h2⟩)
   ·exact ⟨0, (x, y), rfl, by rw [h]; rfl⟩
   ·exact ⟨j + 1, p, by simpa using h1, by rw [h2]; congr 1; omega⟩
  ·rintro ⟨j, p, h1, h2⟩
   cases j with
   | zero => simp at h1; subst h1; left; rw [h2]; rfl
   | succ j => right; exact ⟨j, p, by simpa using h1, by rw [h2]; congr 1; omega⟩
theorem ents_born (L : List (Nat × Nat)) : ∀ i, (ents i L).map (·.born) = List.range' i L.length := by
 induction L with
 | nil => intro i; rfl
 | cons a L ih => intro i; obtain ⟨x, y⟩ := a; simp only [ents, List.map_cons, ih (i + 1), List.length_cons, List.range'_succ]
def NX (w : World) (r bm since clock : Nat) (seen : Array Nat) (es : Array MapEntry) (v : Value) (w' : World) : Prop :=
 ((leftOf es seen).size = 0 /\ v = .tuple #[.bool false] /\ w' = w) \/ (∃ e ∈ (leftOf es seen).toList, ∃ w1, (w1 = w \/ w1 = w.drew) /\ v = .tuple #[.bool true, e.key, e.val] /\ w' = setBlock w1 r (.mapIter (some bm) since (seen.push e.born) clock))
theorem wpList_next_law {ops : Array Oper} {rest : List Oper} {o : Oper} {a : Act} {w : World} {Q : Exit -> Act -> World -> Prop} (hgd : o.guard = none) (it : Operand) (ho : o.op = .next it false) (r bm since c0 : Nat) (seen : Array Nat) (es : Array MapEntry) (clock : Nat)
  (hit : a.eval it = .pointer (some ⟨r, 0, none⟩)) (hr : w.heap[r]? = some (.mapIter (some bm) since seen c0)) (hb : w.heap[bm]? = some (.map es clock)) (hold : ∀ x ∈ es.toList, x.born < since) (hsc : since <= c0)
  (h : ∀ v w', NX w r bm since clock seen es v w' -> wpList Tryz.prog ops Q rest (a.put o.dst v) w') :
  wpList Tryz.prog ops Q (o :: rest) a w :=
 wpList_plain hgd fun _ hK => by
  rcases run_next_at (P := Tryz.prog) w o.type r bm since c0 seen es clock hr hb hold hsc with ⟨h1, h2⟩ | ⟨e, he, w1, hw1, h2⟩
  ·unfold Oper.wp execOp
   simp only [ho, hit, Sem.run_bind, h2, Result.andThen_ok]; exact hK _ _ (h _ _ (.inl ⟨h1, rfl, rfl⟩))
  ·unfold Oper.wp execOp
   simp only [ho, hit, Sem.run_bind, h2, Result.andThen_ok]; exact hK _ _ (h _ _ (.inr ⟨e, he, w1, hw1, rfl, rfl⟩))
def visB (m : MS) (L : List (Nat × Nat)) (vis : List Nat) (n : Nat) : Option (List UInt8) := if vis.any (fun i => (L[i]?.map Prod.fst) == some n) then m.banks n else none
theorem visB_snoc (m : MS) (L : List (Nat × Nat)) (vis : List Nat) (i n g : Nat) (l : List UInt8) (hi : L[i]? = some (n, g)) (hb : m.banks n = some l) : visB m L (vis ++ [i]) = upd (visB m L vis) n l := by
 funext k
 unfold visB upd
 by_cases e : k = n
 ·subst e
  rw [if_pos rfl, if_pos (by simp [hi]), hb]
 ·rw [if_neg e]
  have : (vis ++ [i]).any (fun j => (L[j]?.map Prod.fst) == some k) = vis.any (fun j => (L[j]?.map Prod.fst) == some k) := by
   rw [List.any_append]; have h2 : ((L[i]?.map Prod.fst) == some k) = false := by rw [hi]; simp; omega
   simp only [List.any_cons, List.any_nil, h2, Bool.or_false]
  rw [this]
theorem visB_new (m : MS) (L : List (Nat × Nat)) (vis : List Nat) (i n g : Nat) (hi : L[i]? = some (n, g)) (hd : (L.map Prod.fst).Nodup) (hv : i ∉ vis) : visB m L vis n = none := by
 unfold visB
 rw [if_neg]
 intro c
 rw [List.any_eq_true] at c
 obtain ⟨j, hj, e⟩ := c
 have hjn : L[j]?.map Prod.fst = some n := by simpa using e
 have h1 : (L.map Prod.fst)[j]? = some n := by rw [List.getElem?_map]; exact hjn
 have h2 : (L.map Prod.fst)[i]? = some n := by rw [List.getElem?_map, hi]; rfl
 have a1 := (List.getElem?_eq_some_iff.1 h1)
 have a2 := (List.getElem?_eq_some_iff.1 h2)
 obtain ⟨l1, e1⟩ := a1
 obtain ⟨l2, e2⟩ := a2
 have := (List.getElem_inj (h₀ := l1) (h₁ := l2) hd).1 (by rw [e1, e2])
 subst this; exact hv hj
theorem visB_all (m : MS) (L : List (Nat × Nat)) (vis : List Nat) (hall : ∀ n l, m.banks n = some l -> ∃ g, (n, g) ∈ L) (hv : ∀ j, j < L.length -> j ∈ vis) : visB m L vis = m.banks := by
 funext n
 unfold visB
 split
 ·rfl
 ·next c =>
  cases hb : m.banks n with
  | none => rfl
  | some l =>
   obtain ⟨g, hg⟩ := hall n l hb; obtain ⟨j, hj, e⟩ := List.mem_iff_getElem.1 hg
   exfalso; apply c
   rw [List.any_eq_true]; exact ⟨j, hv j hj, by rw [List.getElem?_eq_getElem hj, e]; simp⟩
theorem MemP.retone {W : World} {F G : Nat -> Prop} {b : Nat} {m : MS} {mb : Nat} {L : List (Nat × Nat)} {tv tv' : Value} (h : MemP W F b m mb L tv) (ho : W.ownsRow 0 66 3 tv' m.tones.length (tc m.tones)) (fb : G b) (fmb : G mb) (fbk : ∀ p ∈ L, G p.2) (ft : ∀ g, tv'.ownBlock = some g -> G g) :
  MemP (W.setCell ⟨b, 19463, none⟩ tv') G b m mb L tv' := by
 have hne : ∀ g, tv'.ownBlock = some g -> g ≠ b := by
  intro g e c; subst c; obtain ⟨cur, e2⟩ := own_block ho g e; have := h.blk; rw [e2] at this; simp at this
 refine ⟨h.wf, ?_, (setCell_other _ _ _ _ _ h.ne_map).trans h.map, h.keys, h.lt16, h.blks, ?_, h.all, own_kept ho fun g e _ => setCell_other _ _ _ _ _ (hne g e), fb, fmb, fbk, ft⟩
 ·rw [setCell_heap W b 19463 _ 146 _ h.blk, show (19463 : Nat) = 19457 + 6 from rfl, mcells_set_reg mb m tv h.wf 6]; rfl
 ·intro p hp
  obtain ⟨l, e1, e2⟩ := h.bks p hp; exact ⟨l, e1, (setCell_other _ _ _ _ _ (h.ne_bk p hp)).trans e2⟩
def leftN (r n : Nat) (w : World) : Nat := match w.heap[r]? with | some (.mapIter _ _ seen _) => n - seen.size | _ => 0
structure CP (w wr : World) (m : MS) (mb : Nat) (L : List (Nat × Nat)) (tv : Value) (vis : List Nat) (L' : List (Nat × Nat)) : Prop where
 twin : MemP wr (fun k => w.heap.size <= k \/ tv.ownBlock = some k) w.heap.size { m with banks := visB m L vis } (w.heap.size + 1) L' tv
 fbk : ∀ p ∈ L', w.heap.size <= p.2
 it : wr.heap[w.heap.size + 2]? = some (.mapIter (some mb) L.length vis.toArray L.length)
 bel : Below w.heap.size w wr
 nd : vis.Nodup
 lt : ∀ i ∈ vis, i < L.length
theorem info86s : (Tryz.prog.info? 146).map (·.size) = some 19464 := by kernel_rfl
theorem info83s : (Tryz.prog.info? 143).map (·.size) = some 16384 := by kernel_rfl
theorem mcells_one (mb : Nat) (m : MS) (tv : Value) (ht : tv.oneCell' = true) : ∀ u ∈ mcells mb m tv, u.oneCell' = true := by
 intro u hu
 simp only [mcells, regs, List.mem_cons, List.mem_append, List.not_mem_nil, or_false] at hu
 rcases hu with rfl | hu | hu | rfl | rfl | rfl | rfl | rfl | rfl | rfl
 ·rfl
 ·exact bv_one _ u hu
 ·exact bv_one _ u hu
 all_goals first | rfl | exact ht
theorem nodup_len : ∀ (l : List Nat) (n : Nat), l.Nodup -> (∀ x ∈ l, x < n) -> l.length <= n
 | l, 0, _, h => by
  cases l with
  | nil => simp
  | cons a l => have := h a (by simp); omega
 | l, n + 1, hd, h => by
  by_cases c : n ∈ l
  ·have h1 := nodup_len (l.erase n) n (hd.erase n) (fun x hx => by
    have hx2 := List.mem_of_mem_erase hx; have := h x hx2; have hne : x ≠ n := by rintro rfl; exact (List.Nodup.not_mem_erase hd) hx
    omega)
   have h2 := List.length_erase_of_mem c
   omega
  ·have := nodup_len l n hd (fun x hx => by have := h x hx; have : x ≠ n := (by rintro rfl; exact c hx); omega)
   omega
theorem CP.round {w wr w1 W2 W4 : World} {m : MS} {mb : Nat} {L : List (Nat × Nat)} {tv : Value} {vis : List Nat} {L' : List (Nat × Nat)} {F : Nat -> Prop} {b : Nat} (h : CP w wr m mb L tv vis L') (hs : MemP w F b m mb L tv) (hw1 : w1 = wr \/ w1 = wr.drew) (i n g : Nat) (l : List UInt8) (hi : L[i]? = some (n, g)) (hv : i ∉ vis) (hb : m.banks n = some l)
  (hW2 : W2 = setBlock w1 (w.heap.size + 2) (.mapIter (some mb) L.length (vis.toArray.push i) L.length)) (hk4 : ∀ k, k < W2.heap.size -> W4.heap[k]? = W2.heap[k]?) (hz4 : W4.heap.size = W2.heap.size + 1) (h4 : Bk W4 W2.heap.size l) (o4 : W4.os = W2.os) (t4 : W4.tape = W2.tape) (q4 : W4.output = W2.output) :
  W4.cell? ⟨w.heap.size, 0, none⟩ = some (.map (some (w.heap.size + 1))) /\
  ∃ W5, (Instr.mapUpdate 142 (.map (some (w.heap.size + 1))) (.int .i64 (n : Int)) (.pointer (some ⟨W2.heap.size, 0, none⟩))).run Tryz.prog W4 = .ok () W5 /\ CP w W5 m mb L tv (vis ++ [i]) (L' ++ [(n, W2.heap.size)]) /\ leftN (w.heap.size + 2) L.length W5 < leftN (w.heap.size + 2) L.length wr := by
 have hit := lt_of h.it
 have z1 : w1.heap = wr.heap := by rcases hw1 with rfl | rfl <;> rfl
 have z2 : W2.heap.size = wr.heap.size := by rw [hW2, setBlock_size, z1]
 have k2 : ∀ k, k ≠ w.heap.size + 2 -> W2.heap[k]? = wr.heap[k]? := fun k hk => by rw [hW2, setBlock_other _ _ _ _ hk, z1]
 have i2 : W2.heap[w.heap.size + 2]? = some (.mapIter (some mb) L.length (vis.toArray.push i) L.length) := by rw [hW2]; exact setBlock_same w1 _ _ _ (by rw [z1]; exact h.it)
 have s1 : w1.os = wr.os /\ w1.tape = wr.tape /\ w1.output = wr.output := by rcases hw1 with rfl | rfl <;> exact ⟨rfl, rfl, rfl⟩
 have s2 : W2.os = wr.os /\ W2.tape = wr.tape /\ W2.output = wr.output := by rw [hW2]; exact s1
 have hlt : n < 16 := (hs.wf.bk n l hb).1
 have hll : l.length = 16384 := (hs.wf.bk n l hb).2
 have ni : ∀ k o, wr.heap[k]? = some o -> (∀ a c d e, o ≠ .mapIter a c d e) -> k ≠ w.heap.size + 2 := by
  rintro k o e hne rfl; rw [h.it] at e; exact hne _ _ _ _ (Option.some.inj e).symm
 have nN : w.heap.size ≠ w.heap.size + 2 := by omega
 have k4 : ∀ k, k < wr.heap.size -> k ≠ w.heap.size + 2 -> W4.heap[k]? = wr.heap[k]? := fun k hk hn => (hk4 k (by omega)).trans (k2 k hn)
 have hblk4 := (k4 _ (lt_of h.twin.blk) nN).trans h.twin.blk
 have hmb4 := (k4 _ (lt_of h.twin.map) (by omega)).trans h.twin.map
 have hnone : visB m L vis n = none := visB_new m L vis i n g hi hs.keys hv
 have hno : ∀ p ∈ L', p.1 ≠ n := by rintro p hp rfl; obtain ⟨l', e, _⟩ := h.twin.bks p hp; have e2 : visB m L vis p.1 = some l' := e; rw [hnone] at e2; cases e2
 have hput := run_put W4 (w.heap.size + 1) n W2.heap.size L' hmb4 hno
 refine ⟨cell_of W4 _ 0 _ 146 _ hblk4 (mcells_0 _ _ _), _, hput, ?_, ?_⟩
 ·-- the twin at W4 first: its blocks are as they were
  have hT4 : MemP W4 (fun k => w.heap.size <= k \/ tv.ownBlock = some k) w.heap.size { m with banks := visB m L vis } (w.heap.size + 1) L' tv :=
   {h.twin with
    blk := hblk4
    map := hmb4
    bks := fun p hp => by
     obtain ⟨l', e1, e2⟩ := h.twin.bks p hp; exact ⟨l', e1, (k4 _ (lt_of e2) (ni _ _ e2 (by intro _ _ _ _ c; cases c))).trans e2⟩
    tones := own_kept h.twin.tones fun x e hx => by
     obtain ⟨cur, e2⟩ := own_block h.twin.tones x e; exact k4 x hx (ni _ _ e2 (by intro _ _ _ _ c; cases c)) }
  have hgm : W2.heap.size ≠ w.heap.size + 1 := by have := lt_of h.twin.map; omega
  have hadd : MemP (setBlock W4 (w.heap.size + 1) (.map (ents 0 (L' ++ [(n, W2.heap.size)])).toArray (L' ++ [(n, W2.heap.size)]).length)) (fun k => w.heap.size <= k \/ tv.ownBlock = some k) w.heap.size { m with banks := upd (visB m L vis) n l } (w.heap.size + 1) (L' ++ [(n, W2.heap.size)]) tv := by
   have hTr : MemP wr (fun k => w.heap.size <= k \/ tv.ownBlock = some k) w.heap.size { m with banks := visB m L vis } (w.heap.size + 1) L' tv := h.twin; have hfresh : ∀ p ∈ L', p.2 < W2.heap.size := fun p hp => by obtain ⟨l', _, e⟩ := h.twin.bks p hp; have := lt_of e; omega
   refine ⟨⟨hT4.wf.ram, hT4.wf.scr, hT4.wf.ch0, hT4.wf.ch1, hT4.wf.pad0, hT4.wf.pad1, hT4.wf.pitch0, hT4.wf.pitch1, hT4.wf.vol0, hT4.wf.vol1, hT4.wf.time0, hT4.wf.time1, ?_⟩, ?_, setBlock_same _ _ _ _ hmb4, ?_, ?_, ?_, ?_, ?_, ?_, hT4.fb, hT4.fmb, ?_, hT4.ft⟩
   ·intro k l' e
    simp only [upd] at e
    split at e
    ·cases e; next c => subst c; exact ⟨hlt, hll⟩
    ·exact hT4.wf.bk k l' e
   ·exact (setBlock_other _ _ _ _ hT4.ne_map.symm).trans hblk4
   ·rw [List.map_append, List.nodup_append]
    refine ⟨hT4.keys, by simp, ?_⟩; intro a ha c hc e
    simp at hc ha
    obtain ⟨x, hx⟩ := ha; exact hno _ hx (by simp; omega)
   ·intro p hp
    rcases List.mem_append.1 hp with hp | hp
    ·exact hT4.lt16 p hp
    ·simp at hp; subst hp; exact hlt
   ·rw [List.map_append, List.nodup_append]
    refine ⟨hT4.blks, by simp, ?_⟩; intro a ha c hc e
    simp at hc ha
    obtain ⟨x, hx⟩ := ha; have := hfresh _ hx
    simp at this
    omega
   ·intro p hp
    rcases List.mem_append.1 hp with hp | hp
    ·obtain ⟨l', e1, e2⟩ := hT4.bks p hp
     refine ⟨l', by simp only [upd, if_neg (hno p hp)]; exact e1, ?_⟩; exact (setBlock_other _ _ _ _ (hT4.ne_bk_map p hp).symm).trans e2
    ·simp at hp; subst hp
     exact ⟨l, by simp [upd], (setBlock_other _ _ _ _ hgm).trans h4⟩
   ·intro k l' e
    simp only [upd] at e
    split at e
    ·next c => subst c; exact ⟨W2.heap.size, by simp⟩
    ·obtain ⟨y, hy⟩ := hT4.all k l' e; exact ⟨y, by simp [hy]⟩
   ·exact own_kept hT4.tones fun k e hk2 => setBlock_other _ _ _ _ (hT4.ne_t_map k e).symm
   ·intro p hp
    rcases List.mem_append.1 hp with hp | hp
    ·exact hT4.fbk p hp
    ·simp at hp; subst hp; exact .inl (by have := lt_of h.twin.blk; simp; omega)
  refine ⟨by rw [visB_snoc m L vis i n g l hi hb]; exact hadd, ?_, ?_, ?_, ?_, ?_⟩
  ·intro p hp
   rcases List.mem_append.1 hp with hp | hp
   ·exact h.fbk p hp
   ·simp at hp; subst hp; have := lt_of h.twin.blk; simp; omega
  ·have : (vis ++ [i]).toArray = vis.toArray.push i := by simp
   rw [this]; exact (setBlock_other _ _ _ _ (by omega)).trans ((hk4 _ (by omega)).trans i2)
  ·have hb4 : Below w.heap.size w W4 := ⟨(o4.trans s2.1).trans h.bel.os, (t4.trans s2.2.1).trans h.bel.tape, (q4.trans s2.2.2).trans h.bel.output, by have := h.bel.size; omega, fun k hk => (k4 k (by have := h.bel.size; omega) (by omega)).trans (h.bel.block k hk)⟩
   exact Below.setBlock hb4 _ (by omega) _
  ·rw [List.nodup_append]; exact ⟨h.nd, by simp, by intro a ha c hc e; simp at hc; subst hc; subst e; exact hv ha⟩
  ·intro x hx
   rcases List.mem_append.1 hx with hx | hx
   ·exact h.lt x hx
   ·simp at hx; subst hx; exact (List.getElem?_eq_some_iff.1 hi).1
 ·have e5 : (setBlock W4 (w.heap.size + 1) (.map (ents 0 (L' ++ [(n, W2.heap.size)])).toArray (L' ++ [(n, W2.heap.size)]).length)).heap[w.heap.size + 2]? = some (.mapIter (some mb) L.length (vis.toArray.push i) L.length) :=
   (setBlock_other _ _ _ _ (by omega)).trans ((hk4 _ (by omega)).trans i2)
  have hvl : vis.length < L.length := by
   have hsub : (vis ++ [i]).Nodup := by
    rw [List.nodup_append]; exact ⟨h.nd, by simp, by intro a ha c hc e; simp at hc; subst hc; subst e; exact hv ha⟩
   have h2 : ∀ x ∈ vis ++ [i], x ∈ List.range L.length := by
    intro x hx
    rcases List.mem_append.1 hx with hx | hx
    ·exact List.mem_range.2 (h.lt x hx)
    ·simp at hx; subst hx; exact List.mem_range.2 (List.getElem?_eq_some_iff.1 hi).1
   have := nodup_len (vis ++ [i]) L.length hsub fun x hx => List.mem_range.1 (h2 x hx)
   simp at this; omega
  unfold leftN; rw [e5, h.it]
  simp
  omega
theorem CP.start {w : World} {F : Nat -> Prop} {b : Nat} {m : MS} {mb : Nat} {L : List (Nat × Nat)} {tv : Value} (h : MemP w F b m mb L tv) (wB wD wE : World) (hB : wB.heap[w.heap.size]? = some (.cells (mcells mb m tv).toArray 146 (0, 0))) (zB : wB.heap.size = w.heap.size + 1) (bB : Below w.heap.size w wB)
  (eD : wD = (wB.alloc (.map #[] 0)).setCell ⟨w.heap.size, 0, none⟩ (.map (some (w.heap.size + 1)))) (eE : wE = wD.alloc (.mapIter (some mb) L.length #[] L.length)) :
  CP w wE m mb L tv [] [] /\ wD.heap[mb]? = some (.map (ents 0 L).toArray L.length) /\ wD.heap.size = w.heap.size + 2 := by
 have c0 : (wB.alloc (.map #[] 0)).heap[w.heap.size]? = some (.cells (mcells mb m tv).toArray 146 (0, 0)) := (Below.heap_alloc _ _ _ (by omega)).trans hB
 have d0 : wD.heap[w.heap.size]? = some (.cells (mcells (w.heap.size + 1) m tv).toArray 146 (0, 0)) := by rw [eD, setCell_heap _ _ 0 _ 146 _ c0, mcells_set_0]
 have zD : wD.heap.size = w.heap.size + 2 := by rw [eD, setCell_size]; simp; omega
 have d1 : wD.heap[w.heap.size + 1]? = some (.map #[] 0) := by
  rw [eD, setCell_other _ _ _ _ _ (by omega), <- zB]; exact heap_alloc_new wB _
 have bD : Below w.heap.size w wD := by rw [eD]; exact (bB.alloc bB.size _).setCell (p := ⟨w.heap.size, 0, none⟩) (Nat.le_refl _) _
 have kE : ∀ k, k < wD.heap.size -> wE.heap[k]? = wD.heap[k]? := fun k hk => by rw [eE]; exact Below.heap_alloc wD _ k hk
 have bE : Below w.heap.size w wE := by rw [eE]; exact bD.alloc (by omega) _
 refine ⟨⟨?_, by simp, ?_, bE, by simp, by simp⟩, (bD.block _ (lt_of h.map)).trans h.map, zD⟩
 ·refine ⟨⟨h.wf.ram, h.wf.scr, h.wf.ch0, h.wf.ch1, h.wf.pad0, h.wf.pad1, h.wf.pitch0, h.wf.pitch1, h.wf.vol0, h.wf.vol1, h.wf.time0, h.wf.time1, by intro n l e; simp [visB] at e⟩, (kE _ (by omega)).trans d0, (kE _ (by omega)).trans d1, by simp, by simp, by simp, by simp, by intro n l e; simp [visB] at e, ?_, .inl (Nat.le_refl _), .inl (by omega), by simp, fun g e => .inr e⟩
  exact own_kept h.tones fun g e hg => bE.block g hg
 ·rw [eE, <- zD]; exact heap_alloc_new wD _
theorem own_form0 {w : World} {B : Nat} {e : TypeId} {size : Nat} {v : Value} {n : Nat} {xs : List Value} (h : w.ownsRow B e size v n xs) : ∃ p cap, v = .slice p n cap := by
 rcases h.2 with ⟨h, e⟩ | ⟨g, cap, cur, h1, _⟩
 ·exact ⟨none, 0, by rw [h, e]⟩
 ·exact ⟨_, cap, h1⟩
set_option maxHeartbeats 4000000
set_option maxRecDepth 100000
theorem copy_any (b : Nat) (w : World) {F : Nat -> Prop} {m : MS} (hm : HasM w F b m) (ht : m.tones.length <= 1000000) :
  Calls Tryz.prog 52 #[.pointer (some ⟨b, 0, none⟩)] w fun e w' => ∃ b', e = .returned (.pointer (some ⟨b', 0, none⟩)) /\ HasM w' (fun k => w.heap.size <= k) b' m /\ Below w.heap.size w w' := by
 obtain ⟨mb, L, tv, hm⟩ := hm
 have hone : tv.oneCell' = true := by rcases hm.tones.2 with ⟨e, _⟩ | ⟨g, cap, cur, e, _⟩ <;> (rw [e]; rfl)
 have z86 := zeroValue86
 have z83 := zeroValue83
 have hmm := @run_makeMap Tryz.prog
 have hsz : (mcells mb m tv).toArray.size = 19464 := by rw [List.size_toArray]; exact mcells_len mb m tv hm.wf
 have hz86 : zero86.toArray.size = 19464 := by rw [List.size_toArray]; exact zero86_len
 have h86 : (w.alloc (.cells zero86.toArray 146)).heap[w.heap.size]? = some (.cells zero86.toArray 146 (0, 0)) := heap_alloc_new w _
 have hall : (mcells mb m tv).toArray.all (·.oneCell') = true := by rw [List.all_toArray, List.all_eq_true]; exact mcells_one mb m tv hone
 obtain ⟨wB, hwB⟩ : ∃ wB, (w.alloc (.cells zero86.toArray 146)).setRow w.heap.size (mcells mb m tv).toArray = wB := ⟨_, rfl⟩
 have bB0 : wB.heap[w.heap.size]? = some (.cells (mcells mb m tv).toArray 146 (0, 0)) := by rw [<- hwB]; exact setRow_eq _ _ zero86 146 _ h86
 have zB : wB.heap.size = w.heap.size + 1 := by rw [<- hwB, size_setRow]; simp
 have bB : Below w.heap.size w wB := by
  rw [<- hwB]; exact ⟨rfl, rfl, rfl, by rw [size_setRow]; simp, fun k hk => (setRow_other _ _ _ _ (by omega)).trans (Below.heap_alloc w _ k hk)⟩
 obtain ⟨wD, hwD⟩ : ∃ wD, (wB.alloc (.map #[] 0)).setCell ⟨w.heap.size, 0, none⟩ (.map (some (w.heap.size + 1))) = wD := ⟨_, rfl⟩
 obtain ⟨hCP, hmD, zD⟩ := CP.start hm wB wD _ bB0 zB bB hwD.symm rfl
 have hrg := run_range_map (P := Tryz.prog) wD 142 3 176 mb _ _ Tryz.underlying142 hmD
 have cN : (wB.alloc (.map #[] 0)).cell? ⟨w.heap.size, 0, none⟩ = some (.map (some mb)) := cell_of _ _ 0 _ 146 _ ((Below.heap_alloc _ _ _ (by omega)).trans bB0) (mcells_0 _ _ _)
 have zN := frozen_of (wB.alloc (.map #[] 0)) w.heap.size 0 _ 146 ((Below.heap_alloc _ _ _ (by omega)).trans bB0)
 have cS : wD.cell? ⟨b, 0, none⟩ = some (.map (some mb)) := cell_of _ _ 0 _ 146 _ (by rw [<- hwD, setCell_other _ _ _ _ _ (by have := lt_of hm.blk; omega), Below.heap_alloc _ _ _ (by have := lt_of hm.blk; omega)]; exact (bB.block _ (lt_of hm.blk)).trans hm.blk) (mcells_0 _ _ _)
 rw [zD] at hrg
 have HM : Hid _ := hm
 have HC : Hid _ := hCP
 have hwbk := hm.blk
 clear hm hCP hmD bB bB0
 go_enter Tryz.func52, Tryz.ntmps52
 go_wp2_with (first
  | (refine wpList_load_row rfl 146 (.tmp 10) rfl b (by simp [Act.eval]) 146 (mcells mb m tv).toArray (0, 0) _ hwbk Tryz.underlying146 rfl (by rw [info86s, hsz]) ?_)
  | (refine wpList_store_row rfl 146 (.tmp 3) (.tmp 11) rfl w.heap.size (mcells mb m tv).toArray (by simp [Act.eval]) (by simp [Act.eval]) 146 zero86.toArray h86 (by rw [info86s, hsz]) (by rw [hz86, hsz]) hall ?_))
 clear cN zN cS hwB hwD hrg z86 hmm h86 hall hsz hz86 hwbk
 go_loopw [] (fun wr => ∃ (vis : List Nat) (L' : List (Nat × Nat)), CP w wr m mb L tv vis L') (fun wr => leftN (w.heap.size + 2) L.length wr)
 case atStart => exact ⟨[], [], HC.out⟩
 case round =>
  clear HC; obtain ⟨vis, L', hC⟩ := hrel
  have hborn : ∀ x ∈ (ents 0 L).toArray.toList, x.born < L.length := by
   intro x hx; obtain ⟨j, p, h1, h2⟩ := (ents_mem L 0 x).1 (by simpa using hx); have := (List.getElem?_eq_some_iff.1 h1).1; rw [h2]; simp; omega
  have hmap := (hC.bel.block _ (lt_of HM.out.map)).trans HM.out.map; go_wp2_with (first | (refine wpList_next_law rfl (.tmp 18) rfl (w.heap.size + 2) mb L.length L.length vis.toArray (ents 0 L).toArray L.length (by simp [Act.eval]) hC.it hmap hborn (Nat.le_refl _) ?_))
  intro v w' hcase; unfold NX at hcase
  rcases hcase with ⟨h0, rfl, rfl⟩ | ⟨e, he, w1, hw1, rfl, hW2⟩
  ·have hvall : ∀ j, j < L.length -> j ∈ vis := by
    intro j hj
    by_cases c : j ∈ vis
    ·exact c
    exfalso
    have hmem : ({ key := .int .i64 ((L[j]).1 : Int), val := .pointer (some ⟨(L[j]).2, 0, none⟩), born := 0 + j } : MapEntry) ∈ ents 0 L := (ents_mem L 0 _).2 ⟨j, L[j], List.getElem?_eq_getElem hj, rfl⟩; have : leftOf (ents 0 L).toArray vis.toArray = #[] := Array.eq_empty_of_size_eq_zero h0; unfold leftOf at this; rw [Array.filter_eq_empty_iff] at this; have h3 := this _ (by simpa using hmem)
    simp at h3
    exact c h3
   have hvb := visB_all m L vis HM.out.all hvall; have hT : MemP w' (fun k => w.heap.size <= k \/ tv.ownBlock = some k) w.heap.size m (w.heap.size + 1) L' tv := by have := hC.twin; rw [hvb] at this; exact this
   have c9 : w'.cell? ⟨b, 19463, none⟩ = some tv := cell_of _ _ (19457 + 6) _ 146 _ ((hC.bel.block _ (lt_of HM.out.blk)).trans HM.out.blk) ((mcells_reg mb m tv HM.out.wf 6).trans rfl); have hct := cloneT_any tv m.tones ht w' (own_kept HM.out.tones fun g e hg => hC.bel.block g hg); have HT : Hid _ := hT; have HCf : Hid _ := hC; clear hT hC hvb hvall hmap hborn h0; go_wp2_with fail
   refine hct.mono ?_; rintro e9 w2 ⟨u9, rfl, hT9, hb9⟩; have hT2 := HT.out.kept (W' := w2) fun i hi _ => hb9.block i hi
   have hN := HCf.out.bel.size; have hfin := hT2.retone (G := fun k => w.heap.size <= k) (own_mono hT9 (Nat.zero_le _)) (Nat.le_refl _) (by omega) HCf.out.fbk (fun g e => by have := (hT9.lt g e).1; omega); have hbl : Below w.heap.size w (w2.setCell ⟨w.heap.size, 19463, none⟩ u9) := (HCf.out.bel.trans (hb9.mono hN)).setCell (p := ⟨w.heap.size, 19463, none⟩) (Nat.le_refl _) _; have k9 := cell_of w2 w.heap.size (19457 + 6) _ 146 _ hT2.blk ((mcells_reg _ m tv HM.out.wf 6).trans rfl); have z9 := frozen_of w2 w.heap.size 19463 _ 146 hT2.blk; simp only [Nat.reduceAdd] at k9; obtain ⟨p9, c99, rfl⟩ := own_form0 hT9; have HF : Hid _ := hfin; have HBl : Hid _ := hbl; clear hfin hbl hT2 hT9 hb9 hct c9; go_wp2; go_ret; exact ⟨_, rfl, ⟨_, _, _, HF.out⟩, HBl.out⟩
  ·have hmem : e ∈ ents 0 L /\ e.born ∉ vis := by
    unfold leftOf at he
    simp at he
    exact ⟨he.1, by simpa using he.2⟩
   obtain ⟨j, p, hj, rfl⟩ := (ents_mem L 0 e).1 hmem.1; obtain ⟨n, g⟩ := p; have hv : j ∉ vis := by simpa using hmem.2
   obtain ⟨l, hbn, hbk⟩ := HM.out.bks (n, g) (List.mem_of_getElem? hj); simp only [Nat.zero_add] at hW2 hmem; have z1 : w1.heap = wr.heap := by rcases hw1 with rfl | rfl <;> rfl
   have hgr : g ≠ w.heap.size + 2 := by have := lt_of hbk; omega
   have hmr : mb ≠ w.heap.size + 2 := by have := lt_of HM.out.map; omega
   have hit2 : w'.heap[w.heap.size + 2]? = some (.mapIter (some mb) L.length (vis.toArray.push j) L.length) := by rw [hW2]; exact setBlock_same w1 _ _ _ (by rw [z1]; exact hC.it)
   have hmap2 : w'.heap[mb]? = some (.map (ents 0 L).toArray L.length) := by rw [hW2, setBlock_other _ _ _ _ hmr, z1]; exact hmap
   have hen := run_entry_at (P := Tryz.prog) w' (w.heap.size + 2) mb L.length vis.toArray (ents 0 L).toArray L.length { key := .int .i64 (n : Int), val := .pointer (some ⟨g, 0, none⟩), born := j } hit2 hmap2 (by simpa using hmem.1) (by simp only []; rw [ents_born]; exact List.nodup_range'); have hbk2 : w'.heap[g]? = some (.cells (bv l).toArray 143 (0, 0)) := by rw [hW2, setBlock_other _ _ _ _ hgr, z1]; exact (hC.bel.block _ (lt_of hbk)).trans hbk
   have hll := (HM.out.wf.bk n l hbn).2; have hs83 : (bv l).toArray.size = 16384 := by rw [List.size_toArray, bv_len]; exact hll
   have hz83 : zero83.toArray.size = 16384 := by rw [List.size_toArray]; exact zero83_len
   have hall : (bv l).toArray.all (·.oneCell') = true := by rw [List.all_toArray, List.all_eq_true]; exact bv_one l
   have h83 : (w'.alloc (.cells zero83.toArray 143)).heap[w'.heap.size]? = some (.cells zero83.toArray 143 (0, 0)) := heap_alloc_new w' _; obtain ⟨W4, hW4⟩ : ∃ W4, (w'.alloc (.cells zero83.toArray 143)).setRow w'.heap.size (bv l).toArray = W4 := ⟨_, rfl⟩
   have h4 : Bk W4 w'.heap.size l := by rw [<- hW4]; exact setRow_eq _ _ zero83 143 _ h83
   have z4 : W4.heap.size = w'.heap.size + 1 := by rw [<- hW4, size_setRow]; simp
   have k4 : ∀ k, k < w'.heap.size -> W4.heap[k]? = w'.heap[k]? := fun k hk => by rw [<- hW4]; exact (setRow_other _ _ _ _ (by omega)).trans (Below.heap_alloc w' _ k hk)
   obtain ⟨cN4, W5, hput, hC5, hlt5⟩ := hC.round HM.out hw1 j n g l hj hv hbn hW2 k4 z4 h4 (by rw [<- hW4]; rfl) (by rw [<- hW4]; rfl) (by rw [<- hW4]; rfl); have HC5 : Hid _ := hC5; have HL5 : Hid _ := hlt5; clear hC5 hlt5 hC hmap hborn he hmem hit2 hmap2 h4 z4 k4 hW2 hw1 z1 hv hj hbn hbk hll
   go_wp2_with (first
    | (refine wpList_load_row rfl 143 (.tmp 25) rfl g (by simp [Act.eval]) 143 (bv l).toArray (0, 0) _ hbk2 Tryz.underlying143 rfl (by rw [info83s, hs83]) ?_)
    | (refine wpList_store_row rfl 143 (.tmp 6) (.tmp 26) rfl w'.heap.size (bv l).toArray (by simp [Act.eval]) (by simp [Act.eval]) 143 zero83.toArray h83 (by rw [info83s, hs83]) (by rw [hz83, hs83]) hall ?_))
   go_roundw
   case rel =>
    first
     | exact ⟨_, _, HC5.out⟩
     | ((repeat apply Exists.intro); exact ⟨⟨_, _, HC5.out⟩, rfl⟩)
   case measure => exact HL5.out
end Go.Proofs.YteldjmecomngeaaGreat.M
