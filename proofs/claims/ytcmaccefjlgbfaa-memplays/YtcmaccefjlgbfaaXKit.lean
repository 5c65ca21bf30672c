import Derived.Test.YtcmaccefjlgbfaaRRest
import Derived.Test.YtcmaccefjlgbfaaPRestW
import Derived.Test.YtcmaccefjlgbfaaBack
import Derived.Test.YtcmaccefjlgbfaaImageKit
/-! MemRestores: the image that is tried. -/
namespace Go.Proofs.Ytcmaccefjlgbfaa
open Go.RowKit
open Go.Proofs
set_option linter.unusedVariables false
set_option linter.unusedSimpArgs false
/-! ### The banks in order are the banks -/
theorem pw_of (bs : List (Int × List UInt8)) (h : Good bs bs.length) : bs.Pairwise fun a b => a.1 < b.1 := by
  rw [List.pairwise_iff_getElem]
  intro i j hi hj hij
  have h1 := good_le bs j (by omega) (h.mono (by omega)) i bs[i] hij (List.getElem?_eq_getElem hi)
  have h2 := h j bs[j] hj (List.getElem?_eq_getElem hj)
  omega
theorem filt_step (k : Int) : ∀ (bs : List (Int × List UInt8)), (bs.Pairwise fun a b => a.1 < b.1) → bs.filter (fun t => decide (t.1 < k + 1)) = bs.filter (fun t => decide (t.1 < k)) ++ (bs.find? fun t => t.1 == k).toList
  | [], _ => rfl
  | t :: r, h => by
    rw [List.pairwise_cons] at h
    have ih := filt_step k r h.2
    by_cases c1 : t.1 < k
    · have e1 : decide (t.1 < k + 1) = true := by simp; omega
      have e2 : decide (t.1 < k) = true := by simpa using c1
      have e3 : (t.1 == k) = false := by simp; omega
      simp only [List.filter_cons, e1, e2, List.find?_cons, e3, if_true, List.cons_append, ih]
    · have hr : ∀ x ∈ r, k < x.1 := fun x hx => by have := h.1 x hx; omega
      have f1 : r.filter (fun t => decide (t.1 < k + 1)) = [] := by rw [List.filter_eq_nil_iff]; intro x hx; have := hr x hx; simp; omega
      have f2 : r.filter (fun t => decide (t.1 < k)) = [] := by rw [List.filter_eq_nil_iff]; intro x hx; have := hr x hx; simp; omega
      have e2 : decide (t.1 < k) = false := by simpa using c1
      by_cases c2 : t.1 = k
      · have e1 : decide (t.1 < k + 1) = true := by simp; omega
        have e3 : (t.1 == k) = true := by simpa using c2
        simp [List.filter_cons, e1, e2, e3, f1, f2]
      · have e1 : decide (t.1 < k + 1) = false := by simp; omega
        have e3 : (t.1 == k) = false := by simpa using c2
        have f3 : r.find? (fun t => t.1 == k) = none := by rw [List.find?_eq_none]; intro x hx; have := hr x hx; simp; omega
        simp [List.filter_cons, e1, e2, List.find?_cons, e3, f1, f2, f3]
theorem inO_filter (bs : List (Int × List UInt8)) (hp : bs.Pairwise fun a b => a.1 < b.1) (h0 : ∀ t ∈ bs, 0 ≤ t.1) (m : MS) (hm : m.banks = nbk bs) : ∀ k : Nat, inO m k = (bs.filter fun t => decide (t.1 < (k : Int))).map fun t => (t.1, pad t.2)
  | 0 => by
    have : bs.filter (fun t => decide (t.1 < ((0 : Nat) : Int))) = [] := by rw [List.filter_eq_nil_iff]; intro x hx; have := h0 x hx; simp; omega
    rw [this]; rfl
  | k + 1 => by
    have ih := inO_filter bs hp h0 m hm k
    have hs := filt_step (k : Int) bs hp
    rw [show (((k + 1 : Nat)) : Int) = (k : Int) + 1 by omega, hs, List.map_append, ← ih]
    cases hf : bs.find? (fun t => t.1 == (k : Int)) with
    | none =>
      have : m.banks k = none := by rw [hm, nbk, hf]; rfl
      rw [inO_none m k this]; simp
    | some t =>
      have he : t.1 = (k : Int) := by have := List.find?_some hf; simpa using this
      have : m.banks k = some (pad t.2) := by rw [hm, nbk, hf]; rfl
      rw [inO_some m k _ this]; simp [he]
theorem inO_all (bs : List (Int × List UInt8)) (hm : mayB (-1) bs = true) (hf : allF bs = true) (m : MS) (hb : m.banks = nbk bs) : inO m 16 = bs := by
  have hG := good_of bs hm bs.length (Nat.le_refl _)
  have h0 : ∀ t ∈ bs, 0 ≤ t.1 ∧ t.1 < 16 := by
    intro t ht
    obtain ⟨j, hj, e⟩ := List.mem_iff_getElem.1 ht
    have h1 := good_le bs bs.length (Nat.le_refl _) hG j t hj (by rw [List.getElem?_eq_getElem hj, e])
    have h2 := hG j t hj (by rw [List.getElem?_eq_getElem hj, e])
    omega
  rw [inO_filter bs (pw_of bs hG) (fun t ht => (h0 t ht).1) m hb 16]
  have e1 : bs.filter (fun t => decide (t.1 < ((16 : Nat) : Int))) = bs := by
    rw [List.filter_eq_self]; intro t ht; have := (h0 t ht).2; simpa using this
  rw [e1]
  have hl : ∀ t ∈ bs, pad t.2 = t.2 := by
    intro t ht
    rw [allF, List.all_eq_true] at hf
    have := hf t ht
    simp at this
    rw [pad, this]; simp
  have : ∀ (l : List (Int × List UInt8)), (∀ t ∈ l, pad t.2 = t.2) → l.map (fun t => (t.1, pad t.2)) = l := by
    intro l
    induction l with
    | nil => intro _; rfl
    | cons a l ih => intro h; rw [List.map_cons, ih fun t ht => h t (List.mem_cons_of_mem _ ht), h a (by simp)]
  exact this bs hl
/-! ### The image in the box -/
open Go.ChangeMaps (setBlock)
/-- The world without the box. -/
def bx (W : World) (N : Nat) : World := setBlock W N (.map #[] 0)
theorem bl_cell {W : World} {N : Nat} {a : Addr} {v : Value} (h : (bx W N).cell? a = some v) : a.block ≠ N ∧ a.block < W.heap.size ∧ W.cell? a = some v := by
  have hlt := World.block_lt_of_cell? _ a h
  have hz : (bx W N).heap.size = W.heap.size := setBlock_size W N _
  by_cases e : a.block = N
  · exfalso
    have hN : (bx W N).heap[a.block]? = some (.map #[] 0) := by
      rw [e]; rw [e, hz] at hlt
      exact setBlock_same W N _ W.heap[N] (Array.getElem?_eq_getElem hlt)
    simp [World.cell?, hN] at h
  · exact ⟨e, by omega, by rw [← World.cell?_of_block (w := W) (w' := bx W N) (setBlock_other W N a.block _ e)]; exact h⟩
theorem bl_to {W W' : World} {N : Nat} {a : Addr} {v : Value} (h : (bx W N).cell? a = some v) (k : ∀ i, i ≠ N → i < W.heap.size → W'.heap[i]? = W.heap[i]?) : (bx W' N).cell? a = some v := by
  obtain ⟨h1, h2, h3⟩ := bl_cell h
  rw [World.cell?_of_block (w := W) (w' := bx W' N) ((setBlock_other W' N a.block _ h1).trans (k _ h1 h2))]
  exact h3
theorem to_bl {W W' : World} {N : Nat} {a : Addr} {v : Value} (h : W.cell? a = some v) (hN : W.heap.size ≤ N) (k : ∀ i, i < W.heap.size → W'.heap[i]? = W.heap[i]?) : (bx W' N).cell? a = some v := by
  have hlt := World.block_lt_of_cell? W a h
  rw [World.cell?_of_block (w := W) (w' := bx W' N) ((setBlock_other W' N a.block _ (by omega)).trans (k _ hlt))]
  exact h
structure XS (w wc : World) (m : MS) (u rv sv : Value) (bs : List (Int × List UInt8)) (ram scr : List UInt8) : Prop where
  blk : wc.heap[w.heap.size]? = some (.cells (imgC u rv sv m).toArray 56 (0, 0))
  bel : Below w.heap.size w wc
  bn : ∃ p c, u = .slice p bs.length c ∧ BnS (bx wc w.heap.size) p bs
  rs : Sl (bx wc w.heap.size) rv ram
  ss : Sl (bx wc w.heap.size) sv scr
  bl : bs.length * 32 ≤ room
  dl : ∀ t ∈ bs, t.2.length + 1 ≤ room
  rl : ram.length ≤ room
  sl : scr.length ≤ room
theorem XS.siz {w wc : World} {m : MS} {u rv sv : Value} {bs : List (Int × List UInt8)} {ram scr : List UInt8} (h : XS w wc m u rv sv bs ram scr) : w.heap.size < wc.heap.size := lt_of h.blk
theorem XS.BN {w wc : World} {m : MS} {u rv sv : Value} {bs : List (Int × List UInt8)} {ram scr : List UInt8} (h : XS w wc m u rv sv bs ram scr) : ∃ p c, u = .slice p bs.length c ∧ BnS wc p bs := by
  obtain ⟨p, c, e, hb⟩ := h.bn; exact ⟨p, c, e, hb.kept fun a u e => (bl_cell e).2.2⟩
theorem XS.RS {w wc : World} {m : MS} {u rv sv : Value} {bs : List (Int × List UInt8)} {ram scr : List UInt8} (h : XS w wc m u rv sv bs ram scr) : Sl wc rv ram := h.rs.kept fun a u e _ => (bl_cell e).2.2
theorem XS.SS {w wc : World} {m : MS} {u rv sv : Value} {bs : List (Int × List UInt8)} {ram scr : List UInt8} (h : XS w wc m u rv sv bs ram scr) : Sl wc sv scr := h.ss.kept fun a u e _ => (bl_cell e).2.2
/-- Another world, the same but for the box. -/
theorem XS.next {w wc W2 : World} {m : MS} {u rv sv : Value} {bs : List (Int × List UInt8)} {ram scr : List UInt8} (h : XS w wc m u rv sv bs ram scr) (k : ∀ i, i ≠ w.heap.size → i < wc.heap.size → W2.heap[i]? = wc.heap[i]?) (hb : Below w.heap.size w W2)
    (hk : W2.heap[w.heap.size]? = wc.heap[w.heap.size]?) : XS w W2 m u rv sv bs ram scr := by
  obtain ⟨p, c, e, hbn⟩ := h.bn
  exact ⟨hk.trans h.blk, hb, ⟨p, c, e, hbn.kept fun a u e => bl_to e k⟩, h.rs.kept fun a u e _ => bl_to e k, h.ss.kept fun a u e _ => bl_to e k, h.bl, h.dl, h.rl, h.sl⟩
theorem XS.below {w wc W2 : World} {m : MS} {u rv sv : Value} {bs : List (Int × List UInt8)} {ram scr : List UInt8} (h : XS w wc m u rv sv bs ram scr) (hb : Below wc.heap.size wc W2) : XS w W2 m u rv sv bs ram scr :=
  h.next (fun i _ hi => hb.block i hi) (h.bel.trans (hb.mono (Nat.le_of_lt h.siz))) (hb.block _ h.siz)
def XX (w wc : World) (m : MS) : Prop := ∃ u rv sv bs ram scr, XS w wc m u rv sv bs ram scr
theorem XS.start (w : World) (m : MS) (p : Option Addr) (c : Nat) (bs : List (Int × List UInt8)) (rp sp : Option Addr) (rc sc' : Nat) (ram scr : List UInt8) (h : BnS w p bs) (hl : bs.length * 32 ≤ room) (hd : ∀ t ∈ bs, t.2.length + 1 ≤ room)
    (hr : Sl w (.slice rp ram.length rc) ram) (hs : Sl w (.slice sp scr.length sc') scr) (hrl : ram.length ≤ room) (hsl : scr.length ≤ room) :
    XS w (w.alloc (.cells (imgC (.slice p bs.length c) (.slice rp ram.length rc) (.slice sp scr.length sc') m).toArray 56)) m (.slice p bs.length c) (.slice rp ram.length rc) (.slice sp scr.length sc') bs ram scr := by
  have hb : Below w.heap.size w (w.alloc (.cells (imgC (.slice p bs.length c) (.slice rp ram.length rc) (.slice sp scr.length sc') m).toArray 56)) := (Below.refl _ w).alloc (Nat.le_refl _) _
  have t : ∀ a u, w.cell? a = some u → (bx (w.alloc (.cells (imgC (.slice p bs.length c) (.slice rp ram.length rc) (.slice sp scr.length sc') m).toArray 56)) w.heap.size).cell? a = some u := fun a u e => to_bl e (Nat.le_refl _) fun i hi => hb.block i hi
  exact ⟨heap_alloc_new w _, hb, ⟨_, _, rfl, h.kept t⟩, hr.kept fun a u e _ => t a u e, hs.kept fun a u e _ => t a u e, hl, hd, hrl, hsl⟩
/-- Cut to n, and filled up to n. -/
def ptk (n : Nat) (l : List UInt8) : List UInt8 := padN n (l.take n)
theorem ptk_len (n : Nat) (l : List UInt8) : (ptk n l).length = n := padN_len n _ (by rw [List.length_take]; omega)
/-- A row of zeros. -/
def zr (n : Nat) : List UInt8 := List.replicate n 0
/-- Bytes are copied into a new row. -/
theorem run_copy_new (W : World) (g n : Nat) (v : Value) (l : List UInt8) (hg : W.heap[g]? = some (.cells (bv (zr n)).toArray 5 (0, 0))) (hs : Sl W v l) :
    ∃ W', (∀ ty, (Builtin.copy_ #[35, 35] ty #[.slice (some ⟨g, 0, none⟩) n n, v]).run Try.prog W = .ok (.int .i64 ((min l.length n : Nat) : Int)) W') ∧ B5 W' g (ptk n l) ∧ (∀ k, k ≠ g → W'.heap[k]? = W.heap[k]?) ∧ W'.heap.size = W.heap.size ∧ W'.os = W.os ∧ W'.tape = W.tape ∧ W'.output = W.output := by
  unfold zr at hg
  rcases hs with ⟨rfl, rfl⟩ | ⟨x, c, rfl, hc, hcell⟩
  · refine ⟨W, fun ty => by rw [run_copy_nil (P := Try.prog) W 35 35 ty 5 _ _ _ Try.underlying35 (by rw [info5s]; rfl)]; simp [goInt], ?_, fun _ _ => rfl, rfl, rfl, rfl, rfl⟩
    unfold B5 ptk padN
    rw [hg]; simp
  · have hln : (l.take n).length = min l.length n := by rw [List.length_take, Nat.min_comm]
    have hr := fun ty => run_copy_row (P := Try.prog) W 35 35 ty 5 g 0 n n x l.length c (bv (List.replicate n 0)).toArray 5 (bv (l.take n)) Try.underlying35 info5s hg (by rw [bv_len, hln])
      (fun j u hj => by
        obtain ⟨b, hb, rfl⟩ := (bv_get _ j u).1 hj
        refine hcell j b ?_
        rw [List.getElem?_take] at hb
        split at hb
        · exact hb
        · cases hb) (by rw [bv_len, hln, List.size_toArray, bv_len, List.length_replicate]; omega) (bv_one _)
    rw [bv_len, hln] at hr
    refine ⟨_, hr, ?_, fun k hk => setRow_other W g k _ hk, size_setRow _ _ _, rfl, rfl, rfl⟩
    unfold B5
    rw [setRow_eq W g (bv (List.replicate n 0)) 5 _ hg]
    congr 3
    simp only [List.take_zero, List.nil_append, Nat.zero_add, ptk, padN, bv_append, hln]
    congr 1
    simp only [bv, List.map_replicate, List.drop_replicate]
theorem B5.sl {W : World} {g : Nat} {l : List UInt8} {n : Nat} (h : B5 W g l) (hn : l.length = n) : Sl W (.slice (some ⟨g, 0, none⟩) n n) l := by
  refine .inr ⟨⟨g, 0, none⟩, n, by rw [hn], by omega, fun j x hj => ?_⟩
  rw [Addr.add_lit, Nat.zero_add]
  exact cell_of W g _ _ 5 _ h ((bv_get l _ _).2 ⟨x, hj, rfl⟩)
theorem made16 (n : Nat) : madeCells #[Value.int .u8 0] n = (bv (zr n)).toArray := by
  apply Array.ext'; rw [toList_madeCells_one]; simp [bv, zr]
theorem run_mk (n : Nat) (hn : n ≤ 16384) (W : World) : (Instr.makeSlice 35 (.int .i64 (n : Int)) (.int .i64 (n : Int))).run Try.prog W = .ok (.slice (some ⟨W.heap.size, 0, none⟩) n n) (W.alloc (.cells (bv (zr n)).toArray 5)) := by
  have := run_make_row' (P := Try.prog) 35 5 (.int .u8 0) 1 Try.underlying35 info5 rfl .i64 .i64 n (by omega) (by omega) W
  rw [made16] at this; exact this
theorem run_mk16384 (W : World) : (Instr.makeSlice 35 (.int .i64 16384) (.int .i64 16384)).run Try.prog W = .ok (.slice (some ⟨W.heap.size, 0, none⟩) 16384 16384) (W.alloc (.cells (bv (zr 16384)).toArray 5)) := run_mk 16384 (by omega) W
theorem run_mk3072 (W : World) : (Instr.makeSlice 35 (.int .i64 3072) (.int .i64 3072)).run Try.prog W = .ok (.slice (some ⟨W.heap.size, 0, none⟩) 3072 3072) (W.alloc (.cells (bv (zr 3072)).toArray 5)) := run_mk 3072 (by omega) W
theorem wpList_copy_eq {ops : Array Oper} {rest : List Oper} {o : Oper} {a : Act} {w : World} {Q : Exit → Act → World → Prop} (hgd : o.guard = none) (d s : Operand) (ho : o.op = .call { callee := .builtin .copy, args := #[d, s], argTypes := #[35, 35] })
    (vd vs r : Value) (hd : a.eval d = vd) (hs : a.eval s = vs) (w' : World) (hrun : ∀ ty, (Builtin.copy_ #[35, 35] ty #[vd, vs]).run Try.prog w = .ok r w') (h : wpList Try.prog ops Q rest (a.put o.dst r) w') : wpList Try.prog ops Q (o :: rest) a w :=
  wpList_plain hgd fun _ hK => by
    unfold Oper.wp execOp
    simp only [ho, resolve, invoke, builtin, Sem.run_bind, Sem.run_pure, Result.andThen_ok, List.map_toArray, List.map_cons, List.map_nil, hd, hs, hrun]
    exact hK _ _ h
theorem B5.slB {W : World} {g : Nat} {l : List UInt8} {n N : Nat} (h : B5 W g l) (hn : l.length = n) (hg : g ≠ N) : Sl (bx W N) (.slice (some ⟨g, 0, none⟩) n n) l := by
  have h2 : B5 (bx W N) g l := (setBlock_other W N g _ hg).trans h
  exact h2.sl hn
/-- The image's variables in a new row. -/
theorem XS.setRam {w wc W2 : World} {m : MS} {u rv sv : Value} {bs : List (Int × List UInt8)} {ram scr : List UInt8} (h : XS w wc m u rv sv bs ram scr) (hk : ∀ i, i < wc.heap.size → W2.heap[i]? = wc.heap[i]?) (hb : Below w.heap.size w W2) (g n : Nat) (l : List UInt8) (h5 : B5 W2 g l) (hg : wc.heap.size ≤ g) (hn : l.length = n) (hr : n ≤ room) :
    XS w (W2.setCell ⟨w.heap.size, 1, none⟩ (.slice (some ⟨g, 0, none⟩) n n)) m u (.slice (some ⟨g, 0, none⟩) n n) sv bs l scr := by
  have hs := h.siz
  have h2 : XS w W2 m u rv sv bs ram scr := h.next (fun i _ hi => hk i hi) hb (hk _ hs)
  obtain ⟨p, c, e, hbn⟩ := h2.bn
  have k : ∀ i, i ≠ w.heap.size → i < W2.heap.size → (W2.setCell ⟨w.heap.size, 1, none⟩ (.slice (some ⟨g, 0, none⟩) n n)).heap[i]? = W2.heap[i]? := fun i hi _ => setCell_other _ _ _ _ _ hi
  refine ⟨?_, hb.setCell (p := ⟨w.heap.size, 1, none⟩) (Nat.le_refl _) _, ⟨p, c, e, hbn.kept fun a u e => bl_to e k⟩, ?_, h2.ss.kept fun a u e _ => bl_to e k, h.bl, h.dl, by omega, h.sl⟩
  · rw [setCell_heap W2 _ 1 _ 56 _ h2.blk]; rfl
  · exact B5.slB ((setCell_other _ _ _ _ _ (by omega)).trans h5) hn (by omega)
theorem XS.setScr {w wc W2 : World} {m : MS} {u rv sv : Value} {bs : List (Int × List UInt8)} {ram scr : List UInt8} (h : XS w wc m u rv sv bs ram scr) (hk : ∀ i, i < wc.heap.size → W2.heap[i]? = wc.heap[i]?) (hb : Below w.heap.size w W2) (g n : Nat) (l : List UInt8) (h5 : B5 W2 g l) (hg : wc.heap.size ≤ g) (hn : l.length = n) (hr : n ≤ room) :
    XS w (W2.setCell ⟨w.heap.size, 2, none⟩ (.slice (some ⟨g, 0, none⟩) n n)) m u rv (.slice (some ⟨g, 0, none⟩) n n) bs ram l := by
  have hs := h.siz
  have h2 : XS w W2 m u rv sv bs ram scr := h.next (fun i _ hi => hk i hi) hb (hk _ hs)
  obtain ⟨p, c, e, hbn⟩ := h2.bn
  have k : ∀ i, i ≠ w.heap.size → i < W2.heap.size → (W2.setCell ⟨w.heap.size, 2, none⟩ (.slice (some ⟨g, 0, none⟩) n n)).heap[i]? = W2.heap[i]? := fun i hi _ => setCell_other _ _ _ _ _ hi
  refine ⟨?_, hb.setCell (p := ⟨w.heap.size, 2, none⟩) (Nat.le_refl _) _, ⟨p, c, e, hbn.kept fun a u e => bl_to e k⟩, h2.rs.kept fun a u e _ => bl_to e k, ?_, h.bl, h.dl, h.rl, by omega⟩
  · rw [setCell_heap W2 _ 2 _ 56 _ h2.blk]; rfl
  · exact B5.slB ((setCell_other _ _ _ _ _ (by omega)).trans h5) hn (by omega)
theorem RB.bns {W : World} {B : Nat} {v : Value} {bs : List (Int × List UInt8)} {gs : List (Nat × Nat)} (h : RB W B v bs gs) : ∃ p c, v = .slice p bs.length c ∧ BnS W p bs := by
  rcases h.row.2 with ⟨rfl, e⟩ | ⟨g, cap, cur, rfl, _⟩
  · have : bs = [] := List.eq_nil_of_length_eq_zero e
    subst this
    exact ⟨none, 0, rfl, fun i t ht => by simp at ht⟩
  · refine ⟨_, cap, rfl, fun i t ht => ?_⟩
    have hi := (List.getElem?_eq_some_iff.1 ht).1
    have hig : i < gs.length := by rw [h.len]; exact hi
    have hg : gs[i]? = some gs[i] := List.getElem?_eq_getElem hig
    obtain ⟨k1, k2⟩ := bcs_get bs gs i t _ ht hg
    have c1 := World.ownsRow.cells h.row (g := g) rfl _ _ k1
    have c2 := World.ownsRow.cells h.row (g := g) rfl _ _ k2
    rw [Addr.add_lit] at c1 c2
    obtain ⟨d1, d2, d3, _⟩ := h.dat i t _ ht hg
    refine ⟨g, 0, _, rfl, c1, c2, ?_, by rw [d3]; unfold room; omega⟩
    rw [d3, d2]
    exact d1.sl d3
/-- The image's banks in new rows. -/
theorem XS.setBanks {w wc : World} {m : MS} {u rv sv : Value} {bs : List (Int × List UInt8)} {ram scr : List UInt8} (h : XS w wc m u rv sv bs ram scr) (v : Value) (bs' : List (Int × List UInt8)) (gs : List (Nat × Nat)) (hR : RB wc (w.heap.size + 1) v bs' gs) (hl : bs'.length * 32 ≤ room) :
    XS w (wc.setCell ⟨w.heap.size, 0, none⟩ v) m v rv sv bs' ram scr := by
  have k : ∀ i, i ≠ w.heap.size → i < wc.heap.size → (wc.setCell ⟨w.heap.size, 0, none⟩ v).heap[i]? = wc.heap[i]? := fun i hi _ => setCell_other _ _ _ _ _ hi
  have hz : (wc.setCell ⟨w.heap.size, 0, none⟩ v).heap.size = wc.heap.size := setCell_size _ _ _
  have hR2 : RB (bx (wc.setCell ⟨w.heap.size, 0, none⟩ v) w.heap.size) (w.heap.size + 1) v bs' gs := hR.kept fun i hi hl => (setBlock_other _ _ _ _ (by omega)).trans (k i (by omega) hl)
  refine ⟨?_, h.bel.setCell (p := ⟨w.heap.size, 0, none⟩) (Nat.le_refl _) _, hR2.bns, h.rs.kept fun a u e _ => bl_to e k, h.ss.kept fun a u e _ => bl_to e k, hl, ?_, h.rl, h.sl⟩
  · rw [setCell_heap wc _ 0 _ 56 _ h.blk]; rfl
  · intro t ht
    obtain ⟨i, hi, e⟩ := List.mem_iff_getElem.1 ht
    have hig : i < gs.length := by rw [hR.len]; exact hi
    have := (hR.dat i t gs[i] (by rw [List.getElem?_eq_getElem hi, e]) (List.getElem?_eq_getElem hig)).2.2.1
    rw [this]; unfold room; omega
end Go.Proofs.Ytcmaccefjlgbfaa
