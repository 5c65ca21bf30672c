import Derived.Test.YtgponcjjnjpfkaaGreatMInO
import Derived.Deep.OwnRows
import Derived.Laws.OwnMore
/-! The reference: full. -/
namespace Go.Proofs.YtgponcjjnjpfkaaGreat.M
open Go.RowKit
open Go.Proofs
set_option linter.unusedVariables false
set_option linter.unusedSimpArgs false
/-- A row of bytes that fills its block. -/
def B5 (W : World) (g : Nat) (l : List UInt8) : Prop := W.heap[g]? = some (.cells (bv l).toArray 5 (0, 0))
def padN (n : Nat) (l : List UInt8) : List UInt8 := l ++ List.replicate (n - l.length) 0
theorem padN_len (n : Nat) (l : List UInt8) (h : l.length ≤ n) : (padN n l).length = n := by rw [padN, List.length_append, List.length_replicate]; omega
theorem padN_full (n : Nat) (l : List UInt8) (h : l.length = n) : padN n l = l := by rw [padN, h, Nat.sub_self]; simp
/-- The first k are written. -/
def fl (n : Nat) (l : List UInt8) (k : Nat) : List UInt8 := l.take k ++ List.replicate (n - k) 0
theorem fl_len (n : Nat) (l : List UInt8) (k : Nat) (h : k ≤ l.length) (hn : l.length ≤ n) : (fl n l k).length = n := by rw [fl, List.length_append, List.length_replicate, List.length_take]; omega
theorem fl_step (n : Nat) (l : List UInt8) (k : Nat) (h : k < l.length) (hn : l.length ≤ n) : (fl n l k).set k l[k] = fl n l (k + 1) := by
  unfold fl
  rw [List.take_succ_eq_append_getElem h, List.append_assoc, List.set_append_right _ _ (by rw [List.length_take]; omega), List.length_take, show k - min k l.length = 0 by omega]
  congr 1
  rw [show n - k = (n - (k + 1)) + 1 by omega, List.replicate_succ, List.set_cons_zero]
  rfl
theorem made_eq (n : Nat) (l : List UInt8) : madeCells #[Value.int .u8 0] n = (bv (fl n l 0)).toArray := by
  apply Array.ext'
  rw [toList_madeCells_one]
  simp [fl, bv]
set_option maxHeartbeats 2000000
set_option maxRecDepth 100000
theorem full_any (v : Value) (l : List UInt8) (n : Nat) (hn : n ≤ 16384) (hl : l.length ≤ n) (w : World) (h : Sl w v l) :
    Calls Tryz.prog 65 #[v, .int .i64 (n : Int)] w fun e w' => e = .returned (.slice (some ⟨w.heap.size, 0, none⟩) n n) ∧ B5 w' w.heap.size (padN n l) ∧ Below w.heap.size w w' ∧ w'.heap.size = w.heap.size + 1 := by
  have hmk := run_make_row' (P := Tryz.prog) 80 5 (.int .u8 0) 1 Tryz.underlying80 info5 rfl .i64 .i64 n (by omega) (by omega)
  have hmc : madeCells #[Value.int .u8 0] n = (bv (fl n l 0)).toArray := made_eq n l
  have hB0 : Below w.heap.size w (w.alloc (.cells (bv (fl n l 0)).toArray 5)) := (Below.refl _ w).alloc (Nat.le_refl _) _
  have h50 : B5 (w.alloc (.cells (bv (fl n l 0)).toArray 5)) w.heap.size (fl n l 0) := heap_alloc_new w _
  have hz0 : (w.alloc (.cells (bv (fl n l 0)).toArray 5)).heap.size = w.heap.size + 1 := by simp
  have H0 : Hid _ := hB0
  have H5 : Hid _ := h50
  have HZ : Hid _ := hz0
  have HS : Hid _ := h
  obtain ⟨p, c, rfl, hbs⟩ := h.ex
  rw [hmc] at hmk
  clear hB0 h50 hz0 hmc h
  go_enter Tryz.func65, Tryz.ntmps65
  go_wp2
  go_loopw [11] (fun i wr => ∃ k : Nat, k ≤ l.length ∧ i = .int .i64 (k : Int) ∧ B5 wr w.heap.size (fl n l k) ∧ Below w.heap.size w wr ∧ wr.heap.size = w.heap.size + 1) (fun i _ => l.length - (intOf i).toNat)
  case atStart => exact ⟨0, by omega, rfl, H5.out, H0.out, HZ.out⟩
  case round =>
    clear H5 H0 HZ
    obtain ⟨k, hk, rfl, h5, hB, hz⟩ := hrel
    by_cases hlt : k < l.length
    · have i1 : (k : Int) < l.length := by omega
      have i2 : (k : Int) < n := by omega
      have hs2 := Sl.below HS.out hB
      obtain ⟨x, rfl, hcx⟩ : ∃ x, p = some x ∧ wr.cell? (x.add k) = some (.int .u8 ((l[k]).toNat : Int)) := by
        rcases hs2 with ⟨e, e2⟩ | ⟨x, c', e, _, hc⟩
        · rw [e2] at hlt; simp at hlt
        · simp only [Value.slice.injEq] at e; exact ⟨x, e.1, hc k _ (List.getElem?_eq_getElem hlt)⟩
      have hfl := fl_len n l k hk hl
      have ho := cell_of wr w.heap.size k _ 5 _ h5 ((bv_get _ _ _).2 ⟨_, lb_of (fl n l k) k (by omega), rfl⟩)
      have hf := frozen_of wr w.heap.size k _ 5 h5
      have hnew : B5 (wr.setCell ⟨w.heap.size, k, none⟩ (.int .u8 ((l[k]).toNat : Int))) w.heap.size (fl n l (k + 1)) := by
        unfold B5; rw [← fl_step n l k hlt hl, ← bv_set]; exact setCell_heap wr _ _ _ 5 _ h5
      have hB2 : Below w.heap.size w (wr.setCell ⟨w.heap.size, k, none⟩ (.int .u8 ((l[k]).toNat : Int))) := hB.setCell (p := ⟨w.heap.size, k, none⟩) (Nat.le_refl _) _
      have hz2 : (wr.setCell ⟨w.heap.size, k, none⟩ (.int .u8 ((l[k]).toNat : Int))).heap.size = w.heap.size + 1 := by rw [setCell_size]; exact hz
      generalize (fl n l k).getD k 0 = old at *
      generalize (l[k]).toNat = y at *
      have HN : Hid _ := hnew
      have HB : Hid _ := hB2
      have HZ : Hid _ := hz2
      clear hnew hB2 hz2 hs2 hbs hfl h5 hB hz
      go_wp2
      go_roundw
      case rel =>
        first
          | exact ⟨k + 1, by omega, by go_num, HN.out, HB.out, HZ.out⟩
          | ((repeat apply Exists.intro); refine ⟨⟨k + 1, by omega, ?_, HN.out, HB.out, HZ.out⟩, rfl⟩; go_num)
      case measure => simp [intOf]; omega
    · obtain rfl : k = l.length := by omega
      have e : fl n l l.length = padN n l := by simp [fl, padN]
      rw [e] at h5
      go_wp2
      go_ret
      exact ⟨rfl, h5, hB, hz⟩
end Go.Proofs.YtgponcjjnjpfkaaGreat.M
/-! The reference: its memory, Copy. -/
namespace Go.Proofs.YtgponcjjnjpfkaaGreat.M
open Go.RowKit
open Go.Proofs
set_option linter.unusedVariables false
set_option linter.unusedSimpArgs false
def rcells (u rv sv : Value) (m : MS) (tv : Value) : List Value := [u, rv, sv, .int .u8 m.ch, .int .u8 m.pad, .int .u16 m.pitch, .int .u8 m.vol, .int .u16 m.time, .int .i64 m.cyc, tv]
/-- A memory of the reference that can be read. -/
structure RV (W : World) (b : Nat) (bs : List (Int × List UInt8)) (m : MS) (pb : Option Addr) (c : Nat) (rv sv tv : Value) : Prop where
  blk : W.heap[b]? = some (.cells (rcells (.slice pb bs.length c) rv sv m tv).toArray 130 (0, 0))
  bn : BnS W pb bs
  rs : Sl W rv m.ram
  ss : Sl W sv m.scr
  ts : Cs W tv 3 m.tones.length (tc m.tones)
  rl : m.ram.length ≤ 16384
  sl : m.scr.length ≤ 3072
  bl : bs.length * 32 ≤ room
  dl : ∀ t ∈ bs, t.2.length ≤ 16384
  tl : m.tones.length ≤ 1000000
theorem RV.below {W W' : World} {b : Nat} {bs : List (Int × List UInt8)} {m : MS} {pb : Option Addr} {c : Nat} {rv sv tv : Value} (h : RV W b bs m pb c rv sv tv) (k : Below W.heap.size W W') : RV W' b bs m pb c rv sv tv :=
  ⟨(k.block _ (lt_of h.blk)).trans h.blk, h.bn.below k, h.rs.below k, h.ss.below k, h.ts.below k, h.rl, h.sl, h.bl, h.dl, h.tl⟩
def padB (bs : List (Int × List UInt8)) : List (Int × List UInt8) := bs.map fun t => (t.1, padN 16384 t.2)
/-- The banks of the reference, each in a block of its own. -/
structure RB (W : World) (B : Nat) (u : Value) (bs : List (Int × List UInt8)) (gs : List (Nat × Nat)) : Prop where
  len : gs.length = bs.length
  row : W.ownsRow B 82 2 u bs.length (bcs bs gs)
  dat : ∀ (i : Nat) (t : Int × List UInt8) (g : Nat × Nat), bs[i]? = some t → gs[i]? = some g → B5 W g.1 t.2 ∧ g.2 = 16384 ∧ t.2.length = 16384 ∧ B ≤ g.1
  nd : (gs.map Prod.fst).Nodup
theorem RB.kept {W W' : World} {B : Nat} {v : Value} {bs : List (Int × List UInt8)} {gs : List (Nat × Nat)} (h : RB W B v bs gs) (k : ∀ i, B ≤ i → i < W.heap.size → W'.heap[i]? = W.heap[i]?) : RB W' B v bs gs :=
  ⟨h.len, own_kept h.row fun g e hg => k g (h.row.lt g e).1 hg, fun i t g h1 h2 => by obtain ⟨a, c, d, e⟩ := h.dat i t g h1 h2; exact ⟨(k _ e (lt_of a)).trans a, c, d, e⟩, h.nd⟩
theorem RB.snoc {W W1 W2 : World} {B : Nat} {v v' : Value} {bs : List (Int × List UInt8)} {gs : List (Nat × Nat)} (h : RB W B v bs gs) (hB : B ≤ W.heap.size) (t : Int × List UInt8) (g : Nat) (hb : ∀ k, B ≤ k → k < W.heap.size → W1.heap[k]? = W.heap[k]?) (hs : W.heap.size ≤ W1.heap.size)
    (hd : B5 W1 g t.2) (hl : t.2.length = 16384) (hgw : W.heap.size ≤ g) (hg : Grew W1 W2 v v') (hr : W2.ownsRow B 82 2 v' (bs.length + 1) (bcs bs gs ++ bc t (g, 16384))) :
    RB W2 B v' (bs ++ [t]) (gs ++ [(g, 16384)]) := by
  have hmem : ∀ y ∈ gs, y.1 < W.heap.size := by
    intro y hy
    obtain ⟨i, hi, e⟩ := List.mem_iff_getElem.1 hy
    have hb' : i < bs.length := by rw [← h.len]; exact hi
    exact lt_of (h.dat i bs[i] y (List.getElem?_eq_getElem hb') (by rw [List.getElem?_eq_getElem hi, e])).1
  have nv : ∀ k cur, W1.heap[k]? = some (.cells cur 5 (0, 0)) → some k ≠ v.ownBlock := by
    intro k cur e1 e2
    obtain ⟨cur2, e3⟩ := own_block h.row k e2.symm
    have := (hb k (h.row.lt k e2.symm).1 (lt_of e3)).trans e3
    rw [e1] at this
    simp at this
  have kp : ∀ {x : Nat} {l : List UInt8}, B5 W1 x l → B5 W2 x l := fun hx => (hg.block _ (lt_of hx) (nv _ _ hx)).trans hx
  refine ⟨by simp [h.len], ?_, ?_, ?_⟩
  · rw [bcs_snoc bs gs t (g, 16384) h.len, List.length_append]; exact hr
  · intro i x y h1 h2
    by_cases hi : i < bs.length
    · rw [List.getElem?_append_left hi] at h1
      rw [List.getElem?_append_left (by rw [h.len]; exact hi)] at h2
      obtain ⟨a, c, d, e⟩ := h.dat i x y h1 h2
      exact ⟨kp ((hb _ e (lt_of a)).trans a), c, d, e⟩
    · rw [List.getElem?_append_right (by omega)] at h1
      rw [List.getElem?_append_right (by rw [h.len]; omega)] at h2
      have e0 : i - bs.length = 0 := by
        have := (List.getElem?_eq_some_iff.1 h1).1; simp at this; omega
      rw [e0] at h1; rw [h.len, e0] at h2
      simp at h1 h2; subst h1 h2
      exact ⟨kp hd, rfl, hl, by simp; omega⟩
  · rw [List.map_append, List.nodup_append]
    refine ⟨h.nd, by simp, ?_⟩
    intro a ha b hb' e
    simp at hb'
    simp only [List.mem_map] at ha
    obtain ⟨y, hy, rfl⟩ := ha
    have := hmem y hy
    omega
/-- A memory of the reference, in blocks of its own. -/
structure MemR (W : World) (F : Nat → Prop) (b : Nat) (bs : List (Int × List UInt8)) (m : MS) (u : Value) (gr gc : Nat) (gs : List (Nat × Nat)) (tv : Value) : Prop where
  blk : W.heap[b]? = some (.cells (rcells u (.slice (some ⟨gr, 0, none⟩) 16384 16384) (.slice (some ⟨gc, 0, none⟩) 3072 3072) m tv).toArray 130 (0, 0))
  banks : RB W 0 u bs gs
  ram : B5 W gr m.ram
  scr : B5 W gc m.scr
  rl : m.ram.length = 16384
  sl : m.scr.length = 3072
  tones : W.ownsRow 0 53 3 tv m.tones.length (tc m.tones)
  nr : ∀ y ∈ gs, y.1 ≠ gr
  nc : ∀ y ∈ gs, y.1 ≠ gc
  rc : gr ≠ gc
  fb : F b
  fu : ∀ g, u.ownBlock = some g → F g
  fg : ∀ y ∈ gs, F y.1
  fr : F gr
  fc : F gc
  ft : ∀ g, tv.ownBlock = some g → F g
def HasR (W : World) (F : Nat → Prop) (b : Nat) (bs : List (Int × List UInt8)) (m : MS) : Prop := ∃ u gr gc gs tv, MemR W F b bs m u gr gc gs tv
/-- While the banks are copied. -/
structure CR (w wr : World) (v rv sv : Value) (m : MS) (tv : Value) (bs : List (Int × List UInt8)) (gs : List (Nat × Nat)) : Prop where
  blk : wr.heap[w.heap.size]? = some (.cells (rcells v rv sv m tv).toArray 130 (0, 0))
  banks : RB wr (w.heap.size + 1) v bs gs
  bel : Below w.heap.size w wr
  siz : w.heap.size + 1 ≤ wr.heap.size
theorem CR.step {w wr w2 w4 : World} {v v' rv sv : Value} {m : MS} {tv : Value} {bs : List (Int × List UInt8)} {gs : List (Nat × Nat)} (h : CR w wr v rv sv m tv bs gs) (t : Int × List UInt8) (g : Nat) (o1 : Obj) (o2 : Obj)
    (hb : Below (wr.alloc o1).drew.heap.size (wr.alloc o1).drew w2) (hg : g = (wr.alloc o1).drew.heap.size) (hd : B5 w2 g t.2) (hl : t.2.length = 16384)
    (hgr : Grew (w2.alloc o2) w4 v v') (hr : w4.ownsRow (w.heap.size + 1) 82 2 v' (bs.length + 1) (bcs bs gs ++ bc t (g, 16384))) :
    CR w (w4.setCell ⟨w.heap.size, 0, none⟩ v') v' rv sv m tv (bs ++ [t]) (gs ++ [(g, 16384)]) := by
  have z1 : (wr.alloc o1).drew.heap.size = wr.heap.size + 1 := by simp
  have z2 := hb.size
  have hs := h.siz
  have kp : ∀ k, k < wr.heap.size → (w2.alloc o2).heap[k]? = wr.heap[k]? := fun k hk =>
    (Below.heap_alloc w2 o2 k (by omega)).trans ((hb.block k (by omega)).trans (Below.heap_alloc wr o1 k hk))
  have nv : some w.heap.size ≠ v.ownBlock := fun e => by have := (h.banks.row.lt _ e.symm).1; omega
  have hblk4 : w4.heap[w.heap.size]? = some (.cells (rcells v rv sv m tv).toArray 130 (0, 0)) := (hgr.block _ (by simp; omega) nv).trans ((kp _ (by omega)).trans h.blk)
  have hRB := h.banks.snoc (W1 := w2.alloc o2) (W2 := w4) (v' := v') hs t g (fun k _ hk => kp k hk) (by simp; omega) ((Below.heap_alloc w2 o2 g (lt_of hd)).trans hd) hl (by omega) hgr hr
  refine ⟨?_, hRB.kept fun i hi hl => setCell_other _ _ _ _ _ (by omega), ?_, by rw [setCell_size]; have := hgr.size; simp at this; omega⟩
  · rw [setCell_heap w4 _ 0 _ 130 v' hblk4]; rfl
  · have hb4 : Below w.heap.size w w4 := by
      refine hgr.belowAll (fun x e => by have := (h.banks.row.lt x e).1; omega) (N := w.heap.size) (W0 := w) ?_ (Nat.le_refl _)
      refine ⟨(hb.os.trans rfl).trans h.bel.os, (hb.tape.trans rfl).trans h.bel.tape, (hb.output.trans rfl).trans h.bel.output, by simp; omega, fun k hk => (kp k (by omega)).trans (h.bel.block k hk)⟩
    exact hb4.setCell (p := ⟨w.heap.size, 0, none⟩) (Nat.le_refl _) _
theorem CR.start (w : World) (rv sv : Value) (m : MS) (tv : Value) : CR w (w.alloc (.cells (rcells (.slice none 0 0) rv sv m tv).toArray 130)) (.slice none 0 0) rv sv m tv [] [] :=
  ⟨heap_alloc_new w _, ⟨rfl, World.ownsRow_nil _ _ _ _, fun i t g h1 _ => by simp at h1, by simp⟩, (Below.refl _ w).alloc (Nat.le_refl _) _, by simp⟩
/-- Behind the banks: the fields one by one. -/
theorem copy_end {w w3 w4 w5 w6 w7 : World} {v rv sv : Value} {m : MS} {tv tv' : Value} {bs : List (Int × List UInt8)} {gs : List (Nat × Nat)} (h : CR w w3 v rv sv m tv bs gs)
    (hb4 : Below w3.heap.size w3 w4) (h4 : B5 w4 w3.heap.size (padN 16384 m.ram)) (z4 : w4.heap.size = w3.heap.size + 1)
    (e5 : w5 = w4.setCell ⟨w.heap.size, 1, none⟩ (.slice (some ⟨w3.heap.size, 0, none⟩) 16384 16384))
    (hb6 : Below w5.heap.size w5 w6) (h6 : B5 w6 w5.heap.size (padN 3072 m.scr)) (z6 : w6.heap.size = w5.heap.size + 1)
    (e7 : w7 = w6.setCell ⟨w.heap.size, 2, none⟩ (.slice (some ⟨w5.heap.size, 0, none⟩) 3072 3072))
    (rl : m.ram.length ≤ 16384) (sl : m.scr.length ≤ 3072) :
    (∀ w8, Below w7.heap.size w7 w8 → w8.ownsRow w7.heap.size 53 3 tv' m.tones.length (tc m.tones) →
      w8.cell? ⟨w.heap.size, 9, none⟩ = some tv ∧ w8.frozen? ⟨w.heap.size, 9, none⟩ = false ∧
      HasR (w8.setCell ⟨w.heap.size, 9, none⟩ tv') (fun k => w.heap.size ≤ k) w.heap.size bs { m with ram := padN 16384 m.ram, scr := padN 3072 m.scr } ∧ Below w.heap.size w (w8.setCell ⟨w.heap.size, 9, none⟩ tv')) := by
  intro w8 hb8 ht8
  have hs := h.siz
  have z5 : w5.heap.size = w4.heap.size := by rw [e5, setCell_size]
  have z7 : w7.heap.size = w6.heap.size := by rw [e7, setCell_size]
  have z8 := hb8.size
  have b4 : w4.heap[w.heap.size]? = some (.cells (rcells v rv sv m tv).toArray 130 (0, 0)) := (hb4.block _ (by omega)).trans h.blk
  have b5 : w5.heap[w.heap.size]? = some (.cells (rcells v (.slice (some ⟨w3.heap.size, 0, none⟩) 16384 16384) sv m tv).toArray 130 (0, 0)) := by rw [e5, setCell_heap w4 _ 1 _ 130 _ b4]; rfl
  have b6 := (hb6.block w.heap.size (by omega)).trans b5
  have b7 : w7.heap[w.heap.size]? = some (.cells (rcells v (.slice (some ⟨w3.heap.size, 0, none⟩) 16384 16384) (.slice (some ⟨w5.heap.size, 0, none⟩) 3072 3072) m tv).toArray 130 (0, 0)) := by rw [e7, setCell_heap w6 _ 2 _ 130 _ b6]; rfl
  have b8 := (hb8.block w.heap.size (by omega)).trans b7
  have b9 : (w8.setCell ⟨w.heap.size, 9, none⟩ tv').heap[w.heap.size]? = some (.cells (rcells v (.slice (some ⟨w3.heap.size, 0, none⟩) 16384 16384) (.slice (some ⟨w5.heap.size, 0, none⟩) 3072 3072) m tv').toArray 130 (0, 0)) := by rw [setCell_heap w8 _ 9 _ 130 _ b8]; rfl
  have s45 : ∀ k, k ≠ w.heap.size → w5.heap[k]? = w4.heap[k]? := fun k hk => by rw [e5]; exact setCell_other _ _ _ _ _ hk
  have s67 : ∀ k, k ≠ w.heap.size → w7.heap[k]? = w6.heap[k]? := fun k hk => by rw [e7]; exact setCell_other _ _ _ _ _ hk
  have s89 : ∀ k, k ≠ w.heap.size → (w8.setCell ⟨w.heap.size, 9, none⟩ tv').heap[k]? = w8.heap[k]? := fun k hk => setCell_other _ _ _ _ _ hk
  have kk : ∀ k, w.heap.size < k → k < w3.heap.size → (w8.setCell ⟨w.heap.size, 9, none⟩ tv').heap[k]? = w3.heap[k]? := fun k h1 h2 =>
    (s89 k (by omega)).trans ((hb8.block k (by omega)).trans ((s67 k (by omega)).trans ((hb6.block k (by omega)).trans ((s45 k (by omega)).trans (hb4.block k h2)))))
  refine ⟨cell_of w8 _ 9 _ 130 _ b8 rfl, frozen_of w8 _ 9 _ 130 b8, ⟨v, w3.heap.size, w5.heap.size, gs, tv', ?_⟩, ?_⟩
  · have hRB := h.banks.kept (W' := w8.setCell ⟨w.heap.size, 9, none⟩ tv') fun i hi hl => kk i (by omega) hl
    have hmem : ∀ y ∈ gs, w.heap.size + 1 ≤ y.1 ∧ y.1 < w3.heap.size := by
      intro y hy
      obtain ⟨i, hi, e⟩ := List.mem_iff_getElem.1 hy
      have hb' : i < bs.length := by rw [← h.banks.len]; exact hi
      have hd := h.banks.dat i bs[i] y (List.getElem?_eq_getElem hb') (by rw [List.getElem?_eq_getElem hi, e])
      exact ⟨hd.2.2.2, lt_of hd.1⟩
    refine ⟨b9, ⟨hRB.len, own_mono hRB.row (Nat.zero_le _), fun i t g a c => by obtain ⟨x1, x2, x3, _⟩ := hRB.dat i t g a c; exact ⟨x1, x2, x3, Nat.zero_le _⟩, hRB.nd⟩, ?_, ?_, padN_len _ _ rl, padN_len _ _ sl, ?_, ?_, ?_, by omega, Nat.le_refl _, ?_, ?_, Nat.le_of_lt hs, show w.heap.size ≤ w5.heap.size by omega, ?_⟩
    · exact (s89 _ (by omega)).trans ((hb8.block _ (by omega)).trans ((s67 _ (by omega)).trans ((hb6.block _ (by omega)).trans ((s45 _ (by omega)).trans h4))))
    · exact (s89 _ (by omega)).trans ((hb8.block _ (by omega)).trans ((s67 _ (by omega)).trans h6))
    · exact own_mono (own_kept ht8 fun g e _ => s89 g (by have := (ht8.lt g e).1; omega)) (Nat.zero_le _)
    · intro y hy; have := hmem y hy; omega
    · intro y hy; have := hmem y hy; omega
    · intro g e; have := (h.banks.row.lt g e).1; show w.heap.size ≤ g; omega
    · intro y hy; have := hmem y hy; show w.heap.size ≤ y.1; omega
    · intro g e; have := (ht8.lt g e).1; show w.heap.size ≤ g; omega
  · have hb3 := h.bel
    have t4 := hb3.trans (hb4.mono (by omega))
    have t5 : Below w.heap.size w w5 := by rw [e5]; exact t4.setCell (p := ⟨w.heap.size, 1, none⟩) (Nat.le_refl _) _
    have t6 := t5.trans (hb6.mono (by omega))
    have t7 : Below w.heap.size w w7 := by rw [e7]; exact t6.setCell (p := ⟨w.heap.size, 2, none⟩) (Nat.le_refl _) _
    have t8 := t7.trans (hb8.mono (by omega))
    exact t8.setCell (p := ⟨w.heap.size, 9, none⟩) (Nat.le_refl _) _
theorem padB_snoc (bs : List (Int × List UInt8)) (t : Int × List UInt8) : padB (bs ++ [t]) = padB bs ++ [(t.1, padN 16384 t.2)] := by simp [padB]
end Go.Proofs.YtgponcjjnjpfkaaGreat.M
