import Derived.Test.YteldjmecomngeaaGreatMInO
import Derived.Deep.OwnRows
import Derived.Laws.OwnMore
namespace Go.Proofs.YteldjmecomngeaaGreat.M
open Go.RowKit
open Go.Proofs
set_option linter.unusedVariables false
set_option linter.unusedSimpArgs false
def B5 (W : World) (g : Nat) (l : List UInt8) : Prop := W.heap[g]? = some (.cells (bv l).toArray 5 (0, 0))
def padN (n : Nat) (l : List UInt8) : List UInt8 := l ++ List.replicate (n - l.length) 0
theorem padN_len (n : Nat) (l : List UInt8) (h : l.length <= n) : (padN n l).length = n := by rw [padN, List.length_append, List.length_replicate]; omega
theorem padN_full (n : Nat) (l : List UInt8) (h : l.length = n) : padN n l = l := by rw [padN, h, Nat.sub_self]; simp
def fl (n : Nat) (l : List UInt8) (k : Nat) : List UInt8 := l.take k ++ List.replicate (n - k) 0
theorem fl_len (n : Nat) (l : List UInt8) (k : Nat) (h : k <= l.length) (hn : l.length <= n) : (fl n l k).length = n := by rw [fl, List.length_append, List.length_replicate, List.length_take]; omega
theorem fl_step (n : Nat) (l : List UInt8) (k : Nat) (h : k < l.length) (hn : l.length <= n) : (fl n l k).set k l[k] = fl n l (k + 1) := by
 unfold fl
 rw [List.take_succ_eq_append_getElem h, List.append_assoc, List.set_append_right _ _ (by rw [List.length_take]; omega), List.length_take, show k - min k l.length = 0 by omega]
 congr 1
 rw [show n - k = (n - (k + 1)) + 1 by omega, List.replicate_succ, List.set_cons_zero]
 rfl
theorem made_eq (n : Nat) (l : List UInt8) : madeCells #[Value.int .u8 0] n = (bv (fl n l 0)).toArray := by
 apply Array.ext'
 rw [toList_madeCells_one]
 simp [fl, bv]
set_option maxHeartbeats 2000000
set_option maxRecDepth 100000
theorem full_any (v : Value) (l : List UInt8) (n : Nat) (hn : n <= 16384) (hl : l.length <= n) (w : World) (h : Sl w v l) :
  Calls Tryz.prog 97 #[v, .int .i64 (n : Int)] w fun e w' => e = .returned (.slice (some ⟨w.heap.size, 0, none⟩) n n) /\ B5 w' w.heap.size (padN n l) /\ Below w.heap.size w w' /\ w'.heap.size = w.heap.size + 1 := by
 have hmk := run_make_row' (P := Tryz.prog) 22 5 (.int .u8 0) 1 Tryz.underlying22 info5 rfl .i64 .i64 n (by omega) (by omega)
 have hmc : madeCells #[Value.int .u8 0] n = (bv (fl n l 0)).toArray := made_eq n l
 have hB0 : Below w.heap.size w (w.alloc (.cells (bv (fl n l 0)).toArray 5)) := (Below.refl _ w).alloc (Nat.le_refl _) _
 have h50 : B5 (w.alloc (.cells (bv (fl n l 0)).toArray 5)) w.heap.size (fl n l 0) := heap_alloc_new w _
 have hz0 : (w.alloc (.cells (bv (fl n l 0)).toArray 5)).heap.size = w.heap.size + 1 := by simp
 have H0 : Hid _ := hB0
 have H5 : Hid _ := h50
 have HZ : Hid _ := hz0
 have HS : Hid _ := h
 obtain ⟨p, c, rfl, hbs⟩ := h.ex
 rw [hmc] at hmk
 clear hB0 h50 hz0 hmc h
 go_enter Tryz.func97, Tryz.ntmps97
 go_wp2
 go_loopw [11] (fun i wr => ∃ k : Nat, k <= l.length /\ i = .int .i64 (k : Int) /\ B5 wr w.heap.size (fl n l k) /\ Below w.heap.size w wr /\ wr.heap.size = w.heap.size + 1) (fun i _ => l.length - (intOf i).toNat)
 case atStart => exact ⟨0, by omega, rfl, H5.out, H0.out, HZ.out⟩
 case round =>
  clear H5 H0 HZ; obtain ⟨k, hk, rfl, h5, hB, hz⟩ := hrel
  by_cases hlt : k < l.length
  ·have i1 : (k : Int) < l.length := by omega
   have i2 : (k : Int) < n := by omega
   have hs2 := Sl.below HS.out hB
   obtain ⟨x, rfl, hcx⟩ : ∃ x, p = some x /\ wr.cell? (x.add k) = some (.int .u8 ((l[k]).toNat : Int)) := by
    rcases hs2 with ⟨e, e2⟩ | ⟨x, c', e, _, hc⟩
    ·rw [e2] at hlt; simp at hlt
    ·simp only [Value.slice.injEq] at e; exact ⟨x, e.1, hc k _ (List.getElem?_eq_getElem hlt)⟩
   have hfl := fl_len n l k hk hl; have ho := cell_of wr w.heap.size k _ 5 _ h5 ((bv_get _ _ _).2 ⟨_, lb_of (fl n l k) k (by omega), rfl⟩); have hf := frozen_of wr w.heap.size k _ 5 h5
   have hnew : B5 (wr.setCell ⟨w.heap.size, k, none⟩ (.int .u8 ((l[k]).toNat : Int))) w.heap.size (fl n l (k + 1)) := by
    unfold B5; rw [<- fl_step n l k hlt hl, <- bv_set]; exact setCell_heap wr _ _ _ 5 _ h5
   have hB2 : Below w.heap.size w (wr.setCell ⟨w.heap.size, k, none⟩ (.int .u8 ((l[k]).toNat : Int))) := hB.setCell (p := ⟨w.heap.size, k, none⟩) (Nat.le_refl _) _; have hz2 : (wr.setCell ⟨w.heap.size, k, none⟩ (.int .u8 ((l[k]).toNat : Int))).heap.size = w.heap.size + 1 := by rw [setCell_size]; exact hz
   generalize (fl n l k).getD k 0 = old at *
   generalize (l[k]).toNat = y at *
   have HN : Hid _ := hnew; have HB : Hid _ := hB2; have HZ : Hid _ := hz2; clear hnew hB2 hz2 hs2 hbs hfl h5 hB hz; go_wp2; go_roundw
   case rel =>
    first
     | exact ⟨k + 1, by omega, by go_num, HN.out, HB.out, HZ.out⟩
     | ((repeat apply Exists.intro); refine ⟨⟨k + 1, by omega, ?_, HN.out, HB.out, HZ.out⟩, rfl⟩; go_num)
   case measure => simp [intOf]; omega
  ·obtain rfl : k = l.length := by omega
   have e : fl n l l.length = padN n l := by simp [fl, padN]
   rw [e] at h5; go_wp2; go_ret; exact ⟨rfl, h5, hB, hz⟩
def rcells (u rv sv : Value) (m : MS) (tv : Value) : List Value := [u, rv, sv, .int .u8 m.ch, .int .u8 m.pad, .int .u16 m.pitch, .int .u8 m.vol, .int .u16 m.time, .int .i64 m.cyc, tv]
structure RV (W : World) (b : Nat) (bs : List (Int × List UInt8)) (m : MS) (pb : Option Addr) (c : Nat) (rv sv tv : Value) : Prop where
 blk : W.heap[b]? = some (.cells (rcells (.slice pb bs.length c) rv sv m tv).toArray 95 (0, 0))
 bn : BnS W pb bs
 rs : Sl W rv m.ram
 ss : Sl W sv m.scr
 ts : Cs W tv 3 m.tones.length (tc m.tones)
 rl : m.ram.length <= 16384
 sl : m.scr.length <= 3072
 bl : bs.length * 32 <= room
 dl : ∀ t ∈ bs, t.2.length <= 16384
 tl : m.tones.length <= 1000000
theorem RV.below {W W' : World} {b : Nat} {bs : List (Int × List UInt8)} {m : MS} {pb : Option Addr} {c : Nat} {rv sv tv : Value} (h : RV W b bs m pb c rv sv tv) (k : Below W.heap.size W W') : RV W' b bs m pb c rv sv tv :=
 ⟨(k.block _ (lt_of h.blk)).trans h.blk, h.bn.below k, h.rs.below k, h.ss.below k, h.ts.below k, h.rl, h.sl, h.bl, h.dl, h.tl⟩
def padB (bs : List (Int × List UInt8)) : List (Int × List UInt8) := bs.map fun t => (t.1, padN 16384 t.2)
structure RB (W : World) (B : Nat) (u : Value) (bs : List (Int × List UInt8)) (gs : List (Nat × Nat)) : Prop where
 len : gs.length = bs.length
 row : W.ownsRow B 81 2 u bs.length (bcs bs gs)
 dat : ∀ (i : Nat) (t : Int × List UInt8) (g : Nat × Nat), bs[i]? = some t -> gs[i]? = some g -> B5 W g.1 t.2 /\ g.2 = 16384 /\ t.2.length = 16384 /\ B <= g.1
 nd : (gs.map Prod.fst).Nodup
theorem RB.kept {W W' : World} {B : Nat} {v : Value} {bs : List (Int × List UInt8)} {gs : List (Nat × Nat)} (h : RB W B v bs gs) (k : ∀ i, B <= i -> i < W.heap.size -> W'.heap[i]? = W.heap[i]?) : RB W' B v bs gs :=
 ⟨h.len, own_kept h.row fun g e hg => k g (h.row.lt g e).1 hg, fun i t g h1 h2 => by obtain ⟨a, c, d, e⟩ := h.dat i t g h1 h2; exact ⟨(k _ e (lt_of a)).trans a, c, d, e⟩, h.nd⟩
theorem RB.snoc {W W1 W2 : World} {B : Nat} {v v' : Value} {bs : List (Int × List UInt8)} {gs : List (Nat × Nat)} (h : RB W B v bs gs) (hB : B <= W.heap.size) (t : Int × List UInt8) (g : Nat) (hb : ∀ k, B <= k -> k < W.heap.size -> W1.heap[k]? = W.heap[k]?) (hs : W.heap.size <= W1.heap.size)
  (hd : B5 W1 g t.2) (hl : t.2.length = 16384) (hgw : W.heap.size <= g) (hg : Grew W1 W2 v v') (hr : W2.ownsRow B 81 2 v' (bs.length + 1) (bcs bs gs ++ bc t (g, 16384))) :
  RB W2 B v' (bs ++ [t]) (gs ++ [(g, 16384)]) := by
 have hmem : ∀ y ∈ gs, y.1 < W.heap.size := by
  intro y hy; obtain ⟨i, hi, e⟩ := List.mem_iff_getElem.1 hy; have hb' : i < bs.length := by rw [<- h.len]; exact hi
  exact lt_of (h.dat i bs[i] y (List.getElem?_eq_getElem hb') (by rw [List.getElem?_eq_getElem hi, e])).1
 have nv : ∀ k cur, W1.heap[k]? = some (.cells cur 5 (0, 0)) -> some k ≠ v.ownBlock := by
  intro k cur e1 e2; obtain ⟨cur2, e3⟩ := own_block h.row k e2.symm; have := (hb k (h.row.lt k e2.symm).1 (lt_of e3)).trans e3; rw [e1] at this
  simp at this
 have kp : ∀ {x : Nat} {l : List UInt8}, B5 W1 x l -> B5 W2 x l := fun hx => (hg.block _ (lt_of hx) (nv _ _ hx)).trans hx
 refine ⟨by simp [h.len], ?_, ?_, ?_⟩
 ·rw [bcs_snoc bs gs t (g, 16384) h.len, List.length_append]; exact hr
 ·intro i x y h1 h2
  by_cases hi : i < bs.length
  ·rw [List.getElem?_append_left hi] at h1
   rw [List.getElem?_append_left (by rw [h.len]; exact hi)] at h2; obtain ⟨a, c, d, e⟩ := h.dat i x y h1 h2; exact ⟨kp ((hb _ e (lt_of a)).trans a), c, d, e⟩
  ·rw [List.getElem?_append_right (by omega)] at h1
   rw [List.getElem?_append_right (by rw [h.len]; omega)] at h2
   have e0 : i - bs.length = 0 := by
    have := (List.getElem?_eq_some_iff.1 h1).1; simp at this; omega
   rw [e0] at h1; rw [h.len, e0] at h2
   simp at h1 h2; subst h1 h2
   exact ⟨kp hd, rfl, hl, by simp; omega⟩
 ·rw [List.map_append, List.nodup_append]
  refine ⟨h.nd, by simp, ?_⟩; intro a ha b hb' e
  simp at hb'
  simp only [List.mem_map] at ha; obtain ⟨y, hy, rfl⟩ := ha; have := hmem y hy
  omega
structure MemR (W : World) (F : Nat -> Prop) (b : Nat) (bs : List (Int × List UInt8)) (m : MS) (u : Value) (gr gc : Nat) (gs : List (Nat × Nat)) (tv : Value) : Prop where
 blk : W.heap[b]? = some (.cells (rcells u (.slice (some ⟨gr, 0, none⟩) 16384 16384) (.slice (some ⟨gc, 0, none⟩) 3072 3072) m tv).toArray 95 (0, 0))
 banks : RB W 0 u bs gs
 ram : B5 W gr m.ram
 scr : B5 W gc m.scr
 rl : m.ram.length = 16384
 sl : m.scr.length = 3072
 tones : W.ownsRow 0 66 3 tv m.tones.length (tc m.tones)
 nr : ∀ y ∈ gs, y.1 ≠ gr
 nc : ∀ y ∈ gs, y.1 ≠ gc
 rc : gr ≠ gc
 fb : F b
 fu : ∀ g, u.ownBlock = some g -> F g
 fg : ∀ y ∈ gs, F y.1
 fr : F gr
 fc : F gc
 ft : ∀ g, tv.ownBlock = some g -> F g
def HasR (W : World) (F : Nat -> Prop) (b : Nat) (bs : List (Int × List UInt8)) (m : MS) : Prop := ∃ u gr gc gs tv, MemR W F b bs m u gr gc gs tv
structure CR (w wr : World) (v rv sv : Value) (m : MS) (tv : Value) (bs : List (Int × List UInt8)) (gs : List (Nat × Nat)) : Prop where
 blk : wr.heap[w.heap.size]? = some (.cells (rcells v rv sv m tv).toArray 95 (0, 0))
 banks : RB wr (w.heap.size + 1) v bs gs
 bel : Below w.heap.size w wr
 siz : w.heap.size + 1 <= wr.heap.size
theorem CR.step {w wr w2 w4 : World} {v v' rv sv : Value} {m : MS} {tv : Value} {bs : List (Int × List UInt8)} {gs : List (Nat × Nat)} (h : CR w wr v rv sv m tv bs gs) (t : Int × List UInt8) (g : Nat) (o1 : Obj) (o2 : Obj)
  (hb : Below (wr.alloc o1).drew.heap.size (wr.alloc o1).drew w2) (hg : g = (wr.alloc o1).drew.heap.size) (hd : B5 w2 g t.2) (hl : t.2.length = 16384)
  (hgr : Grew (w2.alloc o2) w4 v v') (hr : w4.ownsRow (w.heap.size + 1) 81 2 v' (bs.length + 1) (bcs bs gs ++ bc t (g, 16384))) :
  CR w (w4.setCell ⟨w.heap.size, 0, none⟩ v') v' rv sv m tv (bs ++ [t]) (gs ++ [(g, 16384)]) := by
 have z1 : (wr.alloc o1).drew.heap.size = wr.heap.size + 1 := by simp
 have z2 := hb.size
 have hs := h.siz
 have kp : ∀ k, k < wr.heap.size -> (w2.alloc o2).heap[k]? = wr.heap[k]? := fun k hk =>
  (Below.heap_alloc w2 o2 k (by omega)).trans ((hb.block k (by omega)).trans (Below.heap_alloc wr o1 k hk))
 have nv : some w.heap.size ≠ v.ownBlock := fun e => by have := (h.banks.row.lt _ e.symm).1; omega
 have hblk4 : w4.heap[w.heap.size]? = some (.cells (rcells v rv sv m tv).toArray 95 (0, 0)) := (hgr.block _ (by simp; omega) nv).trans ((kp _ (by omega)).trans h.blk)
 have hRB := h.banks.snoc (W1 := w2.alloc o2) (W2 := w4) (v' := v') hs t g (fun k _ hk => kp k hk) (by simp; omega) ((Below.heap_alloc w2 o2 g (lt_of hd)).trans hd) hl (by omega) hgr hr
 refine ⟨?_, hRB.kept fun i hi hl => setCell_other _ _ _ _ _ (by omega), ?_, by rw [setCell_size]; have := hgr.size; simp at this; omega⟩
 ·rw [setCell_heap w4 _ 0 _ 95 v' hblk4]; rfl
 ·have hb4 : Below w.heap.size w w4 := by
   refine hgr.belowAll (fun x e => by have := (h.banks.row.lt x e).1; omega) (N := w.heap.size) (W0 := w) ?_ (Nat.le_refl _); refine ⟨(hb.os.trans rfl).trans h.bel.os, (hb.tape.trans rfl).trans h.bel.tape, (hb.output.trans rfl).trans h.bel.output, by simp; omega, fun k hk => (kp k (by omega)).trans (h.bel.block k hk)⟩
  exact hb4.setCell (p := ⟨w.heap.size, 0, none⟩) (Nat.le_refl _) _
theorem CR.start (w : World) (rv sv : Value) (m : MS) (tv : Value) : CR w (w.alloc (.cells (rcells (.slice none 0 0) rv sv m tv).toArray 95)) (.slice none 0 0) rv sv m tv [] [] :=
 ⟨heap_alloc_new w _, ⟨rfl, World.ownsRow_nil _ _ _ _, fun i t g h1 _ => by simp at h1, by simp⟩, (Below.refl _ w).alloc (Nat.le_refl _) _, by simp⟩
theorem copy_end {w w3 w4 w5 w6 w7 : World} {v rv sv : Value} {m : MS} {tv tv' : Value} {bs : List (Int × List UInt8)} {gs : List (Nat × Nat)} (h : CR w w3 v rv sv m tv bs gs)
  (hb4 : Below w3.heap.size w3 w4) (h4 : B5 w4 w3.heap.size (padN 16384 m.ram)) (z4 : w4.heap.size = w3.heap.size + 1)
  (e5 : w5 = w4.setCell ⟨w.heap.size, 1, none⟩ (.slice (some ⟨w3.heap.size, 0, none⟩) 16384 16384))
  (hb6 : Below w5.heap.size w5 w6) (h6 : B5 w6 w5.heap.size (padN 3072 m.scr)) (z6 : w6.heap.size = w5.heap.size + 1)
  (e7 : w7 = w6.setCell ⟨w.heap.size, 2, none⟩ (.slice (some ⟨w5.heap.size, 0, none⟩) 3072 3072))
  (rl : m.ram.length <= 16384) (sl : m.scr.length <= 3072) :
  (∀ w8, Below w7.heap.size w7 w8 -> w8.ownsRow w7.heap.size 66 3 tv' m.tones.length (tc m.tones) ->
   w8.cell? ⟨w.heap.size, 9, none⟩ = some tv /\ w8.frozen? ⟨w.heap.size, 9, none⟩ = false /\
   HasR (w8.setCell ⟨w.heap.size, 9, none⟩ tv') (fun k => w.heap.size <= k) w.heap.size bs { m with ram := padN 16384 m.ram, scr := padN 3072 m.scr } /\ Below w.heap.size w (w8.setCell ⟨w.heap.size, 9, none⟩ tv')) := by
 intro w8 hb8 ht8
 have hs := h.siz
 have z5 : w5.heap.size = w4.heap.size := by rw [e5, setCell_size]
 have z7 : w7.heap.size = w6.heap.size := by rw [e7, setCell_size]
 have z8 := hb8.size
 have b4 : w4.heap[w.heap.size]? = some (.cells (rcells v rv sv m tv).toArray 95 (0, 0)) := (hb4.block _ (by omega)).trans h.blk
 have b5 : w5.heap[w.heap.size]? = some (.cells (rcells v (.slice (some ⟨w3.heap.size, 0, none⟩) 16384 16384) sv m tv).toArray 95 (0, 0)) := by rw [e5, setCell_heap w4 _ 1 _ 95 _ b4]; rfl
 have b6 := (hb6.block w.heap.size (by omega)).trans b5
 have b7 : w7.heap[w.heap.size]? = some (.cells (rcells v (.slice (some ⟨w3.heap.size, 0, none⟩) 16384 16384) (.slice (some ⟨w5.heap.size, 0, none⟩) 3072 3072) m tv).toArray 95 (0, 0)) := by rw [e7, setCell_heap w6 _ 2 _ 95 _ b6]; rfl
 have b8 := (hb8.block w.heap.size (by omega)).trans b7
 have b9 : (w8.setCell ⟨w.heap.size, 9, none⟩ tv').heap[w.heap.size]? = some (.cells (rcells v (.slice (some ⟨w3.heap.size, 0, none⟩) 16384 16384) (.slice (some ⟨w5.heap.size, 0, none⟩) 3072 3072) m tv').toArray 95 (0, 0)) := by rw [setCell_heap w8 _ 9 _ 95 _ b8]; rfl
 have s45 : ∀ k, k ≠ w.heap.size -> w5.heap[k]? = w4.heap[k]? := fun k hk => by rw [e5]; exact setCell_other _ _ _ _ _ hk
 have s67 : ∀ k, k ≠ w.heap.size -> w7.heap[k]? = w6.heap[k]? := fun k hk => by rw [e7]; exact setCell_other _ _ _ _ _ hk
 have s89 : ∀ k, k ≠ w.heap.size -> (w8.setCell ⟨w.heap.size, 9, none⟩ tv').heap[k]? = w8.heap[k]? := fun k hk => setCell_other _ _ _ _ _ hk
 have kk : ∀ k, w.heap.size < k -> k < w3.heap.size -> (w8.setCell ⟨w.heap.size, 9, none⟩ tv').heap[k]? = w3.heap[k]? := fun k h1 h2 =>
  (s89 k (by omega)).trans ((hb8.block k (by omega)).trans ((s67 k (by omega)).trans ((hb6.block k (by omega)).trans ((s45 k (by omega)).trans (hb4.block k h2)))))
 refine ⟨cell_of w8 _ 9 _ 95 _ b8 rfl, frozen_of w8 _ 9 _ 95 b8, ⟨v, w3.heap.size, w5.heap.size, gs, tv', ?_⟩, ?_⟩
 ·have hRB := h.banks.kept (W' := w8.setCell ⟨w.heap.size, 9, none⟩ tv') fun i hi hl => kk i (by omega) hl
  have hmem : ∀ y ∈ gs, w.heap.size + 1 <= y.1 /\ y.1 < w3.heap.size := by
   intro y hy; obtain ⟨i, hi, e⟩ := List.mem_iff_getElem.1 hy; have hb' : i < bs.length := by rw [<- h.banks.len]; exact hi
   have hd := h.banks.dat i bs[i] y (List.getElem?_eq_getElem hb') (by rw [List.getElem?_eq_getElem hi, e]); exact ⟨hd.2.2.2, lt_of hd.1⟩
  refine ⟨b9, ⟨hRB.len, own_mono hRB.row (Nat.zero_le _), fun i t g a c => by obtain ⟨x1, x2, x3, _⟩ := hRB.dat i t g a c; exact ⟨x1, x2, x3, Nat.zero_le _⟩, hRB.nd⟩, ?_, ?_, padN_len _ _ rl, padN_len _ _ sl, ?_, ?_, ?_, by omega, Nat.le_refl _, ?_, ?_, Nat.le_of_lt hs, show w.heap.size <= w5.heap.size by omega, ?_⟩
  ·exact (s89 _ (by omega)).trans ((hb8.block _ (by omega)).trans ((s67 _ (by omega)).trans ((hb6.block _ (by omega)).trans ((s45 _ (by omega)).trans h4))))
  ·exact (s89 _ (by omega)).trans ((hb8.block _ (by omega)).trans ((s67 _ (by omega)).trans h6))
  ·exact own_mono (own_kept ht8 fun g e _ => s89 g (by have := (ht8.lt g e).1; omega)) (Nat.zero_le _)
  ·intro y hy; have := hmem y hy; omega
  ·intro y hy; have := hmem y hy; omega
  ·intro g e; have := (h.banks.row.lt g e).1; show w.heap.size <= g; omega
  ·intro y hy; have := hmem y hy; show w.heap.size <= y.1; omega
  ·intro g e; have := (ht8.lt g e).1; show w.heap.size <= g; omega
 ·have hb3 := h.bel
  have t4 := hb3.trans (hb4.mono (by omega)); have t5 : Below w.heap.size w w5 := by rw [e5]; exact t4.setCell (p := ⟨w.heap.size, 1, none⟩) (Nat.le_refl _) _
  have t6 := t5.trans (hb6.mono (by omega)); have t7 : Below w.heap.size w w7 := by rw [e7]; exact t6.setCell (p := ⟨w.heap.size, 2, none⟩) (Nat.le_refl _) _
  have t8 := t7.trans (hb8.mono (by omega)); exact t8.setCell (p := ⟨w.heap.size, 9, none⟩) (Nat.le_refl _) _
theorem padB_snoc (bs : List (Int × List UInt8)) (t : Int × List UInt8) : padB (bs ++ [t]) = padB bs ++ [(t.1, padN 16384 t.2)] := by simp [padB]
theorem RB.mem {W : World} {B : Nat} {v : Value} {bs : List (Int × List UInt8)} {gs : List (Nat × Nat)} (h : RB W B v bs gs) (y : Nat × Nat) (hy : y ∈ gs) : ∃ l, B5 W y.1 l /\ B <= y.1 := by
 obtain ⟨i, hi, e⟩ := List.mem_iff_getElem.1 hy
 have hb' : i < bs.length := by rw [<- h.len]; exact hi
 have := h.dat i bs[i] y (List.getElem?_eq_getElem hb') (by rw [List.getElem?_eq_getElem hi, e])
 exact ⟨_, this.1, this.2.2.2⟩
theorem MemR.kept {W W' : World} {F : Nat -> Prop} {b : Nat} {bs : List (Int × List UInt8)} {m : MS} {u : Value} {gr gc : Nat} {gs : List (Nat × Nat)} {tv : Value} (h : MemR W F b bs m u gr gc gs tv) (k : ∀ i, i < W.heap.size -> F i -> W'.heap[i]? = W.heap[i]?) : MemR W' F b bs m u gr gc gs tv :=
 { h with
  blk := (k _ (lt_of h.blk) h.fb).trans h.blk
  banks := ⟨h.banks.len, own_kept h.banks.row fun g e hg => k g hg (h.fu g e), fun i t g a c => by
   obtain ⟨x1, x2, x3, x4⟩ := h.banks.dat i t g a c; exact ⟨(k _ (lt_of x1) (h.fg g (List.mem_of_getElem? c))).trans x1, x2, x3, x4⟩, h.banks.nd⟩
  ram := (k _ (lt_of h.ram) h.fr).trans h.ram
  scr := (k _ (lt_of h.scr) h.fc).trans h.scr
  tones := own_kept h.tones fun g e hg => k g hg (h.ft g e) }
theorem MemR.mono {W : World} {F G : Nat -> Prop} {b : Nat} {bs : List (Int × List UInt8)} {m : MS} {u : Value} {gr gc : Nat} {gs : List (Nat × Nat)} {tv : Value} (h : MemR W F b bs m u gr gc gs tv) (k : ∀ i, i < W.heap.size -> F i -> G i) : MemR W G b bs m u gr gc gs tv :=
 { h with
  fb := k _ (lt_of h.blk) h.fb
  fu := fun g e => k _ (h.banks.row.lt g e).2 (h.fu g e)
  fg := fun y hy => by obtain ⟨l, e, _⟩ := h.banks.mem y hy; exact k _ (lt_of e) (h.fg y hy)
  fr := k _ (lt_of h.ram) h.fr
  fc := k _ (lt_of h.scr) h.fc
  ft := fun g e => k _ (h.tones.lt g e).2 (h.ft g e) }
def IsR (W : World) (F : Nat -> Prop) (b : Nat) (m : MS) : Prop := Wf m /\ HasR W F b (inO m 16) m
theorem IsR.kept {W W' : World} {F : Nat -> Prop} {b : Nat} {m : MS} (h : IsR W F b m) (k : ∀ i, i < W.heap.size -> F i -> W'.heap[i]? = W.heap[i]?) : IsR W' F b m := by
 obtain ⟨hw, u, gr, gc, gs, tv, h⟩ := h; exact ⟨hw, u, gr, gc, gs, tv, h.kept k⟩
theorem IsR.mono {W : World} {F G : Nat -> Prop} {b : Nat} {m : MS} (h : IsR W F b m) (k : ∀ i, i < W.heap.size -> F i -> G i) : IsR W G b m := by
 obtain ⟨hw, u, gr, gc, gs, tv, h⟩ := h; exact ⟨hw, u, gr, gc, gs, tv, h.mono k⟩
theorem IsR.below {W W' : World} {F : Nat -> Prop} {b : Nat} {m : MS} (h : IsR W F b m) (k : Below W.heap.size W W') : IsR W' F b m := h.kept fun i hi _ => k.block i hi
theorem inO_mem (m : MS) (n : Nat) (l : List UInt8) : ∀ k : Nat, (((n : Int), l) ∈ inO m k ↔ n < k /\ m.banks n = some l)
 | 0 => by simp [inO]
 | k + 1 => by
  have ih := inO_mem m n l k
  cases hb : m.banks k with
  | none =>
   rw [inO_none m k hb, ih]
   constructor
   ·rintro ⟨a, c⟩; exact ⟨by omega, c⟩
   ·rintro ⟨a, c⟩
    refine ⟨?_, c⟩
    by_cases e : n = k
    ·subst e; rw [hb] at c; cases c
    ·omega
  | some x =>
   rw [inO_some m k x hb, List.mem_append, ih]
   constructor
   ·rintro (⟨a, c⟩ | h)
    ·exact ⟨by omega, c⟩
    ·simp at h; obtain ⟨e, rfl⟩ := h; have : n = k := by omega
     subst this; exact ⟨by omega, hb⟩
   ·rintro ⟨a, c⟩
    by_cases e : n = k
    ·subst e; rw [hb] at c; cases c; right; simp
    ·left; exact ⟨by omega, c⟩
theorem inO_fst (m : MS) (k : Nat) (t : Int × List UInt8) (h : t ∈ inO m k) : ∃ n : Nat, t.1 = (n : Int) := by
 simp only [inO, List.mem_filterMap] at h
 obtain ⟨n, _, e⟩ := h
 cases hb : m.banks n with
 | none => rw [hb] at e; simp at e
 | some x => rw [hb] at e; simp at e; exact ⟨n, by rw [<- e]⟩
set_option maxHeartbeats 2000000
set_option maxRecDepth 100000
theorem rbank_any (b : Nat) (bs : List (Int × List UInt8)) (w : World) {F : Nat -> Prop} {m : MS} {u : Value} {gr gc : Nat} {gs : List (Nat × Nat)} {tv : Value} (h : MemR w F b bs m u gr gc gs tv) (c0 : 0 <= m.ch) (c1 : m.ch < 16) (hl : bs.length <= 16) :
  Calls Tryz.prog 72 #[.pointer (some ⟨b, 0, none⟩)] w fun e w' => Below w.heap.size w w' /\ ((e = .returned (.slice none 0 0) /\ ∀ t ∈ bs, t.1 ≠ m.ch) \/ ∃ (i : Nat) (t : Int × List UInt8) (g : Nat × Nat), bs[i]? = some t /\ gs[i]? = some g /\ t.1 = m.ch /\ e = .returned (.slice (some ⟨g.1, 0, none⟩) 16384 16384)) := by
 obtain ⟨pu, cu, rfl⟩ := own_form h.banks.row
 have k0 := cell_of w b 0 _ 95 _ h.blk rfl
 have HH : Hid _ := h
 clear h
 go_enter Tryz.func72, Tryz.ntmps72
 go_wp2
 go_loopw [10] (fun i wr => ∃ k : Nat, k <= bs.length /\ i = .int .i64 (k : Int) /\ Below w.heap.size w wr /\ ∀ (j : Nat) t, j < k -> bs[j]? = some t -> t.1 ≠ m.ch) (fun i _ => bs.length - (intOf i).toNat)
 case atStart => exact ⟨0, by omega, rfl, Below.refl _ _, fun j t hj => by omega⟩
 case round =>
  obtain ⟨k, hk, rfl, hB, hN⟩ := hrel; have h2 := HH.out.kept (W' := wr) fun i hi _ => hB.block i hi
  by_cases hlt : k < bs.length
  ·have i1 : (k : Int) < bs.length := by omega
   have hkg : k < gs.length := by rw [h2.banks.len]; exact hlt
   obtain ⟨g0, cp, rfl, rfl⟩ := (show ∃ g c, pu = some ⟨g, 0, none⟩ /\ c = cu from by
    rcases h2.banks.row.2 with ⟨e, e2⟩ | ⟨g, cap, cur, e, _⟩
    ·omega
    ·simp only [Value.slice.injEq] at e; exact ⟨g, cu, e.1, rfl⟩)
   obtain ⟨e1, e2⟩ := bcs_get bs gs k bs[k] gs[k] (List.getElem?_eq_getElem hlt) (List.getElem?_eq_getElem hkg); have a1 := World.ownsRow.cells h2.banks.row (g := g0) rfl _ _ e1; have a2 := World.ownsRow.cells h2.banks.row (g := g0) rfl _ _ e2; rw [Addr.add_lit, Nat.zero_add] at a1 a2; obtain ⟨d1, d2, d3, _⟩ := h2.banks.dat k bs[k] gs[k] (List.getElem?_eq_getElem hlt) (List.getElem?_eq_getElem hkg); rw [d2, d3] at a2; have hch := cell_of wr b 3 _ 95 _ h2.blk rfl; have hB2 : Below w.heap.size w (wr.alloc (.cells #[.int .i64 (bs[k]).1, .slice (some ⟨(gs[k]).1, 0, none⟩) 16384 16384] 81)).drew := (hB.alloc hB.size _).drew; have hE : Below w.heap.size w (wr.alloc (.cells #[.int .i64 (bs[k]).1, .slice (some ⟨(gs[k]).1, 0, none⟩) 16384 16384] 81)) := hB.alloc hB.size _; have hbs := List.getElem?_eq_getElem hlt; have hgs := List.getElem?_eq_getElem hkg; have hbw : b < wr.heap.size := lt_of h2.blk
   have hch2 : (wr.alloc (.cells #[.int .i64 (bs[k]).1, .slice (some ⟨(gs[k]).1, 0, none⟩) 16384 16384] 81)).cell? ⟨b, 3, none⟩ = some (.int .u8 m.ch) := (World.cell?_of_block (w := wr) (Below.heap_alloc wr _ b hbw)).trans hch; have e64 : IntKind.i64.wrap m.ch = m.ch := by simp [IntKind.wrap, IntKind.bits, IntKind.signed]; omega
   generalize hT : bs[k] = t at *
   generalize hG : gs[k] = g at *
   have HN : Hid _ := hN; have HB2 : Hid _ := hB2; have HE : Hid _ := hE; have HBS : Hid _ := hbs; have HGS : Hid _ := hgs; clear hN hB2 hE hbs hgs h2 d1 d2 d3 e1 e2 hB hT hG
   by_cases q : t.1 = m.ch
   ·have q1 : (t.1 == m.ch) = true := by simpa using q
    have HQ : Hid _ := q; clear q; go_wp2_with fail
    go_quiet (fail)
    go_wp2; go_ret; exact ⟨⟨HE.out.os, HE.out.tape, HE.out.output, HE.out.size, HE.out.block⟩, .inr ⟨k, t, g, HBS.out, HGS.out, HQ.out, rfl⟩⟩
   ·have q1 : (t.1 == m.ch) = false := by simpa using q
    have hN2 : ∀ (j : Nat) x, j < k + 1 -> bs[j]? = some x -> x.1 ≠ m.ch := by
     intro j x hj hx
     by_cases e : j = k
     ·subst e; rw [HBS.out] at hx; cases hx; exact q
     ·exact HN.out j x (by omega) hx
    have HN2 : Hid _ := hN2; clear q hN2 HN HBS HGS; go_wp2_with fail
    go_quiet (fail)
    go_wp2; go_roundw
    case rel =>
     first
      | exact ⟨k + 1, by omega, by go_num, ⟨HE.out.os, HE.out.tape, HE.out.output, HE.out.size, HE.out.block⟩, HN2.out⟩
      | ((repeat apply Exists.intro); refine ⟨⟨k + 1, by omega, ?_, ⟨HE.out.os, HE.out.tape, HE.out.output, HE.out.size, HE.out.block⟩, HN2.out⟩, rfl⟩; go_num)
    case measure => simp [intOf]; omega
  ·obtain rfl : k = bs.length := by omega
   go_wp2; go_ret; refine ⟨hB, .inl ⟨rfl, fun t ht => ?_⟩⟩; obtain ⟨j, hj, e⟩ := List.mem_iff_getElem.1 ht; exact hN j t hj (by rw [List.getElem?_eq_getElem hj, e])
section
variable {W : World} {F : Nat -> Prop} {b : Nat} {bs : List (Int × List UInt8)} {m : MS} {u : Value} {gr gc : Nat} {gs : List (Nat × Nat)} {tv : Value}
theorem MemR.nu (h : MemR W F b bs m u gr gc gs tv) (g : Nat) (e : u.ownBlock = some g) : g ≠ b := by
 rintro rfl; obtain ⟨cur, e2⟩ := own_block h.banks.row g e; have := h.blk; rw [e2] at this; simp at this
theorem MemR.nt (h : MemR W F b bs m u gr gc gs tv) (g : Nat) (e : tv.ownBlock = some g) : g ≠ b := by
 rintro rfl; obtain ⟨cur, e2⟩ := own_block h.tones g e; have := h.blk; rw [e2] at this; simp at this
theorem MemR.n5 (h : MemR W F b bs m u gr gc gs tv) (g : Nat) (l : List UInt8) (e : B5 W g l) : g ≠ b /\ u.ownBlock ≠ some g /\ tv.ownBlock ≠ some g := by
 refine ⟨?_, ?_, ?_⟩
 ·rintro rfl; have := h.blk; rw [e] at this; simp at this
 ·intro c; obtain ⟨cur, e2⟩ := own_block h.banks.row g c; unfold B5 at e; rw [e2] at e; simp at e
 ·intro c; obtain ⟨cur, e2⟩ := own_block h.tones g c; unfold B5 at e; rw [e2] at e; simp at e
theorem MemR.reg (h : MemR W F b bs m u gr gc gs tv) (i : Nat) (v : Value) (m' : MS) (he : ∀ R S : Value, (rcells u R S m tv).set i v = rcells u R S m' tv) (e1 : m'.ram = m.ram) (e2 : m'.scr = m.scr) (e4 : m'.tones = m.tones) : MemR (W.setCell ⟨b, i, none⟩ v) F b bs m' u gr gc gs tv := by
 have k : ∀ j, j ≠ b -> (W.setCell ⟨b, i, none⟩ v).heap[j]? = W.heap[j]? := fun j hj => setCell_other _ _ _ _ _ hj
 refine ⟨by rw [setCell_heap W b i _ 95 v h.blk, he], ⟨h.banks.len, own_kept h.banks.row fun g e _ => k g (h.nu g e), fun j t g a c => ?_, h.banks.nd⟩, ?_, ?_, by rw [e1]; exact h.rl, by rw [e2]; exact h.sl, by rw [e4]; exact own_kept h.tones fun g e _ => k g (h.nt g e), h.nr, h.nc, h.rc, h.fb, h.fu, h.fg, h.fr, h.fc, h.ft⟩
 ·obtain ⟨x1, x2, x3, x4⟩ := h.banks.dat j t g a c
  exact ⟨(k _ (h.n5 _ _ x1).1).trans x1, x2, x3, x4⟩
 ·rw [e1]; exact (k _ (h.n5 _ _ h.ram).1).trans h.ram
 ·rw [e2]; exact (k _ (h.n5 _ _ h.scr).1).trans h.scr
theorem MemR.ramS (h : MemR W F b bs m u gr gc gs tv) (i : Nat) (x : UInt8) : MemR (W.setCell ⟨gr, i, none⟩ (.int .u8 (bt x))) F b bs { m with ram := m.ram.set i x } u gr gc gs tv := by
 have k : ∀ j, j ≠ gr -> (W.setCell ⟨gr, i, none⟩ (.int .u8 (bt x))).heap[j]? = W.heap[j]? := fun j hj => setCell_other _ _ _ _ _ hj
 obtain ⟨n1, n2, n3⟩ := h.n5 _ _ h.ram
 refine ⟨(k _ n1.symm).trans h.blk, ⟨h.banks.len, own_kept h.banks.row fun g e _ => k g (fun c => n2 (c ▸ e)), fun j t g a c => ?_, h.banks.nd⟩, ?_, (k _ h.rc.symm).trans h.scr, by simp [h.rl], h.sl, own_kept h.tones fun g e _ => k g (fun c => n3 (c ▸ e)), h.nr, h.nc, h.rc, h.fb, h.fu, h.fg, h.fr, h.fc, h.ft⟩
 ·obtain ⟨x1, x2, x3, x4⟩ := h.banks.dat j t g a c
  exact ⟨(k _ (h.nr g (List.mem_of_getElem? c))).trans x1, x2, x3, x4⟩
 ·unfold B5; rw [<- bv_set]; exact setCell_heap W _ _ _ 5 _ h.ram
theorem MemR.scrS (h : MemR W F b bs m u gr gc gs tv) (i : Nat) (x : UInt8) : MemR (W.setCell ⟨gc, i, none⟩ (.int .u8 (bt x))) F b bs { m with scr := m.scr.set i x } u gr gc gs tv := by
 have k : ∀ j, j ≠ gc -> (W.setCell ⟨gc, i, none⟩ (.int .u8 (bt x))).heap[j]? = W.heap[j]? := fun j hj => setCell_other _ _ _ _ _ hj
 obtain ⟨n1, n2, n3⟩ := h.n5 _ _ h.scr
 refine ⟨(k _ n1.symm).trans h.blk, ⟨h.banks.len, own_kept h.banks.row fun g e _ => k g (fun c => n2 (c ▸ e)), fun j t g a c => ?_, h.banks.nd⟩, (k _ h.rc).trans h.ram, ?_, h.rl, by simp [h.sl], own_kept h.tones fun g e _ => k g (fun c => n3 (c ▸ e)), h.nr, h.nc, h.rc, h.fb, h.fu, h.fg, h.fr, h.fc, h.ft⟩
 ·obtain ⟨x1, x2, x3, x4⟩ := h.banks.dat j t g a c
  exact ⟨(k _ (h.nc g (List.mem_of_getElem? c))).trans x1, x2, x3, x4⟩
 ·unfold B5; rw [<- bv_set]; exact setCell_heap W _ _ _ 5 _ h.scr
def setB (bs : List (Int × List UInt8)) (n : Int) (l : List UInt8) : List (Int × List UInt8) := bs.map fun t => if t.1 = n then (t.1, l) else t
theorem bcs_setB (n : Int) (l : List UInt8) : ∀ (bs : List (Int × List UInt8)) (gs : List (Nat × Nat)), (∀ t ∈ bs, t.1 = n -> t.2.length = l.length) -> bcs (setB bs n l) gs = bcs bs gs
 | [], gs, _ => by cases gs <;> rfl
 | t :: bs, [], _ => rfl
 | t :: bs, g :: gs, h => by
  have ih := bcs_setB n l bs gs fun x hx => h x (List.mem_cons_of_mem _ hx)
  simp only [setB, List.map_cons, bcs] at ih ⊢; rw [ih]
  congr 1
  split
  ·next c => simp only [bc, h t (by simp) c]
  ·rfl
theorem MemR.bankS (h : MemR W F b bs m u gr gc gs tv) (hd : (bs.map Prod.fst).Nodup) (k : Nat) (t : Int × List UInt8) (g : Nat × Nat) (ht : bs[k]? = some t) (hg : gs[k]? = some g) (i : Nat) (x : UInt8) (m' : MS) (e1 : m'.ram = m.ram) (e2 : m'.scr = m.scr) (e4 : m'.tones = m.tones) (e5 : ∀ R S, rcells u R S m' tv = rcells u R S m tv) :
  MemR (W.setCell ⟨g.1, i, none⟩ (.int .u8 (bt x))) F b (setB bs t.1 (t.2.set i x)) m' u gr gc gs tv := by
 have kk : ∀ j, j ≠ g.1 -> (W.setCell ⟨g.1, i, none⟩ (.int .u8 (bt x))).heap[j]? = W.heap[j]? := fun j hj => setCell_other _ _ _ _ _ hj
 obtain ⟨x1, x2, x3, x4⟩ := h.banks.dat k t g ht hg
 obtain ⟨n1, n2, n3⟩ := h.n5 _ _ x1
 have hgm := List.mem_of_getElem? hg
 have hlen : (setB bs t.1 (t.2.set i x)).length = bs.length := by simp [setB]
 have hsame : ∀ y ∈ bs, y.1 = t.1 -> y.2.length = (t.2.set i x).length := by
  intro y hy e; obtain ⟨j, hj, ej⟩ := List.mem_iff_getElem.1 hy; have hjg : j < gs.length := by rw [h.banks.len]; exact hj
  have := (h.banks.dat j y gs[j] (by rw [List.getElem?_eq_getElem hj, ej]) (List.getElem?_eq_getElem hjg)).2.2.1
  simp [x3, this]
 refine ⟨by rw [e5]; exact (kk _ n1.symm).trans h.blk, ⟨by rw [hlen]; exact h.banks.len, ?_, fun j y z a c => ?_, h.banks.nd⟩, by rw [e1]; exact (kk _ (h.nr g hgm).symm).trans h.ram, by rw [e2]; exact (kk _ (h.nc g hgm).symm).trans h.scr, by rw [e1]; exact h.rl, by rw [e2]; exact h.sl, by rw [e4]; exact own_kept h.tones fun q e _ => kk q (fun c => n3 (c ▸ e)), h.nr, h.nc, h.rc, h.fb, h.fu, h.fg, h.fr, h.fc, h.ft⟩
 ·rw [hlen, bcs_setB _ _ bs gs hsame]; exact own_kept h.banks.row fun q e _ => kk q (fun c => n2 (c ▸ e))
 ·simp only [setB, List.getElem?_map, Option.map_eq_some_iff] at a
  obtain ⟨y0, a0, ay⟩ := a; obtain ⟨w1, w2, w3, w4⟩ := h.banks.dat j y0 z a0 c
  by_cases ej : j = k
  ·subst ej
   rw [ht] at a0; cases a0; rw [hg] at c; cases c; rw [if_pos rfl] at ay; subst ay; refine ⟨?_, x2, by simp [x3], x4⟩; unfold B5; rw [<- bv_set]; exact setCell_heap W _ _ _ 5 _ x1
  ·have hne : y0.1 ≠ t.1 := by
    intro e; have a1 : (bs.map Prod.fst)[j]? = some t.1 := by rw [List.getElem?_map, a0]; simp [e]
    have a2 : (bs.map Prod.fst)[k]? = some t.1 := by rw [List.getElem?_map, ht]; rfl
    obtain ⟨l1, q1⟩ := List.getElem?_eq_some_iff.1 a1; obtain ⟨l2, q2⟩ := List.getElem?_eq_some_iff.1 a2; exact ej ((List.getElem_inj (h₀ := l1) (h₁ := l2) hd).1 (by rw [q1, q2]))
   rw [if_neg hne] at ay; subst ay
   have hzg : z.1 ≠ g.1 := by
    intro e; have a1 : (gs.map Prod.fst)[j]? = some g.1 := by rw [List.getElem?_map, c]; simp [e]
    have a2 : (gs.map Prod.fst)[k]? = some g.1 := by rw [List.getElem?_map, hg]; rfl
    obtain ⟨l1, q1⟩ := List.getElem?_eq_some_iff.1 a1; obtain ⟨l2, q2⟩ := List.getElem?_eq_some_iff.1 a2; exact ej ((List.getElem_inj (h₀ := l1) (h₁ := l2) h.banks.nd).1 (by rw [q1, q2]))
   exact ⟨(kk _ hzg).trans w1, w2, w3, w4⟩
end
theorem inO_keys (m : MS) : ∀ k, ((inO m k).map Prod.fst).Nodup /\ ∀ t ∈ inO m k, t.1 < (k : Int)
 | 0 => by simp [inO]
 | k + 1 => by
  obtain ⟨h1, h2⟩ := inO_keys m k
  cases hb : m.banks k with
  | none => rw [inO_none m k hb]; exact ⟨h1, fun t ht => by have := h2 t ht; omega⟩
  | some l =>
   rw [inO_some m k l hb]; refine ⟨?_, ?_⟩
   ·rw [List.map_append, List.nodup_append]
    refine ⟨h1, by simp, ?_⟩; intro a ha c hc e
    simp at hc
    simp only [List.mem_map] at ha; obtain ⟨y, hy, rfl⟩ := ha; have := h2 y hy
    omega
   ·intro t ht
    rcases List.mem_append.1 ht with ht | ht
    ·have := h2 t ht; omega
    ·simp at ht; subst ht; simp; omega
theorem inO_setB (m : MS) (n : Nat) (l0 l : List UInt8) (hb : m.banks n = some l0) : ∀ k, inO { m with banks := upd m.banks n l } k = setB (inO m k) (n : Int) l
 | 0 => by simp [inO, setB]
 | k + 1 => by
  have ih := inO_setB m n l0 l hb k
  by_cases e : k = n
  ·subst e
   have h1 : ({ m with banks := upd m.banks k l } : MS).banks k = some l := by simp [upd]
   rw [inO_some _ k l h1, inO_some m k l0 hb, ih]
   simp [setB]
  ·cases hk : m.banks k with
   | none =>
    have h1 : ({ m with banks := upd m.banks n l } : MS).banks k = none := by simp [upd, e, hk]
    rw [inO_none _ k h1, inO_none m k hk, ih]
   | some x =>
    have h1 : ({ m with banks := upd m.banks n l } : MS).banks k = some x := by simp [upd, e, hk]
    rw [inO_some _ k x h1, inO_some m k x hk, ih]; have : ((k : Int)) ≠ (n : Int) := by omega
    simp [setB, this]
set_option maxHeartbeats 2000000
set_option maxRecDepth 100000
theorem i64_id (z : Int) (h0 : 0 <= z) (h1 : z < 65536) : IntKind.i64.wrap z = z := by simp [IntKind.wrap, IntKind.bits, IntKind.signed]; omega
theorem rload_port (b : Nat) (z : Int) (h0 : 52224 <= z) (h1 : z < 65536) (w : World) {F : Nat -> Prop} {m : MS} (hm : IsR w F b m) :
  Calls Tryz.prog 71 #[.pointer (some ⟨b, 0, none⟩), .int .u16 z] w fun e w' => e = .returned (.int .u8 (pt m z)) /\ w' = w := by
 obtain ⟨hw, u, gr, gc, gs, tv, hm⟩ := hm
 have c3 := cell_of w b 3 _ 95 _ hm.blk rfl
 have c4 := cell_of w b 4 _ 95 _ hm.blk rfl
 have c5 := cell_of w b 5 _ 95 _ hm.blk rfl
 have c6 := cell_of w b 6 _ 95 _ hm.blk rfl
 have c7 := cell_of w b 7 _ 95 _ hm.blk rfl
 have w1 := hw.pitch0
 have w2 := hw.pitch1
 have w3 := hw.time0
 have w4 := hw.time1
 have e0 := i64_id z (by omega) h1
 have d1 : decide (z < 16384) = false := by simp; omega
 have d2 : decide (z < 32768) = false := by simp; omega
 have d3 : decide (z < 49152) = false := by simp; omega
 have d4 : decide (z < 52224) = false := by simp; omega
 have ep := u8_wrap m.pitch
 have et := u8_wrap m.time
 have hq1 : IntKind.u16.wrap (m.pitch.tdiv 256) = m.pitch / 256 := by rw [u16_wrap, Int.tdiv_eq_ediv_of_nonneg w1]; omega
 have hq2 : IntKind.u8.wrap (m.pitch / 256) = m.pitch / 256 := by rw [u8_wrap]; omega
 have hq3 : IntKind.u16.wrap (m.time.tdiv 256) = m.time / 256 := by rw [u16_wrap, Int.tdiv_eq_ediv_of_nonneg w3]; omega
 have hq4 : IntKind.u8.wrap (m.time / 256) = m.time / 256 := by rw [u8_wrap]; omega
 clear hm
 by_cases a0 : z = 65280
 ·subst a0
  clear e0 d1 d2 d3 d4
  go_enter Tryz.func71, Tryz.ntmps71; go_wp2; go_ret; exact ⟨by simp [pt], rfl⟩
 by_cases a1 : z = 65282
 ·subst a1
  clear e0 d1 d2 d3 d4
  go_enter Tryz.func71, Tryz.ntmps71; go_wp2; go_ret; exact ⟨by simp [pt], rfl⟩
 by_cases a2 : z = 65284
 ·subst a2
  clear e0 d1 d2 d3 d4
  go_enter Tryz.func71, Tryz.ntmps71; go_wp2; go_ret; exact ⟨by simp [pt], rfl⟩
 by_cases a3 : z = 65285
 ·subst a3
  clear e0 d1 d2 d3 d4
  go_enter Tryz.func71, Tryz.ntmps71; go_wp2; go_ret; exact ⟨by simp [pt], rfl⟩
 by_cases a4 : z = 65286
 ·subst a4
  clear e0 d1 d2 d3 d4
  go_enter Tryz.func71, Tryz.ntmps71; go_wp2; go_ret; exact ⟨by simp [pt], rfl⟩
 by_cases a5 : z = 65288
 ·subst a5
  clear e0 d1 d2 d3 d4
  go_enter Tryz.func71, Tryz.ntmps71; go_wp2; go_ret; exact ⟨by simp [pt], rfl⟩
 by_cases a6 : z = 65289
 ·subst a6
  clear e0 d1 d2 d3 d4
  go_enter Tryz.func71, Tryz.ntmps71; go_wp2; go_ret; exact ⟨by simp [pt], rfl⟩
 have f0 : (z == 65280) = false := by simpa using a0
 have f1 : (z == 65282) = false := by simpa using a1
 have f2 : (z == 65284) = false := by simpa using a2
 have f3 : (z == 65285) = false := by simpa using a3
 have f4 : (z == 65286) = false := by simpa using a4
 have f5 : (z == 65288) = false := by simpa using a5
 have f6 : (z == 65289) = false := by simpa using a6
 go_enter Tryz.func71, Tryz.ntmps71
 go_wp2
 go_ret
 exact ⟨by simp [pt, a0, a1, a2, a3, a4, a5, a6], rfl⟩
theorem rload_any (b : Nat) (z : Int) (h0 : 0 <= z) (h1 : z < 65536) (w : World) {F : Nat -> Prop} {m : MS} (hm : IsR w F b m) :
  Calls Tryz.prog 71 #[.pointer (some ⟨b, 0, none⟩), .int .u16 z] w fun e w' => e = .returned (.int .u8 (ld m z)) /\ Below w.heap.size w w' := by
 have e0 := i64_id z h0 h1
 by_cases a1 : z < 16384
 ·have el : ld m z = 0 := by simp only [ld, a1, if_true]
  rw [el]; have d1 : decide (z < 16384) = true := by simpa using a1
  go_enter Tryz.func71, Tryz.ntmps71; go_wp2; go_ret; exact ⟨rfl, Below.refl _ _⟩
 have d1 : decide (z < 16384) = false := by simpa using a1
 by_cases a2 : z < 32768
 ·obtain ⟨hw, u, gr, gc, gs, tv, h⟩ := hm
  have d2 : decide (z < 32768) = true := by simpa using a2
  have hbk := rbank_any b (inO m 16) w h hw.ch0 hw.ch1 (inO_len m 16); have hn : m.ch = (m.ch.toNat : Int) := by have := hw.ch0; omega
  have hch : m.ch.toNat < 16 := by have := hw.ch1; have := hw.ch0; omega
  have HEN : Hid (m.banks m.ch.toNat = none -> ld m z = 0) := fun hnone => by simp only [ld, a1, a2, if_true, if_false, hnone]
  have HES : Hid (∀ l, m.banks m.ch.toNat = some l -> ld m z = lb l (z - 16384).toNat) := fun l hbn => by simp only [ld, a1, a2, if_true, if_false, hbn]
  have HH : Hid _ := h; clear h; have q0 := eql_nil 22 5 Tryz.underlying22
  go_enter Tryz.func71, Tryz.ntmps71; go_wp2_with fail
  refine hbk.mono ?_; rintro e w2 ⟨hb2, hc⟩
  rcases hc with ⟨rfl, hno⟩ | ⟨i, t, g, hi, hg, ht, rfl⟩
  ·have hnone : m.banks m.ch.toNat = none := by
    cases hb : m.banks m.ch.toNat with
    | none => rfl
    | some l => exact absurd (by rw [<- hn]) (hno _ ((inO_mem m m.ch.toNat l 16).2 ⟨hch, hb⟩))
   have HE : Hid _ := HEN.out hnone; clear hno hnone HEN HES; go_wp2; go_ret; exact ⟨by rw [HE.out]; rfl, hb2⟩
  ·have hmem : (((m.ch.toNat : Nat) : Int), t.2) ∈ inO m 16 := by
    have : t = (((m.ch.toNat : Nat) : Int), t.2) := by rw [<- hn, <- ht]
    rw [<- this]; exact List.mem_of_getElem? hi
   have hbn := ((inO_mem m m.ch.toNat t.2 16).1 hmem).2; obtain ⟨x1, x2, x3, x4⟩ := HH.out.banks.dat i t g hi hg; have hd5 := (hb2.block _ (lt_of x1)).trans x1; obtain ⟨k, hk⟩ : ∃ k : Nat, z = k + 16384 := ⟨(z - 16384).toNat, by omega⟩
   have hkl : k < 16384 := by omega
   have hc := cell_of w2 g.1 k _ 5 _ hd5 ((bv_get t.2 _ _).2 ⟨_, lb_of t.2 k (by omega), rfl⟩)
   have el : ld m z = ((t.2.getD k 0).toNat : Int) := by
    rw [HES.out _ hbn, lb, show (z - 16384).toNat = k by omega]
   clear HEN HES; have e1 : IntKind.i64.wrap (z - 16384) = (k : Int) := by rw [hk, show (k : Int) + 16384 - 16384 = (k : Int) by omega]; exact i64_id _ (by omega) (by omega)
   have i1 : (k : Int) < 16384 := by omega
   generalize ((t.2.getD k 0).toNat : Int) = y at *
   have HB : Hid _ := hb2; have HE : Hid _ := el; clear hmem hbn hi hg ht x1 x2 x3 x4 hd5 el hk hb2; go_wp2; go_ret; exact ⟨by rw [HE.out]; rfl, HB.out⟩
 have d2 : decide (z < 32768) = false := by simpa using a2
 by_cases a3 : z < 49152
 ·obtain ⟨hw, u, gr, gc, gs, tv, h⟩ := hm
  have d3 : decide (z < 49152) = true := by simpa using a3
  have el0 : ld m z = lb m.ram (z - 32768).toNat := by simp only [ld, a1, a2, a3, if_true, if_false]
  obtain ⟨k, rfl⟩ : ∃ k : Nat, z = k + 32768 := ⟨(z - 32768).toNat, by omega⟩
  have c1 := cell_of w b 1 _ 95 _ h.blk rfl; have hc := cell_of w gr k _ 5 _ h.ram ((bv_get m.ram _ _).2 ⟨_, lb_of m.ram k (by rw [h.rl]; omega), rfl⟩)
  have el : ld m ((k : Int) + 32768) = ((m.ram.getD k 0).toNat : Int) := by
   rw [el0, lb, show ((k : Int) + 32768 - 32768).toNat = k by omega]
  clear el0; rw [el]; have e1 : IntKind.i64.wrap ((k : Int) + 32768 - 32768) = (k : Int) := by rw [show (k : Int) + 32768 - 32768 = (k : Int) by omega]; exact i64_id _ (by omega) (by omega)
  have i1 : (k : Int) < 16384 := by omega
  generalize ((m.ram.getD k 0).toNat : Int) = y at *
  clear h el
  go_enter Tryz.func71, Tryz.ntmps71; go_wp2; go_ret; exact ⟨rfl, Below.refl _ _⟩
 have d3 : decide (z < 49152) = false := by simpa using a3
 by_cases a4 : z < 52224
 ·obtain ⟨hw, u, gr, gc, gs, tv, h⟩ := hm
  have d4 : decide (z < 52224) = true := by simpa using a4
  have el0 : ld m z = lb m.scr (z - 49152).toNat := by simp only [ld, a1, a2, a3, a4, if_true, if_false]
  obtain ⟨k, rfl⟩ : ∃ k : Nat, z = k + 49152 := ⟨(z - 49152).toNat, by omega⟩
  have c1 := cell_of w b 2 _ 95 _ h.blk rfl; have hc := cell_of w gc k _ 5 _ h.scr ((bv_get m.scr _ _).2 ⟨_, lb_of m.scr k (by rw [h.sl]; omega), rfl⟩)
  have el : ld m ((k : Int) + 49152) = ((m.scr.getD k 0).toNat : Int) := by
   rw [el0, lb, show ((k : Int) + 49152 - 49152).toNat = k by omega]
  clear el0; rw [el]; have e1 : IntKind.i64.wrap ((k : Int) + 49152 - 49152) = (k : Int) := by rw [show (k : Int) + 49152 - 49152 = (k : Int) by omega]; exact i64_id _ (by omega) (by omega)
  have i1 : (k : Int) < 3072 := by omega
  generalize ((m.scr.getD k 0).toNat : Int) = y at *
  clear h el
  go_enter Tryz.func71, Tryz.ntmps71; go_wp2; go_ret; exact ⟨rfl, Below.refl _ _⟩
 have := rload_port b z (by omega) h1 w hm
 refine this.mono ?_
 rintro e w' ⟨rfl, rfl⟩
 exact ⟨by simp only [ld, a1, a2, a3, a4, if_false], Below.refl _ _⟩
theorem rcell_any (b : Nat) (z : Int) (h0 : 0 <= z) (h1 : z < 65536) (w : World) {F : Nat -> Prop} {m : MS} (hm : IsR w F b m) :
  Calls Tryz.prog 77 #[.pointer (some ⟨b, 0, none⟩), .int .u16 z] w fun e w' => e = .returned (.int .u16 (cl m z)) /\ Below w.heap.size w w' := by
 have hl := rload_any b z h0 h1 w hm
 have l1 := (ld_bound m hm.1 z)
 have l2 := (ld_bound m hm.1 ((z + 1) % 65536))
 have e1 := u16_wrap (z + 1)
 go_enter Tryz.func77, Tryz.ntmps77
 go_wp2_with fail
 refine hl.mono ?_
 rintro e w1 ⟨rfl, hb1⟩
 have hl2 := rload_any b ((z + 1) % 65536) (by omega) (by omega) w1 (hm.below hb1)
 go_wp2_with fail
 refine hl2.mono ?_
 rintro e w2 ⟨rfl, hb2⟩
 have e3 : ∀ y, IntKind.u16.wrap (ld m z + y) = (ld m z + y) % 65536 := fun y => u16_wrap _
 go_wp2
 go_ret
 refine ⟨congrArg Ending.returned (congrArg (Value.int .u16) ?_), hb1.trans (hb2.mono hb1.size)⟩
 unfold cl
 omega
def RD (w w' : World) (F : Nat -> Prop) (b : Nat) (m' : MS) : Prop := IsR w' (gr F w w') b m' /\ Tc F w w'
theorem inO_congr {m m' : MS} (h : m'.banks = m.banks) (k : Nat) : inO m' k = inO m k := by unfold inO; rw [h]
theorem RD.same {w w2 : World} {F : Nat -> Prop} {b : Nat} {m : MS} (h : IsR w F b m) (hb : Below w.heap.size w w2) : RD w w2 F b m :=
 ⟨(h.below hb).mono fun i _ f => .inl f, Tc.of_below hb fun i h1 h2 => by omega⟩
theorem RD.set {w w2 : World} {F : Nat -> Prop} {b : Nat} {m' : MS} {u : Value} {gr' gc : Nat} {gs : List (Nat × Nat)} {tv : Value} (hb : Below w.heap.size w w2) (g i : Nat) (v : Value) (hg : F g) (wf : Wf m') (h : MemR (w2.setCell ⟨g, i, none⟩ v) F b (inO m' 16) m' u gr' gc gs tv) : RD w (w2.setCell ⟨g, i, none⟩ v) F b m' :=
 ⟨⟨wf, u, gr', gc, gs, tv, h.mono fun i _ f => .inl f⟩, ((Tc.of_below hb fun i h1 h2 => by omega).setCell g i hg v)⟩
theorem RD.next {w w1 w2 : World} {F : Nat -> Prop} {b : Nat} {m1 m2 : MS} (h1 : RD w w1 F b m1) (h2 : RD w1 w2 (gr F w w1) b m2) : RD w w2 F b m2 := by
 refine ⟨h2.1.mono ?_, h1.2.trans h2.2 (fun _ f => f) ?_⟩
 ·rintro i hi ((f | ⟨a, c⟩) | ⟨a, c⟩)
  ·exact .inl f
  ·exact .inr ⟨a, hi⟩
  ·exact .inr ⟨Nat.le_trans h1.2.size a, c⟩
 ·rintro i hi (f | ⟨a, c⟩)
  ·exact f
  ·omega
theorem MemR.tone {W W1 W2 : World} {F : Nat -> Prop} {b : Nat} {bs : List (Int × List UInt8)} {m : MS} {u : Value} {gr' gc : Nat} {gs : List (Nat × Nat)} {tv tv' : Value} (h : MemR W F b bs m u gr' gc gs tv) (hb : Below W.heap.size W W1) (hg : Grew W1 W2 tv tv') (t : Int × Int × Int)
  (ho : W2.ownsRow 0 66 3 tv' (m.tones.length + 1) (tc m.tones ++ tcell t)) :
  MemR (W2.setCell ⟨b, 9, none⟩ tv') (gr F W W2) b bs { m with tones := m.tones ++ [t] } u gr' gc gs tv' /\ Tc F W (W2.setCell ⟨b, 9, none⟩ tv') := by
 have k2 : ∀ k, k < W.heap.size -> tv.ownBlock ≠ some k -> W2.heap[k]? = W.heap[k]? := fun k hk hn => (hg.block k (Nat.lt_of_lt_of_le hk hb.size) (fun e => hn e.symm)).trans (hb.block k hk)
 have blk2 := (k2 b (lt_of h.blk) (fun e => h.nt b e rfl)).trans h.blk
 have hne : ∀ g, tv'.ownBlock = some g -> g ≠ b := by
  intro g e c; subst c; obtain ⟨cur, e2⟩ := own_block ho g e; rw [blk2] at e2; simp at e2
 have k3 : ∀ k, k < W.heap.size -> k ≠ b -> tv.ownBlock ≠ some k -> (W2.setCell ⟨b, 9, none⟩ tv').heap[k]? = W.heap[k]? := fun k hk h1 h2 => (setCell_other _ _ _ _ _ h1).trans (k2 k hk h2)
 refine ⟨⟨by rw [setCell_heap W2 b 9 _ 95 tv' blk2]; rfl, ⟨h.banks.len, own_kept h.banks.row fun g e hg2 => k3 g hg2 (h.nu g e) ?_, fun j t g a c => ?_, h.banks.nd⟩, ?_, ?_, h.rl, h.sl, ?_, h.nr, h.nc, h.rc, .inl h.fb, fun g e => .inl (h.fu g e), fun y hy => .inl (h.fg y hy), .inl h.fr, .inl h.fc, ?_⟩, ?_⟩
 ·intro c
  obtain ⟨c1, e1⟩ := own_block h.banks.row g e; obtain ⟨c2, e2⟩ := own_block h.tones g c; rw [e1] at e2; simp at e2
 ·obtain ⟨x1, x2, x3, x4⟩ := h.banks.dat j t g a c
  obtain ⟨n1, n2, n3⟩ := h.n5 _ _ x1; exact ⟨(k3 _ (lt_of x1) n1 n3).trans x1, x2, x3, x4⟩
 ·obtain ⟨n1, n2, n3⟩ := h.n5 _ _ h.ram
  exact (k3 _ (lt_of h.ram) n1 n3).trans h.ram
 ·obtain ⟨n1, n2, n3⟩ := h.n5 _ _ h.scr
  exact (k3 _ (lt_of h.scr) n1 n3).trans h.scr
 ·refine own_kept ?_ fun g e _ => setCell_other _ _ _ _ _ (hne g e)
  rw [tc_append]
  simpa [tc] using ho
 ·intro g e
  rcases hg.own with c | c
  ·exact .inl (h.ft g (c ▸ e))
  ·exact .inr ⟨Nat.le_trans hb.size (c g e), (ho.lt g e).2⟩
 ·refine ⟨hg.os.trans hb.os, hg.tape.trans hb.tape, hg.output.trans hb.output, by rw [setCell_size]; exact Nat.le_trans hb.size hg.size, fun k hk hn => ?_⟩
  exact (setCell_other _ _ _ _ _ (by rintro rfl; exact hn h.fb)).trans (k2 k hk (fun e => hn (h.ft k e)))
set_option maxHeartbeats 2000000
set_option maxRecDepth 100000
theorem rplay (b : Nat) (x : UInt8) (w : World) {F : Nat -> Prop} {m : MS} (hm : IsR w F b m) (ht : m.tones.length <= 1000000) :
  Calls Tryz.prog 33 #[.pointer (some ⟨b, 0, none⟩), .int .u16 65286, .int .u8 (bt x)] w fun e w' => e = .returned (.tuple #[]) /\ RD w w' F b (stp m 65286 x) := by
 obtain ⟨hw, u, gr', gc, gs, tv, hm⟩ := hm
 have c2 := cell_of w b 6 _ 95 _ hm.blk rfl
 have z2 := frozen_of w b 6 _ 95 hm.blk
 have hb := bt_bound x
 have h1 : MemR (w.setCell ⟨b, 6, none⟩ (.int .u8 (bt x))) F b (inO m 16) { m with vol := bt x } u gr' gc gs tv := hm.reg 6 _ _ (fun _ _ => rfl) rfl rfl rfl
 have hwf : Wf { m with vol := bt x, tones := m.tones ++ [(m.cyc, m.pitch, bt x)] } := ⟨hw.ram, hw.scr, hw.ch0, hw.ch1, hw.pad0, hw.pad1, hw.pitch0, hw.pitch1, hb.1, hb.2, hw.time0, hw.time1, hw.bk⟩
 obtain ⟨w1, hw1⟩ : ∃ w1, w1 = w.setCell ⟨b, 6, none⟩ (.int .u8 (bt x)) := ⟨_, rfl⟩
 have t1 : Tc F w w1 := by rw [hw1]; exact (Tc.refl F w).setCell b _ hm.fb _
 simp only [<- hw1] at h1
 have d2 := cell_of w1 b 5 _ 95 _ h1.blk rfl
 have d5 := cell_of w1 b 8 _ 95 _ h1.blk rfl
 have d6 := cell_of w1 b 9 _ 95 _ h1.blk rfl
 have z6 := frozen_of w1 b 9 _ 95 h1.blk
 have e64 : IntKind.i64.wrap 65286 = 65286 := by decide
 go_enter Tryz.func33, Tryz.ntmps33
 go_wp2_with fail
 rw [<- hw1]
 clear c2 z2
 obtain ⟨W1, hW1⟩ : ∃ W1, W1 = w1.drew.alloc (.cells #[.int .i64 m.cyc, .int .u16 m.pitch, .int .u8 (bt x)] 66) := ⟨_, rfl⟩
 have hbl : Below w1.heap.size w1 W1 := by rw [hW1]; exact ((Below.refl w1.heap.size w1).drew).alloc (Nat.le_refl _) _
 have hown : (w1.drew.alloc (.cells #[.int .i64 m.cyc, .int .u16 m.pitch, .int .u8 (bt x)] 66)).ownsRow 0 66 3 tv m.tones.length (tc m.tones) := by
  rw [<- hW1]; exact own_kept h1.tones fun g _ hg => hbl.block g hg
 have hcs : Cs (w1.drew.alloc (.cells #[.int .i64 m.cyc, .int .u16 m.pitch, .int .u8 (bt x)] 66)) (.slice (some ⟨w1.heap.size, 0, none⟩) 1 1) 3 1 (tcell (m.cyc, m.pitch, bt x)) := by
  refine .inr ⟨⟨w1.heap.size, 0, none⟩, 1, rfl, rfl, ?_, tc_one [(m.cyc, m.pitch, bt x)]⟩; intro j v hj; have hn : (w1.drew.alloc (.cells #[.int .i64 m.cyc, .int .u16 m.pitch, .int .u8 (bt x)] 66)).heap[w1.heap.size]? = some (.cells (tcell (m.cyc, m.pitch, bt x)).toArray 66 (0, 0)) := heap_alloc_new w1.drew _; have e : (⟨w1.heap.size, 0, none⟩ : Addr).add j = ⟨w1.heap.size, j, none⟩ := by unfold Addr.add; split <;> simp_all
  rw [e]; exact cell_of _ _ _ _ 66 v hn hj
 have b1 : (m.tones.length + 1) * 16 <= room := by unfold room; omega
 have b2 : m.tones.length + 1 <= maxLen := by unfold maxLen; omega
 have hne : ∀ g, tv.ownBlock = some g -> g ≠ b := fun g e => h1.nt g e
 have hend : ∀ v' w2, w2.ownsRow 0 66 3 v' (m.tones.length + 1) (tc m.tones ++ tcell (m.cyc, m.pitch, bt x)) -> Grew (w1.drew.alloc (.cells #[.int .i64 m.cyc, .int .u16 m.pitch, .int .u8 (bt x)] 66)) w2 tv v' ->
   w2.cell? ⟨b, 9, none⟩ = some tv /\ w2.frozen? ⟨b, 9, none⟩ = false /\ RD w (w2.setCell ⟨b, 9, none⟩ v') F b (stp m 65286 x) := by
  intro v' w2 ho hg; rw [<- hW1] at hg; have hk : w2.heap[b]? = w1.heap[b]? := (hg.block b (Nat.lt_of_lt_of_le (lt_of h1.blk) hbl.size) (fun e => hne b e.symm rfl)).trans (hbl.block b (lt_of h1.blk)); refine ⟨(World.cell?_of_block (w := w1) hk).trans d6, (World.frozen?_of_block (w := w1) hk).trans z6, ?_⟩; obtain ⟨hM, hT⟩ := h1.tone hbl hg (m.cyc, m.pitch, bt x) ho; have e : stp m 65286 x = { m with vol := bt x, tones := m.tones ++ [(m.cyc, m.pitch, bt x)] } := by simp [stp]
  rw [e]; refine ⟨⟨hwf, _, _, _, _, _, hM.mono ?_⟩, t1.trans hT (fun _ f => f) (fun _ _ f => f)⟩; intro i hi g
  rcases g with g | ⟨g1, g2⟩
  ·exact .inl g
  ·refine .inr ⟨Nat.le_trans t1.size g1, hi⟩
 have d6a : (w1.alloc (.cells #[.int .i64 m.cyc, .int .u16 m.pitch, .int .u8 (bt x)] 66)).cell? ⟨b, 9, none⟩ = some tv := (World.cell?_of_block (w := w1) (Below.heap_alloc w1 _ b (lt_of h1.blk))).trans d6
 clear hW1 hw1 hbl hne h1 t1 hw hm hwf
 go_region_law
  (refine step_append_row rfl (.tmp 96) (.tmp 107) 37 66 (.agg #[.int .i64 0, .int .u16 0, .int .u8 0]) 3 16 Tryz.underlying37 info90 rfl (by decide) rfl 0 tv m.tones.length (tc m.tones) (by simp [Act.eval]) hown (.slice (some ⟨w1.heap.size, 0, none⟩) 1 1) 1 (tcell (m.cyc, m.pitch, bt x)) (by simp [Act.eval]) hcs b1 b2 (Nat.zero_le _) ?_; intro v' w2 ho hg; obtain ⟨g9, cap9, rfl⟩ := own_pos ho (Nat.succ_pos m.tones.length); obtain ⟨f6, g6, hD⟩ := hend (.slice (some ⟨g9, 0, none⟩) (m.tones.length + 1) cap9) w2 ho hg; clear hend)
 all_goals
  go_wp2
  go_end0
  exact ⟨rfl, hD⟩
set_option maxHeartbeats 2000000
set_option maxRecDepth 100000
theorem neq_nil (W : World) (p : Option Addr) (n c : Nat) : (binOp .neq 22 (.slice p n c) (.slice none 0 0)).run Tryz.prog W = .ok (.bool (!p.isNone)) W := by
 have h : ∀ d : Nat, (Op.equalIn (d + 1) 22 (.slice p n c) (.slice none 0 0)).run Tryz.prog W = .ok p.isNone W := fun d => by
  cases p <;> simp [Op.equalIn, run_underlying Tryz.underlying22]
 have h2 : (Op.equal 22 (.slice p n c) (.slice none 0 0)).run Tryz.prog W = .ok p.isNone W := h 9999
 simp [binOp, h2]
theorem mul256 (x : UInt8) : IntKind.u16.wrap (256 * bt x) = 256 * bt x := by have := bt_bound x; rw [u16_wrap]; omega
theorem rstore_port (b : Nat) (z : Int) (h0 : 52224 <= z) (h1 : z < 65536) (x : UInt8) (w : World) {F : Nat -> Prop} {m : MS} (hm : IsR w F b m) (ht : m.tones.length <= 1000000) :
  Calls Tryz.prog 33 #[.pointer (some ⟨b, 0, none⟩), .int .u16 z, .int .u8 (bt x)] w fun e w' => e = .returned (.tuple #[]) /\ RD w w' F b (stp m z x) := by
 have hb := bt_bound x
 have e0 := i64_id z (by omega) h1
 have d1 : decide (z < 16384) = false := by simp; omega
 have d2 : decide (z < 32768) = false := by simp; omega
 have d3 : decide (z < 49152) = false := by simp; omega
 have d4 : decide (z < 52224) = false := by simp; omega
 by_cases a3 : z = 65286
 ·subst a3; exact rplay b x w hm ht
 obtain ⟨hw, u, gr', gc, gs, tv, h⟩ := id hm
 by_cases a0 : z = 65280
 ·subst a0
  have e : stp m 65280 x = { m with ch := bt x % 16 } := by simp [stp]
  have c2 := cell_of w b 3 _ 95 _ h.blk rfl; have z2 := frozen_of w b 3 _ 95 h.blk; have hr : IntKind.u8.wrap ((bt x).tmod 16) = bt x % 16 := by rw [u8_wrap, Int.tmod_eq_emod_of_nonneg hb.1]; omega
  have hfin : RD w (w.setCell ⟨b, 3, none⟩ (.int .u8 (bt x % 16))) F b (stp m 65280 x) := by
   rw [e]; exact RD.set (Below.refl _ _) b 3 _ h.fb ⟨hw.ram, hw.scr, by simp only; omega, by simp only; omega, hw.pad0, hw.pad1, hw.pitch0, hw.pitch1, hw.vol0, hw.vol1, hw.time0, hw.time1, hw.bk⟩ (by rw [inO_congr (m' := { m with ch := bt x % 16 }) (m := m) rfl]; exact h.reg 3 _ _ (fun _ _ => rfl) rfl rfl rfl)
  have HF : Hid _ := hfin; clear hfin h hw hm e0 d1 d2 d3 d4 e
  go_enter Tryz.func33, Tryz.ntmps33; go_wp2
  go_end0
  exact ⟨rfl, HF.out⟩
 by_cases a1 : z = 65284
 ·subst a1
  have e : stp m 65284 x = { m with pitch := m.pitch / 256 * 256 + bt x } := by simp [stp]
  have c2 := cell_of w b 5 _ 95 _ h.blk rfl; have z2 := frozen_of w b 5 _ 95 h.blk; have hp0 := hw.pitch0; have hp1 := hw.pitch1; have q1 : IntKind.u16.wrap (m.pitch.tdiv 256) = m.pitch / 256 := by rw [u16_wrap, Int.tdiv_eq_ediv_of_nonneg hp0]; omega
  have q2 : IntKind.u16.wrap (m.pitch / 256 * 256) = m.pitch / 256 * 256 := by rw [u16_wrap]; omega
  have q3 : IntKind.u16.wrap (bt x) = bt x := by rw [u16_wrap]; omega
  have q4 : IntKind.u16.wrap (m.pitch / 256 * 256 + bt x) = m.pitch / 256 * 256 + bt x := by rw [u16_wrap]; omega
  have hfin : RD w (w.setCell ⟨b, 5, none⟩ (.int .u16 (m.pitch / 256 * 256 + bt x))) F b (stp m 65284 x) := by
   rw [e]; exact RD.set (Below.refl _ _) b 5 _ h.fb ⟨hw.ram, hw.scr, hw.ch0, hw.ch1, hw.pad0, hw.pad1, by simp only; omega, by simp only; omega, hw.vol0, hw.vol1, hw.time0, hw.time1, hw.bk⟩ (by rw [inO_congr (m' := { m with pitch := m.pitch / 256 * 256 + bt x }) (m := m) rfl]; exact h.reg 5 _ _ (fun _ _ => rfl) rfl rfl rfl)
  have HF : Hid _ := hfin; clear hfin h hw hm e0 d1 d2 d3 d4 e
  go_enter Tryz.func33, Tryz.ntmps33; go_wp2
  go_end0
  exact ⟨rfl, HF.out⟩
 by_cases a2 : z = 65285
 ·subst a2
  have e : stp m 65285 x = { m with pitch := m.pitch % 256 + 256 * bt x } := by simp [stp]
  have c2 := cell_of w b 5 _ 95 _ h.blk rfl; have z2 := frozen_of w b 5 _ 95 h.blk; have hp0 := hw.pitch0; have hp1 := hw.pitch1; have q1 : IntKind.u16.wrap (m.pitch.tmod 256) = m.pitch % 256 := by rw [u16_wrap, Int.tmod_eq_emod_of_nonneg hp0]; omega
  have q2 := mul256 x; have q3 : IntKind.u16.wrap (bt x) = bt x := by rw [u16_wrap]; omega
  have q4 : IntKind.u16.wrap (m.pitch % 256 + 256 * bt x) = m.pitch % 256 + 256 * bt x := by rw [u16_wrap]; omega
  have hfin : RD w (w.setCell ⟨b, 5, none⟩ (.int .u16 (m.pitch % 256 + 256 * bt x))) F b (stp m 65285 x) := by
   rw [e]; exact RD.set (Below.refl _ _) b 5 _ h.fb ⟨hw.ram, hw.scr, hw.ch0, hw.ch1, hw.pad0, hw.pad1, by simp only; omega, by simp only; omega, hw.vol0, hw.vol1, hw.time0, hw.time1, hw.bk⟩ (by rw [inO_congr (m' := { m with pitch := m.pitch % 256 + 256 * bt x }) (m := m) rfl]; exact h.reg 5 _ _ (fun _ _ => rfl) rfl rfl rfl)
  have HF : Hid _ := hfin; clear hfin h hw hm e0 d1 d2 d3 d4 e
  go_enter Tryz.func33, Tryz.ntmps33; go_wp2
  go_end0
  exact ⟨rfl, HF.out⟩
 have f0 : (z == 65280) = false := by simpa using a0
 have f1 : (z == 65284) = false := by simpa using a1
 have f2 : (z == 65285) = false := by simpa using a2
 have f3 : (z == 65286) = false := by simpa using a3
 have e : stp m z x = m := by unfold stp; simp [a0, a1, a2, a3]
 rw [e]
 clear h hw
 go_enter Tryz.func33, Tryz.ntmps33
 go_wp2
 go_end0
 exact ⟨rfl, RD.same hm (Below.refl _ _)⟩
theorem rstore_any (b : Nat) (z : Int) (h0 : 0 <= z) (h1 : z < 65536) (x : UInt8) (w : World) {F : Nat -> Prop} {m : MS} (hm : IsR w F b m) (ht : m.tones.length <= 1000000) :
  Calls Tryz.prog 33 #[.pointer (some ⟨b, 0, none⟩), .int .u16 z, .int .u8 (bt x)] w fun e w' => e = .returned (.tuple #[]) /\ RD w w' F b (st m z x) := by
 have e0 := i64_id z h0 h1
 by_cases a1 : z < 16384
 ·have el : st m z x = m := by simp only [st, a1, if_true]
  rw [el]; have d1 : decide (z < 16384) = true := by simpa using a1
  go_enter Tryz.func33, Tryz.ntmps33; go_wp2
  go_end0
  exact ⟨rfl, RD.same hm (Below.refl _ _)⟩
 have d1 : decide (z < 16384) = false := by simpa using a1
 by_cases a2 : z < 32768
 ·obtain ⟨hw, u, gr', gc, gs, tv, h⟩ := id hm
  have d2 : decide (z < 32768) = true := by simpa using a2
  have hbk := rbank_any b (inO m 16) w h hw.ch0 hw.ch1 (inO_len m 16); have hn : m.ch = (m.ch.toNat : Int) := by have := hw.ch0; omega
  have hch : m.ch.toNat < 16 := by have := hw.ch1; have := hw.ch0; omega
  have HEN : Hid (m.banks m.ch.toNat = none -> st m z x = m) := fun hnone => by simp only [st, a1, a2, if_true, if_false, hnone]
  have HES : Hid (∀ l, m.banks m.ch.toNat = some l -> st m z x = { m with banks := upd m.banks m.ch.toNat (l.set (z - 16384).toNat x) }) := fun l hbn => by simp only [st, a1, a2, if_true, if_false, hbn]
  have HH : Hid _ := h; have HM : Hid _ := hm; clear h hm; have q0 := eql_nil 22 5 Tryz.underlying22; have q9 : ∀ (W : World) (p : Option Addr) (n c : Nat), (binOp .neq 22 (.slice p n c) (.slice none 0 0)).run Tryz.prog W = .ok (.bool (!p.isNone)) W := neq_nil
  go_enter Tryz.func33, Tryz.ntmps33; go_wp2_with fail
  refine hbk.mono ?_; rintro e w2 ⟨hb2, hc⟩
  rcases hc with ⟨rfl, hno⟩ | ⟨i, t, g, hi, hg, htc, rfl⟩
  ·have hnone : m.banks m.ch.toNat = none := by
    cases hb : m.banks m.ch.toNat with
    | none => rfl
    | some l => exact absurd (by rw [<- hn]) (hno _ ((inO_mem m m.ch.toNat l 16).2 ⟨hch, hb⟩))
   have HE : Hid _ := HEN.out hnone; clear hno hnone HEN HES; go_wp2
   go_end0
   exact ⟨rfl, by rw [HE.out]; exact RD.same HM.out hb2⟩
  ·have hmem : (((m.ch.toNat : Nat) : Int), t.2) ∈ inO m 16 := by
    have : t = (((m.ch.toNat : Nat) : Int), t.2) := by rw [<- hn, <- htc]
    rw [<- this]; exact List.mem_of_getElem? hi
   have hbn := ((inO_mem m m.ch.toNat t.2 16).1 hmem).2; have h2 := HH.out.kept (W' := w2) fun j hj _ => hb2.block j hj
   obtain ⟨x1, x2, x3, x4⟩ := h2.banks.dat i t g hi hg; obtain ⟨k, hk⟩ : ∃ k : Nat, z = k + 16384 := ⟨(z - 16384).toNat, by omega⟩
   have hkl : k < 16384 := by omega
   have hc := cell_of w2 g.1 k _ 5 _ x1 ((bv_get t.2 _ _).2 ⟨_, lb_of t.2 k (by omega), rfl⟩); have hz := frozen_of w2 g.1 k _ 5 x1; have el := HES.out _ hbn; rw [show (z - 16384).toNat = k by omega] at el
   have hfin : RD w (w2.setCell ⟨g.1, k, none⟩ (.int .u8 (bt x))) F b (st m z x) := by
    rw [el]; refine RD.set hb2 g.1 k _ (HH.out.fg g (List.mem_of_getElem? hg)) (hw.bank _ k t.2 x hbn) (u := u) (gr' := gr') (gc := gc) (gs := gs) (tv := tv) ?_; rw [inO_setB m m.ch.toNat t.2 _ hbn 16, show ((m.ch.toNat : Nat) : Int) = t.1 from hn.symm.trans htc.symm]; exact h2.bankS (inO_keys m 16).1 i t g hi hg k x _ rfl rfl rfl (fun _ _ => rfl)
   have e1 : IntKind.i64.wrap (z - 16384) = (k : Int) := by rw [hk, show (k : Int) + 16384 - 16384 = (k : Int) by omega]; exact i64_id _ (by omega) (by omega)
   have i1 : (k : Int) < 16384 := by omega
   generalize (t.2.getD k 0).toNat = y at *
   have HF : Hid _ := hfin; clear hmem hbn hi hg htc x1 x2 x3 x4 el hk hb2 h2 hfin HEN HES; go_wp2
   go_end0
   exact ⟨rfl, HF.out⟩
 have d2 : decide (z < 32768) = false := by simpa using a2
 by_cases a3 : z < 49152
 ·obtain ⟨hw, u, gr', gc, gs, tv, h⟩ := hm
  have d3 : decide (z < 49152) = true := by simpa using a3
  have el : st m z x = { m with ram := m.ram.set (z - 32768).toNat x } := by simp only [st, a1, a2, a3, if_true, if_false]
  obtain ⟨k, rfl⟩ : ∃ k : Nat, z = k + 32768 := ⟨(z - 32768).toNat, by omega⟩
  rw [show ((k : Int) + 32768 - 32768).toNat = k by omega] at el; have c1 := cell_of w b 1 _ 95 _ h.blk rfl; have hc := cell_of w gr' k _ 5 _ h.ram ((bv_get m.ram _ _).2 ⟨_, lb_of m.ram k (by rw [h.rl]; omega), rfl⟩); have hz := frozen_of w gr' k _ 5 h.ram
  have hfin : RD w (w.setCell ⟨gr', k, none⟩ (.int .u8 (bt x))) F b (st m ((k : Int) + 32768) x) := by
   rw [el]; exact RD.set (Below.refl _ _) gr' k _ h.fr ⟨by simp [hw.ram], hw.scr, hw.ch0, hw.ch1, hw.pad0, hw.pad1, hw.pitch0, hw.pitch1, hw.vol0, hw.vol1, hw.time0, hw.time1, hw.bk⟩ (by rw [inO_congr (m' := { m with ram := m.ram.set k x }) (m := m) rfl]; exact h.ramS k x)
  have e1 : IntKind.i64.wrap ((k : Int) + 32768 - 32768) = (k : Int) := by rw [show (k : Int) + 32768 - 32768 = (k : Int) by omega]; exact i64_id _ (by omega) (by omega)
  have i1 : (k : Int) < 16384 := by omega
  generalize (m.ram.getD k 0).toNat = y at *
  have HF : Hid _ := hfin; clear h el hfin hw
  go_enter Tryz.func33, Tryz.ntmps33; go_wp2
  go_end0
  exact ⟨rfl, HF.out⟩
 have d3 : decide (z < 49152) = false := by simpa using a3
 by_cases a4 : z < 52224
 ·obtain ⟨hw, u, gr', gc, gs, tv, h⟩ := hm
  have d4 : decide (z < 52224) = true := by simpa using a4
  have el : st m z x = { m with scr := m.scr.set (z - 49152).toNat x } := by simp only [st, a1, a2, a3, a4, if_true, if_false]
  obtain ⟨k, rfl⟩ : ∃ k : Nat, z = k + 49152 := ⟨(z - 49152).toNat, by omega⟩
  rw [show ((k : Int) + 49152 - 49152).toNat = k by omega] at el; have c1 := cell_of w b 2 _ 95 _ h.blk rfl; have hc := cell_of w gc k _ 5 _ h.scr ((bv_get m.scr _ _).2 ⟨_, lb_of m.scr k (by rw [h.sl]; omega), rfl⟩); have hz := frozen_of w gc k _ 5 h.scr
  have hfin : RD w (w.setCell ⟨gc, k, none⟩ (.int .u8 (bt x))) F b (st m ((k : Int) + 49152) x) := by
   rw [el]; exact RD.set (Below.refl _ _) gc k _ h.fc ⟨hw.ram, by simp [hw.scr], hw.ch0, hw.ch1, hw.pad0, hw.pad1, hw.pitch0, hw.pitch1, hw.vol0, hw.vol1, hw.time0, hw.time1, hw.bk⟩ (by rw [inO_congr (m' := { m with scr := m.scr.set k x }) (m := m) rfl]; exact h.scrS k x)
  have e1 : IntKind.i64.wrap ((k : Int) + 49152 - 49152) = (k : Int) := by rw [show (k : Int) + 49152 - 49152 = (k : Int) by omega]; exact i64_id _ (by omega) (by omega)
  have i1 : (k : Int) < 3072 := by omega
  generalize (m.scr.getD k 0).toNat = y at *
  have HF : Hid _ := hfin; clear h el hfin hw
  go_enter Tryz.func33, Tryz.ntmps33; go_wp2
  go_end0
  exact ⟨rfl, HF.out⟩
 have := rstore_port b z (by omega) h1 x w hm ht
 simpa only [st, a1, a2, a3, a4, if_false] using this
set_option maxHeartbeats 1000000
set_option maxRecDepth 100000
theorem rsetCell_any (b : Nat) (z : Int) (h0 : 0 <= z) (h1 : z < 65536) (X : Int) (x0 : 0 <= X) (x1 : X < 65536) (w : World) {F : Nat -> Prop} {m : MS} (hm : IsR w F b m) (ht : m.tones.length <= 999999) :
  Calls Tryz.prog 78 #[.pointer (some ⟨b, 0, none⟩), .int .u16 z, .int .u16 X] w fun e w' => e = .returned (.tuple #[]) /\ RD w w' F b (sc m z X) := by
 have hs := rstore_any b z h0 h1 (b8 X) w hm (by omega)
 have e1 : IntKind.u8.wrap X = bt (b8 X) := by rw [u8_wrap, bt_b8]
 have e2 := u16_wrap (z + 1)
 unfold sc
 obtain ⟨y, hy⟩ : ∃ y, y = b8 (X / 256) := ⟨_, rfl⟩
 rw [<- hy]
 have e3 : IntKind.u8.wrap (X / 256) = bt y := by rw [u8_wrap, hy, bt_b8]
 have e4 : IntKind.u16.wrap (X.tdiv 256) = X / 256 := by rw [u16_wrap, Int.tdiv_eq_ediv_of_nonneg x0]; omega
 have e5 : X / 256 = bt y := by rw [hy, bt_b8]; omega
 clear hy
 go_enter Tryz.func78, Tryz.ntmps78
 go_wp2_with fail
 refine hs.mono ?_
 rintro e w1 ⟨rfl, hD⟩
 have ht2 := st_tones m z (b8 X)
 have hs2 := rstore_any b ((z + 1) % 65536) (by omega) (by omega) y w1 hD.1 (by omega)
 go_wp2_with fail
 refine hs2.mono ?_
 rintro e w2 ⟨rfl, hD2⟩
 go_wp2
 go_end0
 exact ⟨rfl, hD.next hD2⟩
theorem rchoose_any (b : Nat) (X : Int) (w : World) {F : Nat -> Prop} {m : MS} (hm : IsR w F b m) (ht : m.tones.length <= 1000000) :
  Calls Tryz.prog 81 #[.pointer (some ⟨b, 0, none⟩), .int .u16 X] w fun e w' => e = .returned (.tuple #[]) /\ RD w w' F b (st m 65280 (b8 X)) := by
 have hs := rstore_any b 65280 (by omega) (by omega) (b8 X) w hm ht
 have e1 : IntKind.u8.wrap X = bt (b8 X) := by rw [u8_wrap, bt_b8]
 go_enter Tryz.func81, Tryz.ntmps81
 go_wp2_with fail
 refine hs.mono ?_
 rintro e w1 ⟨rfl, hD⟩
 go_wp2
 go_end0
 exact ⟨rfl, hD⟩
theorem rplay_any (b : Nat) (X : Int) (x0 : 0 <= X) (x1 : X < 65536) (v : UInt8) (w : World) {F : Nat -> Prop} {m : MS} (hm : IsR w F b m) (ht : m.tones.length <= 999990) :
  Calls Tryz.prog 80 #[.pointer (some ⟨b, 0, none⟩), .int .u16 X, .int .u8 (bt v)] w fun e w' => e = .returned (.tuple #[]) /\ RD w w' F b (st (sc m 65284 X) 65286 v) := by
 have hs := rsetCell_any b 65284 (by omega) (by omega) X x0 x1 w hm (by omega)
 have t1 := st_tones m 65284 (b8 X)
 have t2 := st_tones (st m 65284 (b8 X)) ((65284 + 1) % 65536) (b8 (X / 256))
 go_enter Tryz.func80, Tryz.ntmps80
 go_wp2_with fail
 refine hs.mono ?_
 rintro e w1 ⟨rfl, hD⟩
 have hs2 := rstore_any b 65286 (by omega) (by omega) v w1 hD.1 (by unfold sc; omega)
 go_wp2_with fail
 refine hs2.mono ?_
 rintro e w2 ⟨rfl, hD2⟩
 go_wp2
 go_end0
 exact ⟨rfl, hD.next hD2⟩
theorem rplot_any (b : Nat) (X Y C : Int) (x0 : 0 <= X) (x1 : X < 65536) (y0 : 0 <= Y) (y1 : Y < 65536) (w : World) {F : Nat -> Prop} {m : MS} (hm : IsR w F b m) (ht : m.tones.length <= 1000000) :
  Calls Tryz.prog 79 #[.pointer (some ⟨b, 0, none⟩), .int .u16 X, .int .u16 Y, .int .u16 C] w fun e w' => e = .returned (.tuple #[]) /\ RD w w' F b (plt m X Y C) := by
 by_cases a1 : X < 64
 ·by_cases a2 : Y < 48
  ·have hs := rstore_any b (49152 + 64 * Y + X) (by omega) (by omega) (b8 C) w hm ht
   have e1 : IntKind.u8.wrap C = bt (b8 C) := by rw [u8_wrap, bt_b8]
   have e2 : IntKind.u16.wrap (64 * Y) = 64 * Y := by rw [u16_wrap]; omega
   have e3 : IntKind.u16.wrap (49152 + 64 * Y) = 49152 + 64 * Y := by rw [u16_wrap]; omega
   have e4 : IntKind.u16.wrap (49152 + 64 * Y + X) = 49152 + 64 * Y + X := by rw [u16_wrap]; omega
   have ep : plt m X Y C = st m (49152 + 64 * Y + X) (b8 C) := by simp [plt, a1, a2]
   rw [ep]
   go_enter Tryz.func79, Tryz.ntmps79; go_wp2_with fail
   refine hs.mono ?_; rintro e w1 ⟨rfl, hD⟩; go_wp2
   go_end0
   exact ⟨rfl, hD⟩
  ·have ep : plt m X Y C = m := by simp [plt, a2]
   rw [ep]; have a3 : decide (Y < 48) = false := by simpa using a2
   go_enter Tryz.func79, Tryz.ntmps79; go_wp2
   go_end0
   exact ⟨rfl, RD.same hm (Below.refl _ _)⟩
 ·have ep : plt m X Y C = m := by simp [plt, a1]
  rw [ep]; have a3 : decide (X < 64) = false := by simpa using a1
  go_enter Tryz.func79, Tryz.ntmps79; go_wp2
  go_end0
  exact ⟨rfl, RD.same hm (Below.refl _ _)⟩
theorem MemR.clear {W : World} {F : Nat -> Prop} {b : Nat} {bs : List (Int × List UInt8)} {m : MS} {u : Value} {gr' gc : Nat} {gs : List (Nat × Nat)} {tv : Value} (h : MemR W F b bs m u gr' gc gs tv) : MemR (W.setCell ⟨b, 9, none⟩ (.slice none 0 0)) F b bs { m with tones := [] } u gr' gc gs (.slice none 0 0) := by
 have k3 : ∀ k, k ≠ b -> (W.setCell ⟨b, 9, none⟩ (.slice none 0 0)).heap[k]? = W.heap[k]? := fun k h1 => setCell_other _ _ _ _ _ h1
 refine ⟨by rw [setCell_heap W b 9 _ 95 _ h.blk]; rfl, ⟨h.banks.len, own_kept h.banks.row fun g e hg2 => k3 g (h.nu g e), fun j t g a c => ?_, h.banks.nd⟩, ?_, ?_, h.rl, h.sl, World.ownsRow_nil _ _ _ _, h.nr, h.nc, h.rc, h.fb, h.fu, h.fg, h.fr, h.fc, ?_⟩
 ·obtain ⟨x1, x2, x3, x4⟩ := h.banks.dat j t g a c
  exact ⟨(k3 _ (h.n5 _ _ x1).1).trans x1, x2, x3, x4⟩
 ·exact (k3 _ (h.n5 _ _ h.ram).1).trans h.ram
 ·exact (k3 _ (h.n5 _ _ h.scr).1).trans h.scr
 ·intro g e; simp [Value.ownBlock] at e
theorem rbegin_any (b : Nat) (x : UInt8) (w : World) {F : Nat -> Prop} {m : MS} (hm : IsR w F b m) :
  Calls Tryz.prog 98 #[.pointer (some ⟨b, 0, none⟩), .int .u8 (bt x)] w fun e w' => e = .returned (.tuple #[]) /\ RD w w' F b (bg m (bt x)) := by
 obtain ⟨hw, u, gr', gc, gs, tv, hm⟩ := hm
 have hb := bt_bound x
 have hf := hm.fb
 have k1 := hm.reg 4 (.int .u8 (bt x)) { m with pad := bt x } (fun _ _ => rfl) rfl rfl rfl
 have c1 := cell_of w b 4 _ 95 _ hm.blk rfl
 have z1 := frozen_of w b 4 _ 95 hm.blk
 have t0 := Tc.refl F w
 have t1 := t0.setCell b 4 hf (.int .u8 (bt x))
 generalize hw1 : w.setCell ⟨b, 4, none⟩ (.int .u8 (bt x)) = w1 at k1 t1
 have c2 := cell_of w1 b 7 _ 95 _ k1.blk rfl
 have z2 := frozen_of w1 b 7 _ 95 k1.blk
 have e1 := u16_wrap (m.time + 1)
 have k2 := k1.reg 7 (.int .u16 ((m.time + 1) % 65536)) { m with pad := bt x, time := (m.time + 1) % 65536 } (fun _ _ => rfl) rfl rfl rfl
 have t2 := t1.setCell b 7 hf (.int .u16 ((m.time + 1) % 65536))
 generalize hw2 : w1.setCell ⟨b, 7, none⟩ (.int .u16 ((m.time + 1) % 65536)) = w2 at k2 t2
 have c3 := cell_of w2 b 9 _ 95 _ k2.blk rfl
 have z3 := frozen_of w2 b 9 _ 95 k2.blk
 have k3 := k2.clear
 have t3 := t2.setCell b 9 hf (.slice none 0 0)
 generalize hw3 : w2.setCell ⟨b, 9, none⟩ (.slice none 0 0) = w3 at k3 t3
 have c4 := cell_of w3 b 8 _ 95 _ k3.blk rfl
 have z4 := frozen_of w3 b 8 _ 95 k3.blk
 have k4 := k3.reg 8 (.int .i64 0) (bg m (bt x)) (fun _ _ => rfl) rfl rfl rfl
 have t4 := t3.setCell b 8 hf (.int .i64 0)
 have hfin : RD w (w3.setCell ⟨b, 8, none⟩ (.int .i64 0)) F b (bg m (bt x)) := by
  refine ⟨⟨hw.regs rfl rfl rfl hw.ch0 hw.ch1 hb.1 hb.2 hw.pitch0 hw.pitch1 hw.vol0 hw.vol1 (by simp only [bg]; omega) (by simp only [bg]; omega), u, gr', gc, gs, .slice none 0 0, ?_⟩, t4⟩; rw [inO_congr (m' := bg m (bt x)) (m := m) rfl]; exact k4.mono fun _ _ f => .inl f
 have HF : Hid _ := hfin
 clear k1 k2 k3 k4 t0 t1 t2 t3 t4 hm hw hfin
 go_enter Tryz.func98, Tryz.ntmps98
 go_wp2
 go_end0
 exact ⟨rfl, HF.out⟩
theorem rcycle (b : Nat) (n : Int) (w : World) {F : Nat -> Prop} {m : MS} (hm : IsR w F b m) :
  (∃ u, w.cell? ⟨b, 8, none⟩ = some u) /\ w.frozen? ⟨b, 8, none⟩ = false /\ RD w (w.setCell ⟨b, 8, none⟩ (.int .i64 n)) F b { m with cyc := n } := by
 obtain ⟨hw, u, gr', gc, gs, tv, h⟩ := hm
 refine ⟨⟨_, cell_of w b 8 _ 95 _ h.blk rfl⟩, frozen_of w b 8 _ 95 h.blk, ?_⟩
 exact RD.set (Below.refl _ _) b 8 _ h.fb ⟨hw.ram, hw.scr, hw.ch0, hw.ch1, hw.pad0, hw.pad1, hw.pitch0, hw.pitch1, hw.vol0, hw.vol1, hw.time0, hw.time1, hw.bk⟩ (by rw [inO_congr (m' := { m with cyc := n }) (m := m) rfl]; exact h.reg 8 _ _ (fun _ _ => rfl) rfl rfl rfl)
end Go.Proofs.YteldjmecomngeaaGreat.M
